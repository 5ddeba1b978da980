/- The law ObjLimits: walked. (Made by golim.py.) -/
import Derived.Test.YtfkecmcnhmlnoaaDoorZOBent0
import Derived.Test.YtfkecmcnhmlnoaaDoorZObjM
import Derived.Test.YtfkecmcnhmlnoaaDoorZObjU
import Derived.Deep.Cut
import Derived.Deep.CutRange
import Derived.Deep.CutBlock
import Derived.Deep.RegionHeld3
import Derived.StillTailTactics
namespace Go.Proofs.YtfkecmcnhmlnoaaDoor
open Go.RowKit
theorem lzero_sy (w : World) : (zeroValue 32).run Tryd.prog w = .ok (.agg #[.string ⟨#[]⟩, .int .i64 0, .int .i64 0, .bool false]) w := by kernel_rfl
/-- what the three ways leave: an object in the box G, what is wrong with it -/
structure Lim (W : World) (A : Nat → Addr) (G n : Nat) (z : Int) (p : Bool) (w : World) (V : OV) (x : PO) : Prop where
  box : RwAt w G 29 #[V.d, V.c, V.m, V.r, V.q, V.s]
  o : OAt w V x
  fit : OFit x
  se : Sents w A
  g : W.grownBy w none
  v : (n ≤ 2 ∧ validP x = none) ∨ (2 < n ∧ validP x = some (3, none) ∧ z = 104 ∧ p = false) ∨ (2 < n ∧ validP x = some (2, some 1) ∧ z = 103 ∧ p = true)
theorem Lim.kept0 {W w w1 : World} {A : Nat → Addr} {G n : Nat} {z : Int} {p : Bool} {V : OV} {x : PO} (h : Lim W A G n z p w V x) (hg : w.grownBy w1 none) : Lim W A G n z p w1 V x :=
  ⟨h.box.kept0 hg, h.o.kept0 hg, h.fit, h.se.kept0 hg, grown_trans h.g hg, h.v⟩
/-- symbols that the loop lays, in the box G -/
structure LS (W w : World) (G : Nat) (v : Value) (l : List Sy) : Prop where
  box : RwAt w G 29 #[.slice none 0 0, .slice none 0 0, .slice none 0 0, .slice none 0 0, .slice none 0 0, v]
  own : w.ownsRow W.heap.size 32 4 v l.length (sysC l)
  g : W.grownBy w none
  ne : v.ownBlock ≠ some G
theorem LS.kept0 {W w w1 : World} {G : Nat} {v : Value} {l : List Sy} (h : LS W w G v l) (hg : w.grownBy w1 none) : LS W w1 G v l :=
  ⟨h.box.kept0 hg, h.own.kept hg (by cases v.ownBlock <;> simp), grown_trans h.g hg, h.ne⟩
theorem sl_nil (w : World) (k : IntKind) : SlAt w k (.slice none 0 0) [] := .inl ⟨⟨_, _, rfl⟩, rfl⟩
set_option maxRecDepth 100000 in
set_option maxHeartbeats 16000000 in
theorem limits_walk (a b : Int) (W : World) (A : Nat → Addr) (hS : Sents W A) (hT : Lib.TabIs Tryd.prog W "internal/strconv.uint64pow10" .u64 Lib.pow10Tab) (ha0 : -9223372036854775808 ≤ a) (ha1 : a ≤ 9223372036854775807) (hb0 : -9223372036854775808 ≤ b) (hb1 : b ≤ 9223372036854775807) :
    Calls Tryd.prog 3 #[.int .i64 a, .int .i64 b] W fun e W' => e = .returned (.bool true) ∧ Below W.heap.size W W' := by
  have HS := hid hS
  have HT := hid hT
  have Ha := hid (And.intro ha0 ha1)
  have Hb := hid (And.intro hb0 hb1)
  clear hS hT ha0 ha1 hb0 hb1
  go_enter Tryd.func3, Tryd.ntmps3
  go_wp2_with fail
  refine (first9_any HS.out.errc).mono ?_
  rintro e w2 ⟨rfl, hg⟩
  have HG2 := hid hg
  have HS2 := hid (HS.out.kept0 hg)
  clear hg
  obtain ⟨n, hn⟩ : ∃ n, numB a 5 = n := ⟨_, rfl⟩
  have Hn := hid hn
  have hn5 : n < 5 := by rw [← hn]; exact numB_lt a (by omega)
  have Hn5 := hid hn5
  obtain ⟨K, hK⟩ : ∃ K, numB b 3 = K := ⟨_, rfl⟩
  have HK := hid hK
  have hK3 : K < 3 := by rw [← hK]; exact numB_lt b (by omega)
  have HK3 := hid hK3
  have n0 : (0 : Int) ≤ (n : Int) := by omega
  have n5 : (n : Int) < 5 := by omega
  clear hn hn5 hK hK3
  go_wp2_with fail
  refine (number_of a 5 5 n rfl Hn.out (by omega) (by omega) Ha.out.1 Ha.out.2).mono ?_
  rintro e w3 ⟨rfl, rfl⟩
  have Hz := zero_obj
  go_upto_region 6 with (fail)
  clear Hz
  have al := World.grownBy_alloc w2 (.cells #[.slice none 0 0, .slice none 0 0, .slice none 0 0, .slice none 0 0, .slice none 0 0, .slice none 0 0] 29) none
  have HX := hid (RwAt.new w2 29 #[.slice none 0 0, .slice none 0 0, .slice none 0 0, .slice none 0 0, .slice none 0 0, .slice none 0 0])
  have HS3 := hid (HS2.out.kept0 al)
  have HG3 := hid (grown_trans HG2.out al)
  clear al
  obtain ⟨G, hG⟩ : ∃ G, w2.heap.size = G := ⟨_, rfl⟩
  rw [hG] at HX ⊢
  have HGe : Hid (W.heap.size ≤ G) := hid (by rw [← hG]; exact HG2.out.size)
  clear hG
  generalize w2.alloc (.cells #[.slice none 0 0, .slice none 0 0, .slice none 0 0, .slice none 0 0, .slice none 0 0, .slice none 0 0] 29) = w4 at HX HS3 HG3 ⊢
  go_wp2_with fail
  refine (number_of b 3 3 K rfl HK.out (by omega) (by omega) Hb.out.1 Hb.out.2).mono ?_
  rintro e w3 ⟨rfl, rfl⟩
  obtain ⟨y, hy⟩ : ∃ y : Int, (K : Int) = y := ⟨_, rfl⟩
  rw [hy]
  have Hy : Hid (y = 0 ∨ y = 1 ∨ y = 2) := hid (by have := HK3.out; omega)
  clear hy
  go_upto_block 0 with fail
  go_cut [7, 8] from 23 to 58 (fun u7 u8 wz => ∃ z p, u7 = .int .i64 z ∧ u8 = .bool p ∧ Hid (∃ V x, Lim W A G n z p wz V x))
  case first =>
    rcases Hy.out with rfl | rfl | rfl
    · clear Hy
      obtain ⟨i, hi, hz0, hz1, hz2⟩ := info_parts (P := Tryd.prog) (e := 52) (z := .int .u32 0) (size := 1) (bytes := 4) (by kernel_rfl)
      obtain ⟨m, hm⟩ : ∃ m, 2046 + n = m := ⟨_, rfl⟩
      have hme : (2048 : Int) + ((n : Int) - 2) = (m : Int) := by omega
      have hmk : (Instr.makeSlice 24 (.int .i64 (2048 + ((n : Int) - 2))) (.int .i64 (2048 + ((n : Int) - 2)))).run Tryd.prog w4 = .ok (.slice (some ⟨w4.heap.size, 0, none⟩) m m) (w4.alloc (.cells ((List.replicate m (0 : Int)).map (Value.int .u32)).toArray 52)) := by
        rw [hme]
        have := run_make (P := Tryd.prog) w4 24 52 i _ Tryd.underlying24 hi hz0 .i64 .i64 m m (by omega) (by omega) (by rw [hz2]; omega) (by omega)
        rw [this, hz1]
        simp only [Int.toNat_natCast]
        rw [made_u32 m]
      have Hm := hid hm
      obtain ⟨CS, hCS⟩ : ∃ CS, ((List.replicate m (0 : Int)).map (Value.int .u32)).toArray = CS := ⟨_, rfl⟩
      have HCS := hid hCS
      rw [hCS] at hmk
      clear hi hz0 hz1 hz2 hCS hm hme
      obtain ⟨K1, hK1⟩ : ∃ K1, w4.heap.size = K1 := ⟨_, rfl⟩
      rw [hK1] at hmk
      have HK1 := hid hK1
      have x0 := HX.out.cell 0 (v := .slice none 0 0) rfl
      have f0 := HX.out.free 0
      have al := World.grownBy_alloc w4 (.cells CS 52) none
      have HX5 := hid (HX.out.kept0 al)
      have HS5 := hid (HS3.out.kept0 al)
      have HG5 := hid (grown_trans HG3.out al)
      have HD5 : Hid (SlAt (w4.alloc (.cells CS 52)) .u32 (.slice (some ⟨K1, 0, none⟩) m m) (List.replicate m 0)) := hid (.inr ⟨K1, 0, m, by simp, by rw [← hK1]; simp, fun j x hx => by
        rw [Nat.zero_add, ← hK1, cell_of_row _ _ _ _ _ _ (heap_alloc_last _ _), ← HCS.out]
        rw [List.getElem?_toArray, List.getElem?_map, hx]
        rfl⟩)
      have y0 := HX5.out.cell 0 (v := .slice none 0 0) rfl
      have z0 := HX5.out.free 0
      clear al hK1
      go_wp2
      go_meet
      have hs : (w4.alloc (.cells CS 52)).grownBy ((w4.alloc (.cells CS 52)).setCell ⟨G, 0, none⟩ (.slice (some ⟨K1, 0, none⟩) m m)) (some G) := grown_setCell (grown_refl _ _) _ _
      have hgw : W.grownBy ((w4.alloc (.cells CS 52)).setCell ⟨G, 0, none⟩ (.slice (some ⟨K1, 0, none⟩) m m)) none := grown_new' (grown_trans (grown_none HG5.out) hs) (fun j hj => by obtain rfl := Option.some.inj hj; exact HGe.out)
      refine ⟨104, false, rfl, rfl, hid ⟨⟨.slice (some ⟨K1, 0, none⟩) m m, .slice none 0 0, .slice none 0 0, .slice none 0 0, .slice none 0 0, .slice none 0 0⟩, lmtD m, ?_, ?_, ?_, ?_, ?_, ?_⟩⟩
      · simpa using HX5.out.set 0 (.slice (some ⟨K1, 0, none⟩) m m)
      · refine ⟨HD5.out.kept hs (.inr (by simp only [Value.ownBlock, ne_eq, Option.some.injEq]; have := HX.out.lt; have := HK1.out; omega)), sl_nil _ _, sl_nil _ _, .inl ⟨⟨_, _, rfl⟩, rfl, rfl⟩, .inl ⟨⟨_, _, rfl⟩, rfl, rfl⟩, .inl ⟨⟨_, _, rfl⟩, rfl, rfl⟩⟩
      · exact lmtD_fit m (by have := Hm.out; have := Hn5.out; omega)
      · exact HS.out.kept0 hgw
      · exact hgw
      · rw [lmtD_valid]
        have := Hm.out
        by_cases h2 : n ≤ 2
        · exact .inl ⟨h2, by rw [if_pos (by omega)]⟩
        · exact .inr (.inl ⟨by omega, by rw [if_neg (by omega)], rfl, rfl⟩)
    · clear Hy
      obtain ⟨m, hm⟩ : ∃ m, 254 + n = m := ⟨_, rfl⟩
      have Hm := hid hm
      have HLS : Hid (LS W w4 G (.slice none 0 0) (syL 0)) := hid ⟨HX.out, World.ownsRow_nil _ _ _ _, HG3.out, by simp [Value.ownBlock]⟩
      clear hm
      go_wp2
      go_loopw [9] (fun i wr => ∃ k : Nat, k ≤ m ∧ i = .int .i64 k ∧ Hid (∃ v, LS W wr G v (syL k))) (fun i _ => m - (intOf i).toNat)
      case atStart => exact ⟨0, Nat.zero_le _, rfl, hid ⟨_, HLS.out⟩⟩
      case round =>
        obtain ⟨k, hk, rfl, HR⟩ := hrel
        have k0 : (0 : Int) ≤ (k : Int) := by omega
        have km : (m : Int) ≤ 258 := by have := Hm.out; have := Hn5.out; omega
        by_cases hlt : k < m
        · have kn : (k : Int) < (256 : Int) + ((n : Int) - 2) := by have := Hm.out; omega
          have Hlt := hid hlt
          obtain ⟨v, hv⟩ := HR.out
          obtain ⟨vp, vc, rfl⟩ := own_slice hv.own
          have HV := hid hv
          clear hlt hv HR
          obtain ⟨sk, hsk⟩ : ∃ sk : ByteArray, ⟨(dig3 k).toArray⟩ = sk := ⟨_, rfl⟩
          have hst : ∀ w : World, (Op.stringOp .add ⟨#[115]⟩ sk).run Tryd.prog w = .ok (.string (nmB k)) w := fun w => by
            rw [← nm_eq k, hsk]
            exact run_string_add_sum w _ _ (by have := dig3_size k; rw [hsk] at this; show 1 + sk.size ≤ _; omega)
          have Htx : Hid (∀ w', W.grownBy w' none → Calls Tryd.prog 10 #[.int .i64 k] w' fun e w'' => e = .returned (.string sk) ∧ w'.grownBy w'' none) := hid (fun w' hw => by
            rw [← hsk]
            have hb := grown_below hw
            have hc := HT.out.cell (g := 16) (by kernel_rfl) 0 (by decide)
            exact text_any k (by omega) w' (var?_below hb (by kernel_rfl) (World.block_lt_of_cell? _ _ hc) HT.out))
          have Hzs := lzero_sy
          obtain ⟨i, hi, hz0, hz1, hz2⟩ := info_symb
          have Hi := hid hi
          have Hz0 := hid hz0
          have Hz1 := hid hz1
          have Hz2 := hid hz2
          obtain ⟨L, hL⟩ : ∃ L, (syL k).length = L := ⟨_, rfl⟩
          have HL : Hid (L + 1 ≤ 259 ∧ L = k) := hid (by rw [← hL, syL_length]; omega)
          have HLe := hid hL
          have c0 : wr.cell? ⟨G, 5, none⟩ = some (.slice vp L vc) := by rw [← hL]; exact HV.out.box.cell 5 rfl
          have c0 : wr.drew.cell? ⟨G, 5, none⟩ = some (.slice vp L vc) := c0
          have HV1 := hid (HV.out.kept0 (grown_drew (grown_refl wr none)))
          rw [hL] at HV1
          clear hsk hi hz0 hz1 hz2 hL
          go_upto_region 23 with (fail)
          go_region_law (first
            | (refine step_append_lies _ rfl (.tmp 51) (.tmp 56) 27 rfl W.heap.size 32 i _ 4 40 Tryd.underlying27 Hi.out Hz0.out Hz1.out Hz2.out rfl (by decide) (.slice vp L vc) L (sysC (syL k)) (by simp [Act.eval]) HOw.out ⟨w5.heap.size, 0, none⟩ 1 1 [.string (nmB k), .int .i64 1, .int .i64 0, .bool false] (by simp [Act.eval]) rfl Hnews.out (by simp [Value.oneCell']) (by decide) (by have := HL.out; unfold maxLen; omega) (by have := HL.out; omega) HV3.out.g.size _ rfl ?_
               intro g cap w6 hown hgrow hat hlt2
               have HO := hid hown
               have HGr := hid hgrow
               have HAt := hid hat
               have b6 := HV3.out.box.kept hgrow (fun e => HV3.out.ne e.symm)
               have c6 := b6.cell 5 (v := .slice vp L vc) rfl
               have z6 := b6.free 5
               have HB6 := hid b6
               clear hown hgrow hat hlt2 b6 c0 c2 c3)
            | (go_simp
               go_at_call 10
               refine (Htx.out _ HV1.out.g).mono ?_
               rintro e w5 ⟨rfl, hg⟩
               have HV2 := hid (HV1.out.kept0 hg)
               have HV3 := hid (HV2.out.kept0 (World.grownBy_alloc w5 (.cells #[.string (nmB k), .int .i64 1, .int .i64 0, .bool false] 32) none))
               have HOw := hid HV3.out.own
               rw [HLe.out] at HOw
               have Hnews : Hid (∀ j u, [Value.string (nmB k), .int .i64 1, .int .i64 0, .bool false][j]? = some u → (w5.alloc (.cells #[.string (nmB k), .int .i64 1, .int .i64 0, .bool false] 32)).cell? ((⟨w5.heap.size, 0, none⟩ : Addr).add j) = some u) := hid (World.news_of_block (heap_alloc_new w5 _))
               have c2 := HV2.out.box.cell 5 (v := .slice vp L vc) rfl
               have c3 := HV3.out.box.cell 5 (v := .slice vp L vc) rfl
               clear hg)
            | fail)
          all_goals
            have hs : w6.grownBy (w6.setCell ⟨G, 5, none⟩ (.slice (some ⟨g, 0, none⟩) (L + 1) cap)) (some G) := grown_setCell (grown_refl _ _) _ _
            have hgG : g ≠ G := by
              rcases HAt.out with h | h
              · intro e; rw [e] at h; exact HV3.out.ne h
              · have := HV3.out.box.lt; omega
            have hg6 : W.grownBy w6 none := grown_new' (grown_trans (grown_none HV3.out.g) HGr.out) (fun j hj => (HV3.out.own.lt j hj).1)
            have hLS : Hid (LS W (w6.setCell ⟨G, 5, none⟩ (.slice (some ⟨g, 0, none⟩) (L + 1) cap)) G (.slice (some ⟨g, 0, none⟩) (L + 1) cap) (syL (k + 1))) := hid ⟨by simpa using HB6.out.set 5 (.slice (some ⟨g, 0, none⟩) (L + 1) cap), by
              have e1 : (syL (k + 1)).length = L + 1 := by rw [syL_length, HL.out.2]
              have e2 : sysC (syL (k + 1)) = sysC (syL k) ++ [.string (nmB k), .int .i64 1, .int .i64 0, .bool false] := by rw [syL_succ, sysC_append]; rfl
              rw [e1, e2]
              exact HO.out.kept hs (.inr (by simpa [Value.ownBlock] using hgG)),
              grown_new' (grown_trans (grown_none hg6) hs) (fun j hj => by obtain rfl := Option.some.inj hj; exact HGe.out), by simpa [Value.ownBlock] using hgG⟩
            clear hs hgG hg6 HB6 HO HGr HAt
            go_wp2
            go_roundw
            case rel => exact ⟨k + 1, Hlt.out, by go_num, hid ⟨_, hLS.out⟩⟩
            case measure => simp [intOf]; have := Hlt.out; omega
        · obtain rfl : k = m := by omega
          have kn : (k : Int) ≥ (256 : Int) + ((n : Int) - 2) := by have := Hm.out; omega
          clear hlt
          obtain ⟨v, hv⟩ := HR.out
          go_wp2
          go_meet
          refine ⟨104, false, rfl, rfl, hid ⟨⟨.slice none 0 0, .slice none 0 0, .slice none 0 0, .slice none 0 0, .slice none 0 0, v⟩, lmtS k, ?_, ?_, ?_, ?_, ?_, ?_⟩⟩
          · exact hv.box
          · exact ⟨sl_nil _ _, sl_nil _ _, sl_nil _ _, .inl ⟨⟨_, _, rfl⟩, rfl, rfl⟩, .inl ⟨⟨_, _, rfl⟩, rfl, rfl⟩, CsAt.own hv.own⟩
          · exact lmtS_fit k (by omega)
          · exact HS.out.kept0 hv.g
          · exact hv.g
          · rw [lmtS_valid k (by omega)]
            have := Hm.out
            by_cases h2 : n ≤ 2
            · exact .inl ⟨h2, by rw [if_pos (by omega)]⟩
            · exact .inr (.inl ⟨by omega, by rw [if_neg (by omega)], rfl, rfl⟩)
    · clear Hy
      obtain ⟨m, hm⟩ : ∃ m, 30 + n = m := ⟨_, rfl⟩
      have hme : (32 : Int) + ((n : Int) - 2) = (m : Int) := by omega
      have Hm := hid hm
      have Hzs := lzero_sy
      clear hm
      go_wp2
      go_loop [10, 11] (fun s i => ∃ k : Nat, k ≤ m ∧ i = .int .i64 k ∧ s = .string (xB k)) (fun _ i => m - (intOf i).toNat)
      case atStart => exact ⟨0, Nat.zero_le _, rfl, rfl⟩
      case round =>
        obtain ⟨k, hk, rfl, rfl⟩ := hrel
        have k0 : (0 : Int) ≤ (k : Int) := by omega
        have km : (m : Int) ≤ 34 := by have := Hm.out; have := Hn5.out; omega
        by_cases hlt : k < m
        · have kn : (k : Int) < (32 : Int) + ((n : Int) - 2) := by omega
          have Hlt := hid hlt
          have hsz : (xB k).size = k := by simp [xB, ByteArray.size]
          have hst : ∀ w : World, (Op.stringOp .add (xB k) ⟨#[120]⟩).run Tryd.prog w = .ok (.string (xB k ++ ⟨#[120]⟩)) w := fun w => run_string_add_sum w _ _ (by rw [hsz]; show k + 1 ≤ _; omega)
          clear hlt
          go_wp2
          go_round
          case rel => exact ⟨k + 1, Hlt.out, by go_num, by rw [← xB_succ]⟩
          case measure => simp [intOf]; have := Hlt.out; omega
        · obtain rfl : k = m := by omega
          have kn : (k : Int) ≥ (32 : Int) + ((n : Int) - 2) := by omega
          clear hlt
          have al := World.grownBy_alloc w4 (.cells #[.string ⟨#[97]⟩, .int .i64 1, .int .i64 0, .bool false, .string (xB k), .int .i64 3, .int .i64 0, .bool true] 32) none
          have HX5 := hid (HX.out.kept0 al)
          have HG5 := hid (grown_trans HG3.out al)
          have HN5 : Hid (∀ j u, [Value.string ⟨#[97]⟩, .int .i64 1, .int .i64 0, .bool false, .string (xB k), .int .i64 3, .int .i64 0, .bool true][j]? = some u → (w4.alloc (.cells #[.string ⟨#[97]⟩, .int .i64 1, .int .i64 0, .bool false, .string (xB k), .int .i64 3, .int .i64 0, .bool true] 32)).cell? ((⟨w4.heap.size, 0, none⟩ : Addr).add j) = some u) := hid (World.news_of_block (heap_alloc_new w4 _))
          have y5 := HX5.out.cell 5 (v := .slice none 0 0) rfl
          have z5 := HX5.out.free 5
          clear al
          go_wp2
          go_meet
          have hs : (w4.alloc (.cells #[.string ⟨#[97]⟩, .int .i64 1, .int .i64 0, .bool false, .string (xB k), .int .i64 3, .int .i64 0, .bool true] 32)).grownBy ((w4.alloc (.cells #[.string ⟨#[97]⟩, .int .i64 1, .int .i64 0, .bool false, .string (xB k), .int .i64 3, .int .i64 0, .bool true] 32)).setCell ⟨G, 5, none⟩ (.slice (some ⟨w4.heap.size, 0, none⟩) 2 2)) (some G) := grown_setCell (grown_refl _ _) _ _
          have hgw : W.grownBy ((w4.alloc (.cells #[.string ⟨#[97]⟩, .int .i64 1, .int .i64 0, .bool false, .string (xB k), .int .i64 3, .int .i64 0, .bool true] 32)).setCell ⟨G, 5, none⟩ (.slice (some ⟨w4.heap.size, 0, none⟩) 2 2)) none := grown_new' (grown_trans (grown_none HG5.out) hs) (fun j hj => by obtain rfl := Option.some.inj hj; exact HGe.out)
          refine ⟨103, true, rfl, rfl, hid ⟨⟨.slice none 0 0, .slice none 0 0, .slice none 0 0, .slice none 0 0, .slice none 0 0, .slice (some ⟨w4.heap.size, 0, none⟩) 2 2⟩, lmtN k, ?_, ?_, ?_, ?_, ?_, ?_⟩⟩
          · simpa using HX5.out.set 5 (.slice (some ⟨w4.heap.size, 0, none⟩) 2 2)
          · refine ⟨sl_nil _ _, sl_nil _ _, sl_nil _ _, .inl ⟨⟨_, _, rfl⟩, rfl, rfl⟩, .inl ⟨⟨_, _, rfl⟩, rfl, rfl⟩, .inr ⟨w4.heap.size, 0, 2, rfl, Nat.le_refl _, by simp, fun j u hu => ?_⟩⟩
            have hc := HN5.out j u hu
            rw [Addr.add_mid] at hc
            rw [grown_cell hs (by simp) (by simp only [ne_eq, Option.some.injEq]; have := HX.out.lt; omega)]
            exact hc
          · exact lmtN_fit k
          · exact HS.out.kept0 hgw
          · exact hgw
          · rw [lmtN_valid k (by have := Hm.out; omega) (by have := Hm.out; have := Hn5.out; omega)]
            have := Hm.out
            by_cases h2 : n ≤ 2
            · exact .inl ⟨h2, by rw [if_pos (by omega)]⟩
            · exact .inr (.inr ⟨by omega, by rw [if_neg (by omega)], rfl, rfl⟩)
  case rest =>
    obtain ⟨z, p, rfl, rfl, HH⟩ := hcut
    obtain ⟨⟨d, c, m, r, q, s⟩, x, hl⟩ := HH.out
    have HL := hid hl
    clear hl HH HX HS3 HG3 HG2 HS2
    go_wp2_with (first
      | (refine wpList_load_rw rfl 29 _ rfl rfl HL.out.box rfl Tryd.underlying29 info_object ?_)
      | fail)
    refine (valid_any HL.out.o HL.out.se.errc HL.out.fit).mono ?_
    rintro e wa ⟨fv, rfl, hfl, hg⟩
    have HLa := hid (HL.out.kept0 hg)
    have HF := hid hfl
    clear hfl hg HL
    go_wp2_with (first
      | (refine wpList_load_rw rfl 29 _ rfl rfl HLa.out.box rfl Tryd.underlying29 info_object ?_)
      | fail)
    rcases HLa.out.v with ⟨hn2, hv⟩ | ⟨hn2, hv, rfl, rfl⟩ | ⟨hn2, hv, rfl, rfl⟩
    · have hfl := HF.out
      rw [hv] at hfl
      obtain rfl : fv = .nilIface := hfl
      have HLen := hid (bytes_len (valid_ok hv))
      refine (bytes_yes HLa.out.o HLa.out.se.errc HLa.out.fit hv).mono ?_
      rintro e wb ⟨v, rfl, hby, hg⟩
      obtain ⟨yp, yc, rfl⟩ := own_slice hby.own
      have HGb := hid (grown_trans HLa.out.g hg)
      obtain ⟨L, hL⟩ : ∃ L, (bytesP x).length = L := ⟨_, rfl⟩
      rw [hL] at HLen ⊢
      have hL24 : (L : Int) ≥ 24 := by have := HLen.out; omega
      have hn0 : (n : Int) - 2 ≤ 0 := by omega
      clear hby hg hv hL
      go_wp2
      go_ret
      exact ⟨rfl, grown_below HGb.out⟩
    · have hfl := HF.out
      rw [hv] at hfl
      refine (bytes_no HLa.out.o HLa.out.se.errc HLa.out.fit (by rw [hv]; simp)).mono ?_
      rintro e wb ⟨fv2, rfl, hfl2, hg⟩
      rw [hv] at hfl2
      have HLb := hid (HLa.out.kept0 hg)
      have HFa := hid (hfl.kept0 hg)
      have HFb := hid hfl2
      have hn0 : (n : Int) - 2 > 0 := by omega
      clear hfl hfl2 hg HF hv
      go_wp2_with fail
      refine (is_flt HLb.out.se HFa.out (fun c p h => by obtain ⟨rfl, rfl⟩ := Prod.mk.inj (Option.some.inj h); omega) 104 true (by decide)).mono ?_
      rintro e wc ⟨rfl, hg⟩
      have HLc := hid (HLb.out.kept0 hg)
      have HFc := hid (HFb.out.kept0 hg)
      clear hg HFa HFb HLb HLa
      go_wp2_with fail
      refine (is_flt HLc.out.se HFc.out (fun c p h => by obtain ⟨rfl, rfl⟩ := Prod.mk.inj (Option.some.inj h); omega) 104 true (by decide)).mono ?_
      rintro e wd ⟨rfl, hg⟩
      have HGd := hid (grown_trans HLc.out.g hg)
      clear hg
      go_wp2
      go_ret
      exact ⟨rfl, grown_below HGd.out⟩
    · have hfl := HF.out
      rw [hv] at hfl
      refine (bytes_no HLa.out.o HLa.out.se.errc HLa.out.fit (by rw [hv]; simp)).mono ?_
      rintro e wb ⟨fv2, rfl, hfl2, hg⟩
      rw [hv] at hfl2
      have HLb := hid (HLa.out.kept0 hg)
      have HFa := hid (hfl.kept0 hg)
      have HFb := hid hfl2
      have hn0 : (n : Int) - 2 > 0 := by omega
      clear hfl hfl2 hg HF hv
      go_wp2_with fail
      refine (placed_any 103 1 (by omega) _).mono ?_
      rintro e wc ⟨rfl, hg⟩
      have HLc := hid (HLb.out.kept0 hg)
      have HFc := hid (HFa.out.kept0 hg)
      have HFd := hid (HFb.out.kept0 hg)
      clear hg HFa HFb HLb HLa
      go_wp2_with fail
      refine (same_flt HLc.out.se HFc.out (fun c p h => by obtain ⟨rfl, rfl⟩ := Prod.mk.inj (Option.some.inj h); omega) 103 true 1 true (by decide)).mono ?_
      rintro e wd ⟨rfl, hg⟩
      have HLd := hid (HLc.out.kept0 hg)
      have HFe := hid (HFd.out.kept0 hg)
      clear hg HFc HFd HLc
      go_wp2_with fail
      refine (placed_any 103 1 (by omega) _).mono ?_
      rintro e we ⟨rfl, hg⟩
      have HLe := hid (HLd.out.kept0 hg)
      have HFf := hid (HFe.out.kept0 hg)
      clear hg HFe HLd
      go_wp2_with fail
      refine (same_flt HLe.out.se HFf.out (fun c p h => by obtain ⟨rfl, rfl⟩ := Prod.mk.inj (Option.some.inj h); omega) 103 true 1 true (by decide)).mono ?_
      rintro e wf ⟨rfl, hg⟩
      have HGd := hid (grown_trans HLe.out.g hg)
      clear hg
      go_wp2
      go_ret
      exact ⟨rfl, grown_below HGd.out⟩
end Go.Proofs.YtfkecmcnhmlnoaaDoor
