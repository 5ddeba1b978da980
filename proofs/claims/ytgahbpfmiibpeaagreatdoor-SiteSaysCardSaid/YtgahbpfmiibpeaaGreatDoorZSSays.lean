/- The law SiteSays: walked. (Made by gossays.py.) -/
import Derived.Test.YtgahbpfmiibpeaaGreatDoorZLin
import Derived.Test.YtgahbpfmiibpeaaGreatDoorZSite5
import Derived.Test.YtgahbpfmiibpeaaGreatDoorZSTx
import Derived.Test.YtgahbpfmiibpeaaGreatDoorZRv6
import Derived.Test.YtgahbpfmiibpeaaGreatDoorZGSay
import Derived.Test.YtgahbpfmiibpeaaGreatDoorZObjS
import Derived.Test.YtgahbpfmiibpeaaGreatDoorZGObjM
import Derived.Test.YtgahbpfmiibpeaaGreatDoorZGIsa
namespace Go.Proofs.YtgahbpfmiibpeaaGreatDoor
open Go.RowKit
theorem zero_flts (w : World) : (zeroValue 31).run Tryz.prog w = .ok (.agg #[.int .i64 0, .bool false, .int .i64 0]) w := by kernel_rfl
theorem same_inss (op a b c i : Int) (w : World) : Calls Tryz.prog 18 #[.agg #[.int .i64 op, .int .i64 a, .int .i64 b, .int .i64 c, .int .u32 i], .agg #[.int .i64 op, .int .i64 a, .int .i64 b, .int .i64 c, .int .u32 i]] w fun e w' => e = .returned (.bool true) ∧ w.grownBy w' none :=
  (same_any op a b c i op a b c i w).mono fun e w' h => ⟨by rw [h.1]; simp [samI], below_is_grown h.2⟩
theorem fltC_poss {y : Fl} (h : y ≠ none) : fltC y ≠ 0 := by
  cases y with
  | none => exact absurd rfl h
  | some z => obtain ⟨c, p⟩ := z; simp only [fltC]; omega
theorem nat_sl {w : World} {B : Nat} {t : TypeId} {v : Value} {l : List Nat} (h : w.ownsRow B t 1 v l.length (natC l)) : SlAt w .i64 v (l.map fun (k : Nat) => (k : Int)) :=
  SlAt.own (n := l.length) (base := B) (t := t) (by rw [List.map_map]; exact h)
theorem StAt.kept0 {w w1 : World} {v : Value} {l : List ByteArray} (h : StAt w v l) (hg : w.grownBy w1 none) : StAt w1 v l := by
  rcases h with h | ⟨b, o, c, hv, hb, hc⟩
  · exact .inl h
  · exact .inr ⟨b, o, c, hv, Nat.lt_of_lt_of_le hb hg.size, fun j x hx => (grown_cell hg hb (by simp)).trans (hc j x hx)⟩
theorem stKept {w w1 : World} {v : Value} {l : List ByteArray} (h : StAt w v l) (hg : w.grownBy w1 none) : StAt w1 v l := h.kept0 hg
/-- the law's own boxes -/
structure SsW (W w : World) (G F : Nat) (V : OV) (f0 : Int) (f1 : Bool) (f2 : Int) : Prop where
  g : W.grownBy w none
  box : RwAt w G 27 #[V.d, V.c, V.m, V.r, V.q, V.s]
  bf : RwAt w F 31 #[.int .i64 f0, .bool f1, .int .i64 f2]
theorem SsW.kept0 {W w w1 : World} {G F : Nat} {V : OV} {f0 : Int} {f1 : Bool} {f2 : Int} (h : SsW W w G F V f0 f1 f2) (hg : w.grownBy w1 none) : SsW W w1 G F V f0 f1 f2 := ⟨grown_trans h.g hg, h.box.kept0 hg, h.bf.kept0 hg⟩
/-- and the lists beside them -/
structure SsL (W w : World) (G F : Nat) (V : OV) (f0 : Int) (f1 : Bool) (f2 : Int) (v1 v3 : Value) (n : Nat) (cs : List Value) : Prop where
  s : SsW W w G F V f0 f1 f2
  a : CsAt w v1 n cs
  b : CsAt w v3 n cs
theorem SsL.kept0 {W w w1 : World} {G F : Nat} {V : OV} {f0 : Int} {f1 : Bool} {f2 : Int} {v1 v3 : Value} {n : Nat} {cs : List Value} (h : SsL W w G F V f0 f1 f2 v1 v3 n cs) (hg : w.grownBy w1 none) : SsL W w1 G F V f0 f1 f2 v1 v3 n cs := ⟨h.s.kept0 hg, h.a.kept0 hg, h.b.kept0 hg⟩
/-- the cells of site k -/
theorem sis_item {w : World} {x : PO} {l : List Nat} {v : Value} {k p : Nat} (h : CsAt w v l.length (sisC x l)) (hk : l[k]? = some p) {q0 q1 q2 q3 q4 cl : Int} (hs : siC x p = [.int .i64 p, .int .i64 cl, .int .i64 q0, .int .i64 q1, .int .i64 q2, .int .i64 q3, .int .u32 q4]) :
    ∃ b o c, v = .slice (some ⟨b, o, none⟩) l.length c ∧ b < w.heap.size ∧ w.cell? ⟨b, o + k * 7, none⟩ = some (.int .i64 p) ∧ w.cell? ⟨b, o + k * 7 + 1, none⟩ = some (.int .i64 cl) ∧ w.cell? ⟨b, o + k * 7 + 2, none⟩ = some (.int .i64 q0) ∧ w.cell? ⟨b, o + k * 7 + 2 + 1, none⟩ = some (.int .i64 q1) ∧ w.cell? ⟨b, o + k * 7 + 2 + 2, none⟩ = some (.int .i64 q2) ∧ w.cell? ⟨b, o + k * 7 + 2 + 3, none⟩ = some (.int .i64 q3) ∧ w.cell? ⟨b, o + k * 7 + 2 + 4, none⟩ = some (.int .u32 q4) := by
  obtain ⟨b, o, c, rfl, _, hb, hc⟩ := h.at_ (by have := (List.getElem?_eq_some_iff.1 hk).1; omega)
  have g : ∀ j u, j < 7 → (siC x p)[j]? = some u → w.cell? ⟨b, o + (k * 7 + j), none⟩ = some u := fun j u hj hu => hc (k * 7 + j) u (by rw [sisC_get x l k j p hk hj]; exact hu)
  rw [hs] at g
  exact ⟨b, o, c, rfl, hb, g 0 _ (by decide) rfl, g 1 _ (by decide) rfl, g 2 _ (by decide) rfl, g 3 _ (by decide) rfl, g 4 _ (by decide) rfl, g 5 _ (by decide) rfl, g 6 _ (by decide) rfl⟩
set_option maxRecDepth 100000 in
set_option maxHeartbeats 32000000 in
theorem ssays_walk (V : OV) (x : PO) (W : World) (A : Nat → Addr) (hS : Sents W A) (hvs : Vars W) (h : OAt W V x) (hf : OFit x) :
    Calls Tryz.prog 3 #[V.agg] W fun e W' => e = .returned (.bool true) ∧ Below W.heap.size W W' := by
  obtain ⟨d, c, m, r, q, s⟩ := V
  have HB0 := hid (RwAt.new W 27 #[d, c, m, r, q, s])
  have HG0 := hid (World.grownBy_alloc W (.cells #[d, c, m, r, q, s] 27) none)
  have HO := hid h
  have HE := hid hS
  have HV := hid hvs
  have HF := hid hf
  clear h hS hvs hf
  go_enter Tryz.func3, Tryz.ntmps3
  go_upto_region 1 with (fail)
  obtain ⟨G, hG⟩ : ∃ G, W.heap.size = G := ⟨_, rfl⟩
  rw [hG] at HB0 ⊢
  clear hG
  generalize W.alloc (.cells #[d, c, m, r, q, s] 27) = w1 at HB0 HG0 ⊢
  go_wp2_with fail
  refine (first10_any (HE.out.errc.kept0 HG0.out)).mono ?_
  rintro e w2 ⟨rfl, hg⟩
  have HB2 := hid (HB0.out.kept0 hg)
  have HG2 := hid (grown_trans HG0.out hg)
  clear hg HB0 HG0
  go_wp2_with (first
    | (refine wpList_load_rw rfl 27 _ rfl rfl HB2.out rfl Tryz.underlying27 info_object ?_)
    | fail)
  refine (light_any (V := ⟨d, c, m, r, q, s⟩) (HO.out.kept0 HG2.out) HF.out 200 (by omega) (by omega)).mono ?_
  rintro e w3 ⟨⟨li, rfl, hli⟩, hg⟩
  have HB3 := hid (HB2.out.kept0 hg)
  have HG3 := hid (grown_trans HG2.out hg)
  clear hg HB2 HG2
  cases li with
  | false =>
    go_wp2
    go_ret
    exact ⟨rfl, grown_below HG3.out⟩
  | true =>
    have HLi := hid (hli rfl)
    clear hli
    have HLl : Hid (x.D.length ≤ 1000000 ∧ x.C.length ≤ 1000000 ∧ x.M.length ≤ 1000000 ∧ x.R.length ≤ 1000000 ∧ x.Q.length ≤ 1000000 ∧ x.S.length ≤ 1000000) := hid (by obtain ⟨a1, a2, a3, a4, a5, a6⟩ := HLi.out; refine ⟨?_, ?_, ?_, ?_, ?_, ?_⟩ <;> omega)
    have Hzf := zero_flts
    go_wp2_with (first
      | (refine wpList_load_rw rfl 27 _ rfl rfl HB3.out rfl Tryz.underlying27 info_object ?_)
      | fail)
    refine (rvalid_any (V := ⟨d, c, m, r, q, s⟩) (HO.out.kept0 HG3.out) HF.out HLl.out).mono ?_
    rintro e w4 ⟨rfl, hg⟩
    by_cases hv : validP x = none
    · have Hv := hid hv
      have Hok := hid (valid_ok hv)
      rw [hv]
      clear hv
      rw [show flV none = .agg #[.int .i64 0, .bool false, .int .i64 0] from rfl]
      have al := World.grownBy_alloc w4 (.cells #[.int .i64 0, .bool false, .int .i64 0] 31) none
      have HS : Hid (SsW W (w4.alloc (.cells #[.int .i64 0, .bool false, .int .i64 0] 31)) G w4.heap.size ⟨d, c, m, r, q, s⟩ 0 false 0) := hid ⟨grown_trans HG3.out (grown_trans hg al), HB3.out.kept0 (grown_trans hg al), RwAt.new w4 31 #[.int .i64 0, .bool false, .int .i64 0]⟩
      clear hg al HB3 HG3
      go_upto_region 7 with (fail)
      clear Hzf
      obtain ⟨F, hF⟩ : ∃ F, w4.heap.size = F := ⟨_, rfl⟩
      rw [hF] at HS ⊢
      clear hF
      generalize w4.alloc (.cells #[.int .i64 0, .bool false, .int .i64 0] 31) = w5 at HS ⊢
      go_wp2_with (first
        | (refine wpList_load_rw rfl 27 _ rfl rfl HS.out.box rfl Tryz.underlying27 info_object ?_)
        | fail)
      refine (sites_yes (V := ⟨d, c, m, r, q, s⟩) (HO.out.kept0 HS.out.g) (HE.out.errc.kept0 HS.out.g) HF.out Hv.out).mono ?_
      rintro e w6 ⟨v1, rfl, ho, hg⟩
      obtain ⟨N, hN⟩ : ∃ N, (siL x (stL x x.C.length)).length = N := ⟨_, rfl⟩
      have HN := hid hN
      have HNl : Hid (N ≤ 1000000) := hid (by
        have h1 := siL_length x (stL x x.C.length)
        have h2 := stL_length x x.C.length
        have := HLl.out.2.1
        omega)
      rw [hN] at ho
      obtain ⟨p1, c1, rfl⟩ := own_slice ho
      have HS6 := hid (HS.out.kept0 hg)
      have HA6 := hid (CsAt.own ho)
      clear hg ho HS hN
      go_wp2_with (first
        | (refine wpList_load_rw rfl 27 _ rfl rfl HS6.out.box rfl Tryz.underlying27 info_object ?_)
        | fail)
      refine (texts_yes (V := ⟨d, c, m, r, q, s⟩) (HO.out.kept0 HS6.out.g) (HE.out.errc.kept0 HS6.out.g) (HV.out.below (grown_below HS6.out.g)) HF.out Hv.out).mono ?_
      rintro e w7 ⟨v2, rfl, ho, hg⟩
      obtain ⟨p2, c2, rfl⟩ := own_slice ho
      obtain ⟨K, hK⟩ : ∃ K, (txL x x.C.length).length = K := ⟨_, rfl⟩
      have HK := hid hK
      have HT7 : Hid (StAt w7 (.slice p2 (txL x x.C.length).length c2) (txL x x.C.length)) := hid (StAt.of (CsAt.own ho))
      rw [hK] at HT7 ⊢
      have HS7 := hid (HS6.out.kept0 hg)
      have HA7 := hid (HA6.out.kept0 hg)
      clear hg ho HS6 HA6 hK
      go_wp2_with (first
        | (refine wpList_load_rw rfl 31 _ rfl rfl HS7.out.bf rfl Tryz.underlying31 info_flt9 ?_)
        | fail)
      refine (same_flt (A := A) (HE.out.kept0 HS7.out.g) (v := .nilIface) (y := none) rfl (fun c p h => by cases h) 0 false 0 true (by decide)).mono ?_
      rintro e w8 ⟨rfl, hg⟩
      have HS8 := hid (HS7.out.kept0 hg)
      have HA8 := hid (HA7.out.kept0 hg)
      have HT8 : Hid (StAt w8 (.slice p2 K c2) (txL x x.C.length)) := hid (stKept HT7.out hg)
      clear hg HS7 HA7 HT7
      go_wp2_with (first
        | (refine wpList_load_rw_g (by kernel_rfl) 31 _ rfl rfl HS8.out.bf rfl Tryz.underlying31 info_flt9 ?_)
        | fail)
      refine (same_flt (A := A) (HE.out.kept0 HS8.out.g) (v := .nilIface) (y := none) rfl (fun c p h => by cases h) 0 false 0 true (by decide)).mono ?_
      rintro e w9 ⟨rfl, hg⟩
      have HS9 := hid (HS8.out.kept0 hg)
      have HA9 := hid (HA8.out.kept0 hg)
      have HT9 : Hid (StAt w9 (.slice p2 K c2) (txL x x.C.length)) := hid (stKept HT8.out hg)
      clear hg HS8 HA8 HT8
      have f0 := HS9.out.bf.cell 0 (v := .int .i64 0) rfl
      go_wp2_with (first
        | (refine wpList_load_rw rfl 27 _ rfl rfl HS9.out.box rfl Tryz.underlying27 info_object ?_)
        | fail)
      refine (rsites_any (V := ⟨d, c, m, r, q, s⟩) (HO.out.kept0 HS9.out.g) HF.out Hok.out).mono ?_
      rintro e w10 ⟨v3, rfl, ho, hg⟩
      rw [HN.out] at ho
      obtain ⟨p3, c3, rfl⟩ := own_slice ho
      have HS10 := hid (HS9.out.kept0 hg)
      have HA10 := hid (HA9.out.kept0 hg)
      have HT10 : Hid (StAt w10 (.slice p2 K c2) (txL x x.C.length)) := hid (stKept HT9.out hg)
      have HX10 := hid (CsAt.own ho)
      clear hg ho HS9 HA9 HT9 f0
      go_wp2_with (first
        | (refine wpList_load_rw_g (by kernel_rfl) 27 _ rfl rfl HS10.out.box rfl Tryz.underlying27 info_object ?_)
        | fail)
      refine (rlines_any (V := ⟨d, c, m, r, q, s⟩) (HO.out.kept0 HS10.out.g) (HV.out.below (grown_below HS10.out.g)) HF.out Hok.out).mono ?_
      rintro e w11 ⟨v4, rfl, ho, hg⟩
      have hlines := StAt.of (CsAt.own ho)
      have HS11 := hid (HS10.out.kept0 hg)
      have HA11 := hid (HA10.out.kept0 hg)
      have HT11 : Hid (StAt w11 (.slice p2 K c2) (txL x x.C.length)) := hid (stKept HT10.out hg)
      have HX11 := hid (HX10.out.kept0 hg)
      have HL11 := hid hlines
      clear hg ho HS10 HA10 HT10 HX10 hlines
      go_wp2_with fail
      refine (stx_any HT11.out HL11.out (by rw [HK.out]; have := txL_length x x.C.length; have := HLl.out.2.1; have := HK.out; omega) (by rw [HK.out]; have := txL_length x x.C.length; have := HLl.out.2.1; have := HK.out; omega) true (by simp)).mono ?_
      rintro e w12 ⟨rfl, hg⟩
      have HL12 : Hid (SsL W w12 G F ⟨d, c, m, r, q, s⟩ 0 false 0 (.slice p1 N c1) (.slice p3 N c3) N (sisC x (siL x (stL x x.C.length)))) := hid ⟨HS11.out.kept0 hg, HA11.out.kept0 hg, HX11.out.kept0 hg⟩
      clear hg HS11 HA11 HT11 HX11 HL11
      have N0 : (0 : Int) ≤ (N : Int) := by omega
      have N1 : (N : Int) ≤ 1000000 := by have := HNl.out; omega
      go_wp2
      go_loopw [10] (fun i wr => ∃ k : Nat, k ≤ N ∧ i = .int .i64 k ∧ Hid (SsL W wr G F ⟨d, c, m, r, q, s⟩ 0 false 0 (.slice p1 N c1) (.slice p3 N c3) N (sisC x (siL x (stL x x.C.length))))) (fun i _ => N - (intOf i).toNat)
      case atStart => exact ⟨0, Nat.zero_le _, rfl, HL12⟩
      case round =>
        obtain ⟨k, hk, rfl, HR⟩ := hrel
        clear HL12
        have k0 : (0 : Int) ≤ (k : Int) := by omega
        by_cases hlt : k < N
        · have kn : (k : Int) < (N : Int) := by omega
          have Hlt := hid hlt
          obtain ⟨p, hp⟩ : ∃ p, (siL x (stL x x.C.length))[k]? = some p := ⟨_, List.getElem?_eq_getElem (by rw [HN.out]; exact hlt)⟩
          obtain ⟨cl, q0, q1, q2, q3, q4, hsi⟩ : ∃ cl q0 q1 q2 q3 q4 : Int, siC x p = [.int .i64 p, .int .i64 cl, .int .i64 q0, .int .i64 q1, .int .i64 q2, .int .i64 q3, .int .u32 q4] := ⟨_, _, _, _, _, _, rfl⟩
          obtain ⟨b1, o1, d1, hv1, hb1, u0, u1, u2, u3, u4, u5, u6⟩ := sis_item (by rw [HN.out]; exact HR.out.a) hp hsi
          obtain ⟨b3, o3, d3, hv3, hb3, y0, y1, y2, y3, y4, y5, y6⟩ := sis_item (by rw [HN.out]; exact HR.out.b) hp hsi
          rw [HN.out] at hv1 hv3
          simp only [Value.slice.injEq, true_and] at hv1 hv3
          obtain ⟨rfl, rfl⟩ := hv1
          obtain ⟨rfl, rfl⟩ := hv3
          have HR1 := hid (HR.out.kept0 (grown_drew (grown_refl wr none)))
          clear hp hsi hlt hb1 hb3
          go_upto_region 19 with (fail)
          go_still_tail 35, (by kernel_rfl)
          change wpList _ _ _ _ _ wr.drew
          clear u0 u1 u2 u3 u4 u5 u6 y0 y1 y2 y3 y4 y5 y6 HR
          generalize wr.drew = wd at HR1 ⊢
          go_wp2_with fail
          refine (same_inss q0 q1 q2 q3 q4 wd).mono ?_
          rintro e w14 ⟨rfl, hg⟩
          have HR2 := hid (HR1.out.kept0 hg)
          clear hg HR1
          go_wp2
          go_roundw
          case rel => exact ⟨k + 1, Hlt.out, by go_num, HR2⟩
          case measure => simp [intOf]; have := Hlt.out; omega
        · obtain rfl : k = N := by omega
          have kn : ¬ ((k : Int) < (k : Int)) := by omega
          have HR9 := hid HR.out.s
          clear hlt HR
          obtain ⟨mp, mc, hmv⟩ := HO.out.m.len'
          simp only at hmv
          rw [Hok.out.len] at hmv
          obtain ⟨n, hne⟩ : ∃ n, x.C.length = n := ⟨_, rfl⟩
          have Hne := hid hne
          rw [hne] at hmv
          subst hmv
          have Hn : Hid (n ≤ 1000000) := hid (by have := HLl.out.2.1; have := Hne.out; omega)
          have n0 : (0 : Int) ≤ (n : Int) := by omega
          have n1 : (n : Int) ≤ 1000000 := by have := Hn.out; omega
          clear hne
          have HQ0 : Hid (SsW W wr G F ⟨d, c, .slice mp n mc, r, q, s⟩ 0 false 0 ∧ wr.ownsRow W.heap.size 3 1 (.slice none 0 0) (stL x 0).length (natC (stL x 0)) ∧ (Value.slice none 0 0).ownBlock ≠ some G ∧ (Value.slice none 0 0).ownBlock ≠ some F) := hid ⟨HR9.out, World.ownsRow_nil _ _ _ _, by simp [Value.ownBlock], by simp [Value.ownBlock]⟩
          clear HR9
          go_wp2
          go_loopw [11, 12] (fun v i w2 => ∃ k2 : Nat, ∃ v' : Value, v = v' ∧ k2 ≤ n ∧ i = .int .i64 k2 ∧ Hid (SsW W w2 G F ⟨d, c, .slice mp n mc, r, q, s⟩ 0 false 0 ∧ w2.ownsRow W.heap.size 3 1 v' (stL x k2).length (natC (stL x k2)) ∧ v'.ownBlock ≠ some G ∧ v'.ownBlock ≠ some F)) (fun _ i _ => n - (intOf i).toNat)
          case atStart => exact ⟨0, _, rfl, Nat.zero_le _, rfl, HQ0⟩
          case round =>
            obtain ⟨j, v', rfl, hj, rfl, HQ⟩ := hrel
            clear HQ0
            have j0 : (0 : Int) ≤ (j : Int) := by omega
            have e2 := HQ.out.1.box.cell 2 (v := .slice mp n mc) rfl
            obtain ⟨vp, vc, rfl⟩ := own_slice HQ.out.2.1
            obtain ⟨L, hL⟩ : ∃ L, (stL x j).length = L := ⟨_, rfl⟩
            have HL := hid hL
            have HLn : Hid (L ≤ 1000000) := hid (by have := stL_length x j; have := Hn.out; omega)
            rw [hL] at HQ ⊢
            clear hL
            by_cases hlt2 : j < n
            · have jn : (j : Int) < (n : Int) := by omega
              have Hlt := hid hlt2
              obtain ⟨mk, hmk⟩ : ∃ mk, x.M[j]? = some mk := ⟨_, List.getElem?_eq_getElem (by rw [Hok.out.len, Hne.out]; exact hlt2)⟩
              have Hmap : Hid (mapN x j = mk) := hid (by unfold mapN; rw [List.getD_eq_getElem?_getD, hmk]; rfl)
              obtain ⟨bm, om, c', hvm, hbm, hcm⟩ := (HO.out.kept0 HQ.out.1.g).m.at_ (by rw [Hok.out.len, Hne.out]; omega)
              simp only [Value.slice.injEq] at hvm
              obtain ⟨rfl, -, -⟩ := hvm
              have em := hcm j mk hmk
              clear hbm hcm hmk hlt2
              by_cases h1 : mk = 1
              · subst h1
                have Hst := hid (stL_yes Hmap.out)
                obtain ⟨i, hi, hz0, hz1, hz2⟩ := info_int
                have Hi := hid hi
                have Hz0 := hid hz0
                have Hz1 := hid hz1
                have Hz2 := hid hz2
                have hal := World.grownBy_alloc wr (.cells #[.int .i64 j] 3) none
                have HSa := hid (HQ.out.1.kept0 hal)
                have HOw := hid (own_keep0 HQ.out.2.1 hal)
                have HNw : Hid (∀ a u, [Value.int .i64 (j : Int)][a]? = some u → (wr.alloc (.cells #[.int .i64 j] 3)).cell? ((⟨wr.heap.size, 0, none⟩ : Addr).add a) = some u) := hid (World.news_of_block (heap_alloc_new wr _))
                clear hi hz0 hz1 hz2 hal
                go_wp2_with (first
                  | (refine wpList_append_lies _ rfl _ _ 53 rfl W.heap.size 3 i _ 1 8 Tryz.underlying53 Hi.out Hz0.out Hz1.out Hz2.out rfl (by decide) _ L _ rfl HOw.out ⟨wr.heap.size, 0, none⟩ 1 1 _ rfl rfl HNw.out (by simp [Value.oneCell']) (by decide) (by have := HLn.out; unfold maxLen; omega) (by have := HLn.out; omega) HSa.out.g.size _ rfl ?_
                     intro g cap w5 hown hgrow hat hlt3
                     have hgrow0 : (wr.alloc (.cells #[.int .i64 j] 3)).grownBy w5 (Value.slice vp L vc).ownBlock := hgrow
                     have hat0 : (Value.slice vp L vc).ownBlock = some g ∨ g = (wr.alloc (.cells #[.int .i64 j] 3)).heap.size := hat
                     have HOn := hid hown
                     have HG5 := hid hgrow0
                     have HAt := hid hat0
                     clear hown hgrow hat hlt3 hgrow0 hat0)
                  | fail)
                go_roundw
                case rel =>
                  refine ⟨j + 1, _, rfl, Hlt.out, by go_num, hid ⟨⟨?_, ?_, ?_⟩, ?_, ?_, ?_⟩⟩
                  · exact grown_new' (grown_trans (grown_none HSa.out.g) HG5.out) (fun a ha => (HOw.out.lt a ha).1)
                  · exact HSa.out.box.kept HG5.out (fun e => HQ.out.2.2.1 e.symm)
                  · exact HSa.out.bf.kept HG5.out (fun e => HQ.out.2.2.2 e.symm)
                  · rw [Hst.out, List.length_append, HL.out, natC, List.map_append]
                    exact HOn.out
                  · rcases HAt.out with e | e
                    · exact fun h => HQ.out.2.2.1 (e.trans h)
                    · have h1 := HSa.out.box.lt
                      simp only [Value.ownBlock, ne_eq, Option.some.injEq]
                      omega
                  · rcases HAt.out with e | e
                    · exact fun h => HQ.out.2.2.2 (e.trans h)
                    · have h1 := HSa.out.bf.lt
                      simp only [Value.ownBlock, ne_eq, Option.some.injEq]
                      omega
                case measure => simp [intOf]; have := Hlt.out; omega
              · have h1b : (mk == 1) = false := by simpa using h1
                have Hst := hid (stL_no (x := x) (n := j) (by rw [Hmap.out]; exact h1))
                clear h1
                go_wp2
                go_roundw
                case rel => exact ⟨j + 1, _, rfl, Hlt.out, by go_num, hid ⟨HQ.out.1, by rw [Hst.out, HL.out]; exact HQ.out.2.1, HQ.out.2.2⟩⟩
                case measure => simp [intOf]; have := Hlt.out; omega
            · obtain rfl : j = n := by omega
              have jn : ¬ ((j : Int) < (j : Int)) := by omega
              clear hlt2
              go_wp2_with (first
                | (refine wpList_load_rw_g (by kernel_rfl) 27 _ rfl rfl HQ.out.1.box rfl Tryz.underlying27 info_object ?_)
                | fail)
              refine (starts_any (V := ⟨d, c, .slice mp j mc, r, q, s⟩) (HO.out.kept0 HQ.out.1.g) Hok.out.len (by rw [Hne.out]; exact Hn.out)).mono ?_
              rintro e w6 ⟨v6, rfl, ho, hg⟩
              rw [Hne.out] at ho
              have Hs1 := hid (nat_sl ho)
              have Hs2 : Hid (SlAt w6 .i64 (.slice vp L vc) ((stL x j).map fun (k : Nat) => (k : Int))) := hid (by
                have h3 := HQ.out.2.1
                rw [← HL.out] at h3
                have h4 := nat_sl h3
                rw [HL.out] at h4
                exact h4.kept0 hg)
              have HS6 := hid (HQ.out.1.kept0 hg)
              clear hg ho
              go_wp2_with fail
              refine (si_any Hs1.out Hs2.out (by simp; have := stL_length x j; have := Hn.out; omega) (by simp; have := stL_length x j; have := Hn.out; omega) true (by simp)).mono ?_
              rintro e w7 ⟨rfl, hg⟩
              go_wp2
              go_ret
              exact ⟨rfl, grown_below (grown_trans HS6.out.g hg)⟩
    · have Hv := hid hv
      clear hv
      obtain ⟨e0, he0⟩ : ∃ e, fltC (validP x) = e := ⟨_, rfl⟩
      obtain ⟨e1, he1⟩ : ∃ e, fltB (validP x) = e := ⟨_, rfl⟩
      obtain ⟨e2, he2⟩ : ∃ e, fltN (validP x) = e := ⟨_, rfl⟩
      have Hes := hid (And.intro he0 (And.intro he1 he2))
      have hpos : (e0 != 0) = true := by rw [← he0]; simpa using fltC_poss Hv.out
      rw [show flV (validP x) = .agg #[.int .i64 e0, .bool e1, .int .i64 e2] by rw [← he0, ← he1, ← he2]; rfl]
      clear he0 he1 he2
      have al := World.grownBy_alloc w4 (.cells #[.int .i64 e0, .bool e1, .int .i64 e2] 31) none
      have HS : Hid (SsW W (w4.alloc (.cells #[.int .i64 e0, .bool e1, .int .i64 e2] 31)) G w4.heap.size ⟨d, c, m, r, q, s⟩ e0 e1 e2) := hid ⟨grown_trans HG3.out (grown_trans hg al), HB3.out.kept0 (grown_trans hg al), RwAt.new w4 31 #[.int .i64 e0, .bool e1, .int .i64 e2]⟩
      clear hg al HB3 HG3
      go_upto_region 7 with (fail)
      clear Hzf
      obtain ⟨F, hF⟩ : ∃ F, w4.heap.size = F := ⟨_, rfl⟩
      rw [hF] at HS ⊢
      clear hF
      generalize w4.alloc (.cells #[.int .i64 e0, .bool e1, .int .i64 e2] 31) = w5 at HS ⊢
      go_wp2_with (first
        | (refine wpList_load_rw rfl 27 _ rfl rfl HS.out.box rfl Tryz.underlying27 info_object ?_)
        | fail)
      refine (sites_no (V := ⟨d, c, m, r, q, s⟩) (HO.out.kept0 HS.out.g) (HE.out.errc.kept0 HS.out.g) HF.out Hv.out).mono ?_
      rintro e w6 ⟨fv, rfl, hfl, hg⟩
      have HS6 := hid (HS.out.kept0 hg)
      have Hfl := hid hfl
      obtain ⟨ft, fp, hfv, _, _⟩ := flt_is_e hfl Hv.out
      subst hfv
      clear hg hfl HS
      go_wp2_with (first
        | (refine wpList_load_rw rfl 27 _ rfl rfl HS6.out.box rfl Tryz.underlying27 info_object ?_)
        | fail)
      refine (texts_no (V := ⟨d, c, m, r, q, s⟩) (HO.out.kept0 HS6.out.g) (HE.out.errc.kept0 HS6.out.g) HF.out Hv.out).mono ?_
      rintro e w7 ⟨gv, rfl, hfl, hg⟩
      have HS7 := hid (HS6.out.kept0 hg)
      have Hfl7 := hid (Hfl.out.kept0 hg)
      have Hgl7 := hid hfl
      obtain ⟨gt, gp, hgv, _, _⟩ := flt_is_e hfl Hv.out
      subst hgv
      clear hg hfl HS6 Hfl
      go_wp2_with (first
        | (refine wpList_load_rw rfl 31 _ rfl rfl HS7.out.bf rfl Tryz.underlying31 info_flt9 ?_)
        | fail)
      refine (same_flt (A := A) (HE.out.kept0 HS7.out.g) Hfl7.out (fun c p hc => by rcases code_of hc with h | h | h | h | h | h | h <;> omega) e0 e1 e2 true (by simp [Hes.out.1, Hes.out.2.1, Hes.out.2.2])).mono ?_
      rintro e w8 ⟨rfl, hg⟩
      have HS8 := hid (HS7.out.kept0 hg)
      have Hgl8 := hid (Hgl7.out.kept0 hg)
      clear hg HS7 Hfl7 Hgl7
      go_wp2_with (first
        | (refine wpList_load_rw_g (by kernel_rfl) 31 _ rfl rfl HS8.out.bf rfl Tryz.underlying31 info_flt9 ?_)
        | fail)
      refine (same_flt (A := A) (HE.out.kept0 HS8.out.g) Hgl8.out (fun c p hc => by rcases code_of hc with h | h | h | h | h | h | h <;> omega) e0 e1 e2 true (by simp [Hes.out.1, Hes.out.2.1, Hes.out.2.2])).mono ?_
      rintro e w9 ⟨rfl, hg⟩
      have HS9 := hid (HS8.out.kept0 hg)
      clear hg HS8 Hgl8
      have f0 := HS9.out.bf.cell 0 (v := .int .i64 e0) rfl
      go_wp2
      go_ret
      exact ⟨rfl, grown_below HS9.out.g⟩
end Go.Proofs.YtgahbpfmiibpeaaGreatDoor
