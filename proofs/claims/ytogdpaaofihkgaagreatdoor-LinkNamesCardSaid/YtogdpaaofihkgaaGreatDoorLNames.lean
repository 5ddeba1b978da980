/- LinkNames: the walk. (Made by golnames.py.) -/
import Derived.Test.YtogdpaaofihkgaaGreatDoorYObW
import Derived.Test.YtogdpaaofihkgaaGreatDoorXCpu0
import Derived.Test.YtogdpaaofihkgaaGreatDoorXMkX
import Derived.Test.YtogdpaaofihkgaaGreatDoorXToAny
import Derived.Test.YtogdpaaofihkgaaGreatDoorYLNmP
import Derived.Test.YtogdpaaofihkgaaGreatDoorYNum
import Derived.Test.YtogdpaaofihkgaaGreatDoorYObjS
import Derived.Test.YtogdpaaofihkgaaGreatDoorYBase
import Derived.Test.YtogdpaaofihkgaaGreatDoorYLaid9
import Derived.Deep.Cut
import Derived.Deep.CutRange
import Derived.Deep.CutBlock
namespace Go.Proofs.YtogdpaaofihkgaaGreatDoor
open Go.RowKit
theorem errc_sentsN {W : World} {A : Nat → Addr} (h : Sents W A) : ErrC W A := ⟨h.cell 1 _ rfl, h.cell 2 _ rfl, h.cell 3 _ rfl, h.cell 4 _ rfl, h.cell 5 _ rfl, h.cell 6 _ rfl, h.cell 8 _ rfl⟩
/-- a row of another type's block is not written -/
theorem own_rowT {w w1 : World} {B z n T : Nat} {e t : TypeId} {v : Value} {xs : List Value} {cs : Array Value} (h : w.ownsRow B e z v n xs) (hT : RwAt w T t cs) (he : e ≠ t) (hg : w.grownBy w1 (some T)) : w1.ownsRow B e z v n xs := by
  refine h.kept hg ?_
  rcases h.2 with ⟨rfl, _⟩ | ⟨g, cap, cur, rfl, _, hb, _⟩
  · exact .inl rfl
  · refine .inr (fun hh => ?_)
    have hgg : g = T := Option.some.inj hh
    subst hgg
    have := hT.blk
    rw [hb] at this
    simp only [Option.some.injEq, Obj.cells.injEq] at this
    exact he this.2.1
theorem OwnO.keptT {B T : Nat} {w w1 : World} {V : OV} {x : PO} {cs : Array Value} (h : OwnO B w V x) (hT : RwAt w T 52 cs) (hg : w.grownBy w1 (some T)) : OwnO B w1 V x :=
  ⟨own_rowT h.d hT (by decide) hg, own_rowT h.c hT (by decide) hg, own_rowT h.m hT (by decide) hg, own_rowT h.r hT (by decide) hg, own_rowT h.q hT (by decide) hg, own_rowT h.s hT (by decide) hg, h.ap⟩
theorem ObW.keptT {T : Nat} {w0 w w1 : World} {v : Value} {L : List Ob} {cs : Array Value} (h : ObW w0 w v L) (hT : RwAt w T 52 cs) (hg : w.grownBy w1 (some T)) (hn : w0.heap.size ≤ T) : ObW w0 w1 v L :=
  ⟨own_rowT h.own hT (by decide) hg, fun o ho => (h.each o ho).keptT hT hg, grown_new' (grown_trans (grown_none h.g) hg) (fun j hj => by obtain rfl := Option.some.inj hj; exact hn)⟩
theorem info_fltN : (Tryz.prog.info? 52).map (·.size) = some 3 := by kernel_rfl
theorem zero_fltN (w : World) : (zeroValue 52).run Tryz.prog w = .ok (.agg #[.int .i64 0, .bool false, .int .i64 0]) w := by kernel_rfl
theorem grown_setRN (w : World) (R : Nat) (c : Array Value) : w.grownBy (w.setRow R c) (some R) := ⟨rfl, rfl, rfl, by simp [World.setRow], fun i _ hi => setRow_other w R i c (fun e => hi (by rw [e]))⟩
def wC (b : Nat) : Int := if b = 0 then 0 else if b = 2 then 106 else 107
def wB (b : Nat) : Bool := if b = 0 then false else true
def wP (n b : Nat) : Int := if b = 0 then 0 else if b = 1 then (n : Int) else if b = 2 then (n : Int) + 1 else (n : Int) - 1
theorem obNm_b {n i : Nat} (h : i < 10) : ObB (obNm n i) := by
  refine ⟨⟨?_, ?_, ?_, ?_⟩, ?_, ?_⟩
  · intro y hy; obtain rfl := List.mem_singleton.1 hy; omega
  · intro y hy; obtain rfl := List.mem_singleton.1 hy; omega
  · intro y hy; obtain rfl := List.mem_singleton.1 hy; omega
  · unfold maxLen; simp [obNm]
  · simp [obNm]
  · intro r hr; obtain rfl := List.mem_singleton.1 hr; exact ⟨by decide, by decide⟩
theorem obNc_b (s : ByteArray) : ObB (obNc s) := by
  refine ⟨⟨?_, ?_, ?_, ?_⟩, ?_, ?_⟩
  · intro y hy; cases hy
  · intro y hy; simp [obNc] at hy; rcases hy with rfl | rfl <;> omega
  · intro y hy; simp [obNc] at hy; rcases hy with rfl | rfl <;> omega
  · unfold maxLen; simp [obNc]
  · simp [obNc]
  · intro r hr; obtain rfl := List.mem_singleton.1 hr; exact ⟨by decide, by decide⟩
theorem obN2_b : ObB obN2 := by
  refine ⟨⟨?_, ?_, ?_, ?_⟩, ?_, ?_⟩
  · intro y hy; cases hy
  · intro y hy; obtain rfl := List.mem_singleton.1 hy; omega
  · intro y hy; obtain rfl := List.mem_singleton.1 hy; omega
  · unfold maxLen; simp [obN2]
  · simp [obN2]
  · intro r hr; cases hr
theorem nmF0 : nmF 0 = ⟨#[102, 48]⟩ := by decide
theorem rw_own_ne {w : World} {B z n T : Nat} {e t : TypeId} {v : Value} {xs : List Value} {cs : Array Value} (hT : RwAt w T t cs) (h : w.ownsRow B e z v n xs) (he : e ≠ t) : some T ≠ v.ownBlock := by
  rcases h.2 with ⟨rfl, _⟩ | ⟨g, cap, cur, rfl, _, hb, _⟩
  · intro h; cases h
  · intro hh
    have hgg : T = g := Option.some.inj hh
    subst hgg
    have := hT.blk
    rw [hb] at this
    simp only [Option.some.injEq, Obj.cells.injEq] at this
    exact he this.2.1
theorem CsAt.toSlN {w : World} {v : Value} {k : IntKind} {xs : List Int} (h : CsAt w v xs.length (xs.map (Value.int k))) : SlAt w k v xs := by
  rcases h with ⟨⟨p, c, rfl⟩, h0, _⟩ | ⟨b, o, c, rfl, _, hb, hc⟩
  · exact .inl ⟨⟨_, _, rfl⟩, List.eq_nil_of_length_eq_zero h0⟩
  · exact .inr ⟨b, o, c, rfl, hb, fun j x hx => hc j _ (by rw [List.getElem?_map, hx]; rfl)⟩
theorem restNm_b (c : Nat) : ∀ x ∈ restNm c, ObB x := by
  intro x hx
  unfold restNm at hx
  split at hx
  · obtain rfl := List.mem_singleton.1 hx; exact obNc_b _
  · split at hx
    · obtain rfl := List.mem_singleton.1 hx; exact obNc_b _
    · split at hx
      · rcases List.mem_cons.1 hx with rfl | hx
        · exact obNc_b _
        · obtain rfl := List.mem_singleton.1 hx; exact obN2_b
      · cases hx
theorem restNm_len (c : Nat) : (restNm c).length ≤ 2 := by unfold restNm; split; simp; split; simp; split <;> simp
set_option maxRecDepth 100000 in
set_option maxHeartbeats 32000000 in
theorem lnames_walk (n k : Int) (W : World) (A : Nat → Addr) (hS : Sents W A) (hT : Lib.TabIs Tryz.prog W "internal/strconv.uint64pow10" .u64 Lib.pow10Tab) (n0 : -9223372036854775808 ≤ n) (n1 : n ≤ 9223372036854775807) (k0 : -9223372036854775808 ≤ k) (k1 : k ≤ 9223372036854775807) :
    Calls Tryz.prog 4 #[.int .i64 n, .int .i64 k] W fun e w' => e = .returned (.bool true) ∧ Below W.heap.size W w' := by
  have HS := hid hS
  have HE := hid (errc_sentsN hS)
  have HT := hid hT
  obtain ⟨a, ha⟩ : ∃ a, numB n 5 = a := ⟨_, rfl⟩
  obtain ⟨b, hb⟩ : ∃ b, numB k 4 = b := ⟨_, rfl⟩
  have ha2 : a < 5 := by subst ha; exact numB_lt n (by omega)
  have hb2 : b < 4 := by subst hb; exact numB_lt k (by omega)
  obtain ⟨N, hN⟩ : ∃ N, a + 1 = N := ⟨_, rfl⟩
  have hN2 : (a : Int) + 1 = (N : Int) := by omega
  have HNa := hid hN
  have HNb : Hid (1 ≤ N ∧ N ≤ 5 ∧ a < 5) := hid (by omega)
  have nN0 : (1 : Int) ≤ (N : Int) := by omega
  have nN1 : (N : Int) ≤ 5 := by omega
  have Hk := hid (And.intro k0 k1)
  have Hb := hid hb
  have Hb2 := hid hb2
  clear hS hT ha2 hb2 hb k0 k1 hN
  go_enter Tryz.func4, Tryz.ntmps4
  go_wp2_with fail
  refine (first13_any HE.out).mono ?_
  rintro e w1 ⟨rfl, hg1⟩
  have HG1 := hid hg1
  clear hg1
  go_wp2_with fail
  refine (number_of n 5 5 a rfl ha (by omega) (by omega) n0 n1).mono ?_
  rintro e w2 ⟨rfl, rfl⟩
  clear n0 n1 ha
  go_upto_region 6 with (fail)
  clear hN2
  have HL0 : Hid (∃ L, ObW w1 w1 (.slice none 0 0) L ∧ L.map (·.x) = (List.range 0).map (obNm N)) := hid ⟨[], ObW.start w1, rfl⟩
  go_wp2
  go_loopw [6, 7] (fun v i wr => ∃ k : Nat, k ≤ N ∧ i = .int .i64 k ∧ Hid (∃ L, ObW w1 wr v L ∧ L.map (·.x) = (List.range k).map (obNm N))) (fun _ i _ => N - (intOf i).toNat)
  case atStart => exact ⟨0, Nat.zero_le _, rfl, HL0⟩
  case round =>
    clear HL0
    obtain ⟨k, hk, rfl, HP⟩ := hrel
    have k0 : (0 : Int) ≤ (k : Int) := by omega
    obtain ⟨L, HQ⟩ : ∃ L, Hid (ObW w1 wr _ L ∧ L.map (·.x) = (List.range k).map (obNm N)) := by obtain ⟨L, h⟩ := HP.out; exact ⟨L, hid h⟩
    clear HP
    obtain ⟨vp, vc, hv⟩ := HQ.out.1.len
    obtain ⟨nL, hnL⟩ : ∃ n, L.length = n := ⟨_, rfl⟩
    rw [hnL] at hv
    subst hv
    have HnL := hid hnL
    have HkL : Hid (nL = k) := hid (by rw [← hnL, ← List.length_map (f := fun o : Ob => o.x), HQ.out.2]; simp)
    have HLb : Hid (nL ≤ 100) := hid (by have := HkL.out; have := HNb.out; omega)
    clear hnL
    by_cases hlt : k < N
    rotate_left
    · obtain rfl : k = N := by omega
      have kn : ¬ ((k : Int) < (k : Int)) := by omega
      clear hlt hk
      have HQx : Hid (L.map (·.x) = xsNm k) := hid HQ.out.2
      have HO0 := hid HQ.out.1
      have Hg0 := hid (grown_refl wr none)
      clear HQ
      have Hat : Hid (∀ w : World, Calls Tryz.prog 7 #[.string ⟨#[109, 97, 105, 110]⟩] w fun e w' => e = .returned (.agg #[.int .i64 0, .int .i64 0, .int .i64 0, .int .i64 0, .int .u32 0, .string nmMainL, .string ByteArray.empty, .bool false]) ∧ w.grownBy w' none) := hid (fun w => at_any nmMainL w)
      have Hto : Hid (∀ w : World, Calls Tryz.prog 13 #[.int .i64 22, .int .i64 0, .string ⟨#[102, 48]⟩] w fun e w' => e = .returned (.agg #[.int .i64 22, .int .i64 0, .int .i64 0, .int .i64 0, .int .u32 0, .string ByteArray.empty, .string (nmF 0), .bool false]) ∧ w.grownBy w' none) := hid (fun w => by have h := to_any 22 0 ⟨#[102, 48]⟩ w; rw [nmF0]; exact h)
      go_wp2_with fail
      refine (Hat.out _).mono ?_
      rintro e wm1 ⟨rfl, hg⟩
      have Hg01 := hid (grown_trans Hg0.out hg)
      clear hg
      go_wp2_with fail
      refine (Hto.out _).mono ?_
      rintro e wm2 ⟨rfl, hg⟩
      have alL := World.grownBy_alloc wm2 (.cells #[.int .i64 0, .int .i64 0, .int .i64 0, .int .i64 0, .int .u32 0, .string nmMainL, .string ByteArray.empty, .bool false, .int .i64 22, .int .i64 0, .int .i64 0, .int .i64 0, .int .u32 0, .string ByteArray.empty, .string (nmF 0), .bool false] 29) none
      have HLs := hid (csat_lit wm2 #[.int .i64 0, .int .i64 0, .int .i64 0, .int .i64 0, .int .u32 0, .string nmMainL, .string ByteArray.empty, .bool false, .int .i64 22, .int .i64 0, .int .i64 0, .int .i64 0, .int .u32 0, .string ByteArray.empty, .string (nmF 0), .bool false] 29 2)
      have Hg02 := hid (grown_trans Hg01.out (grown_trans hg alL))
      clear hg alL Hat Hto Hg01
      go_wp2_with fail
      refine (mkx_any (D := []) (ls := lsNc (nmF 0)) (by simp) (by simp [lsNc]) (.inl ⟨⟨_, _, rfl⟩, rfl⟩) HLs.out).mono ?_
      rintro e wm3 ⟨Vwm, rfl, ho, hg⟩
      rw [obNc_is.1] at ho
      obtain ⟨p0m, c0m, p1m, c1m, p2m, c2m, p3m, c3m, p4m, c4m, p5m, c5m, hVv⟩ := ownO_slices ho
      rw [show (obNc (nmF 0)).D.length = 0 from rfl, show (obNc (nmF 0)).C.length = 2 from rfl, show (obNc (nmF 0)).M.length = 2 from rfl, show (obNc (nmF 0)).R.length = 0 from rfl, show (obNc (nmF 0)).Q.length = 1 from rfl, show (obNc (nmF 0)).S.length = 2 from rfl] at hVv
      subst hVv
      have Hzo := zero_obj
      have al := World.grownBy_alloc wm3 (.cells #[.slice p0m 0 c0m, .slice p1m 2 c1m, .slice p2m 2 c2m, .slice p3m 0 c3m, .slice p4m 1 c4m, .slice p5m 2 c5m] 39) none
      have hgg := grown_trans Hg02.out (grown_trans hg al)
      have HO1 := hid (HO0.out.kept0 hgg)
      have HM1 := hid (RwAt.new wm3 39 #[.slice p0m 0 c0m, .slice p1m 2 c1m, .slice p2m 2 c2m, .slice p3m 0 c3m, .slice p4m 1 c4m, .slice p5m 2 c5m])
      have HMo1 : Hid (OwnO w1.heap.size (wm3.alloc (.cells #[.slice p0m 0 c0m, .slice p1m 2 c1m, .slice p2m 2 c2m, .slice p3m 0 c3m, .slice p4m 1 c4m, .slice p5m 2 c5m] 39)) ⟨.slice p0m 0 c0m, .slice p1m 2 c1m, .slice p2m 2 c2m, .slice p3m 0 c3m, .slice p4m 1 c4m, .slice p5m 2 c5m⟩ (obNc (nmF 0))) := hid ((ho.kept0 al).baseW (grown_trans HO0.out.g (grown_trans Hg0.out Hg02.out)).size)
      have HTl0 : Hid (∀ g, (Value.slice vp nL vc).ownBlock = some g → g < wm3.heap.size) := hid (fun g hg' => ((HO0.out.kept0 (grown_trans Hg02.out hg)).own.lt g hg').2)
      clear ho hg al hgg HO0 Hg0 Hg02 HLs
      unfold OV.agg
      go_upto_region 14 with (fail)
      clear Hzo
      obtain ⟨T9, hT9⟩ : ∃ T, wm3.heap.size = T := ⟨_, rfl⟩
      rw [hT9] at HM1 HTl0 ⊢
      have HTl := HTl0
      clear hT9 HTl0
      generalize wm3.alloc (.cells #[.slice p0m 0 c0m, .slice p1m 2 c1m, .slice p2m 2 c2m, .slice p3m 0 c3m, .slice p4m 1 c4m, .slice p5m 2 c5m] 39) = wn at HO1 HM1 HMo1 ⊢
      go_wp2_with fail
      refine (nofault_any _).mono ?_
      rintro e wn1 ⟨rfl, hg⟩
      have Hzf := zero_fltN
      have al := World.grownBy_alloc wn1 (.cells #[.int .i64 0, .bool false, .int .i64 0] 52) none
      have hgg := grown_trans hg al
      have HO2 := hid (HO1.out.kept0 hgg)
      have HM2 := hid (HM1.out.kept0 hgg)
      have HMo2 := hid (HMo1.out.kept0 hgg)
      have HF2 := hid (RwAt.new wn1 52 #[.int .i64 0, .bool false, .int .i64 0])
      have HTn0 : Hid (w1.heap.size ≤ wn1.heap.size) := hid (grown_trans HO1.out.g hg).size
      clear hg al hgg HO1 HM1 HMo1
      unfold f3V
      go_upto_region 15 with (fail)
      clear Hzf
      obtain ⟨T10, hT10⟩ : ∃ T, wn1.heap.size = T := ⟨_, rfl⟩
      rw [hT10] at HF2 HTn0 ⊢
      have HTn := HTn0
      clear hT10 HTn0
      generalize wn1.alloc (.cells #[.int .i64 0, .bool false, .int .i64 0] 52) = wo at HO2 HM2 HMo2 HF2 ⊢
      go_wp2_with fail
      refine (number_of _ 4 4 b rfl Hb.out (by omega) (by omega) Hk.out.1 Hk.out.2).mono ?_
      rintro e w3 ⟨rfl, rfl⟩
      go_upto_block 2 with fail
      go_cut [6] from 46 (fun u6 wz => ∃ L6, Hid (ObW w1 wz u6 L6 ∧ L6.map (·.x) = xsNm k ++ restNm b ∧ RwAt wz T10 52 #[.int .i64 (wC b), .bool (wB b), .int .i64 (wP k b)]))
      case first =>
        have HO9 := HO2
        have HF9 := HF2
        clear HO2 HF2
        have hb4 : b < 4 := Hb2.out
        obtain hb | hb | hb | hb : b = 0 ∨ b = 1 ∨ b = 2 ∨ b = 3 := by omega
        · subst hb
          clear hb4
          have m0 := HM2.out.cell 0 (v := .slice p0m 0 c0m) rfl
          have m1 := HM2.out.cell 1 (v := .slice p1m 2 c1m) rfl
          have m2 := HM2.out.cell 2 (v := .slice p2m 2 c2m) rfl
          have m3 := HM2.out.cell 3 (v := .slice p3m 0 c3m) rfl
          have m4 := HM2.out.cell 4 (v := .slice p4m 1 c4m) rfl
          have m5 := HM2.out.cell 5 (v := .slice p5m 2 c5m) rfl
          have al := World.grownBy_alloc wo (.cells #[.slice p0m 0 c0m, .slice p1m 2 c1m, .slice p2m 2 c2m, .slice p3m 0 c3m, .slice p4m 1 c4m, .slice p5m 2 c5m] 39) none
          have HO9 := hid (HO9.out.kept0 al)
          have HF9 := hid (HF9.out.kept0 al)
          have HOn : Hid (∀ o ∈ [(⟨⟨.slice p0m 0 c0m, .slice p1m 2 c1m, .slice p2m 2 c2m, .slice p3m 0 c3m, .slice p4m 1 c4m, .slice p5m 2 c5m⟩, obNc (nmF 0)⟩ : Ob)], OwnO w1.heap.size (wo.alloc (.cells #[.slice p0m 0 c0m, .slice p1m 2 c1m, .slice p2m 2 c2m, .slice p3m 0 c3m, .slice p4m 1 c4m, .slice p5m 2 c5m] 39)) o.V o.x) := hid (fun o h => by
            obtain rfl := List.mem_singleton.1 h
            exact HMo2.out.kept0 al)
          clear al
          have HOw := HO9.out.own
          rw [HnL.out] at HOw
          have HOw := hid HOw
          have Hnews : Hid (∀ j u, (csL obC [(⟨⟨.slice p0m 0 c0m, .slice p1m 2 c1m, .slice p2m 2 c2m, .slice p3m 0 c3m, .slice p4m 1 c4m, .slice p5m 2 c5m⟩, obNc (nmF 0)⟩ : Ob)])[j]? = some u → (wo.alloc (.cells #[.slice p0m 0 c0m, .slice p1m 2 c1m, .slice p2m 2 c2m, .slice p3m 0 c3m, .slice p4m 1 c4m, .slice p5m 2 c5m] 39)).cell? ((⟨wo.heap.size, 0, none⟩ : Addr).add j) = some u) := hid (World.news_of_block (heap_alloc_new wo _))
          obtain ⟨i, hi, hz0, hz1, hz2⟩ := info_obx
          have Hi := hid hi
          have Hz0 := hid hz0
          have Hz1 := hid hz1
          have Hz2 := hid hz2
          clear hi hz0 hz1 hz2
          go_wp2_with (first
            | (refine is_app _ _ _ rfl ?_
               refine wpList_append_lies _ rfl _ _ 24 rfl w1.heap.size 39 i _ 6 144 Tryz.underlying24 Hi.out Hz0.out Hz1.out Hz2.out rfl (by decide) _ nL _ rfl HOw.out ⟨wo.heap.size, 0, none⟩ 1 1 _ rfl rfl Hnews.out (by simp [csL, obC, Value.oneCell']) (by decide) (by have := HLb.out; unfold maxLen; omega) (by have := HLb.out; omega) HO9.out.g.size _ rfl ?_
               intro g cap wz hown hgrow hat hlt2
               have hgrow0 : (wo.alloc (.cells #[.slice p0m 0 c0m, .slice p1m 2 c1m, .slice p2m 2 c2m, .slice p3m 0 c3m, .slice p4m 1 c4m, .slice p5m 2 c5m] 39)).grownBy wz (Value.slice vp nL vc).ownBlock := hgrow
               have HOz := hid (HO9.out.add [(⟨⟨.slice p0m 0 c0m, .slice p1m 2 c1m, .slice p2m 2 c2m, .slice p3m 0 c3m, .slice p4m 1 c4m, .slice p5m 2 c5m⟩, obNc (nmF 0)⟩ : Ob)] HOn.out (by rw [HnL.out]; exact hown) hgrow0)
               clear hown hgrow hat hlt2)
            | fail)
          clear HOw Hnews Hi Hz0 Hz1 Hz2
          have HFz := hid (HF9.out.kept hgrow0 (rw_own_ne HF9.out HO9.out.own (by decide)))
          clear hgrow0 HF9 HO9 HOn
          go_meet
          case rel => exact ⟨_, hid ⟨HOz.out, by rw [List.map_append, HQx.out]; rfl, HFz.out⟩⟩
        · subst hb
          clear hb4
          have Hg0 := hid (grown_refl wo none)
          have Hat : Hid (∀ w : World, Calls Tryz.prog 7 #[.string ⟨#[109, 97, 105, 110]⟩] w fun e w' => e = .returned (.agg #[.int .i64 0, .int .i64 0, .int .i64 0, .int .i64 0, .int .u32 0, .string nmMainL, .string ByteArray.empty, .bool false]) ∧ w.grownBy w' none) := hid (fun w => at_any nmMainL w)
          have Hto : Hid (∀ w : World, Calls Tryz.prog 13 #[.int .i64 22, .int .i64 0, .string ⟨#[110, 111, 98, 111, 100, 121]⟩] w fun e w' => e = .returned (.agg #[.int .i64 22, .int .i64 0, .int .i64 0, .int .i64 0, .int .u32 0, .string ByteArray.empty, .string nmNobL, .bool false]) ∧ w.grownBy w' none) := hid (fun w => to_any 22 0 nmNobL w)
          go_wp2_with fail
          refine (Hat.out _).mono ?_
          rintro e wq1 ⟨rfl, hg⟩
          have Hg01 := hid (grown_trans Hg0.out hg)
          clear hg
          go_wp2_with fail
          refine (Hto.out _).mono ?_
          rintro e wq2 ⟨rfl, hg⟩
          have alL := World.grownBy_alloc wq2 (.cells #[.int .i64 0, .int .i64 0, .int .i64 0, .int .i64 0, .int .u32 0, .string nmMainL, .string ByteArray.empty, .bool false, .int .i64 22, .int .i64 0, .int .i64 0, .int .i64 0, .int .u32 0, .string ByteArray.empty, .string nmNobL, .bool false] 29) none
          have HLs := hid (csat_lit wq2 #[.int .i64 0, .int .i64 0, .int .i64 0, .int .i64 0, .int .u32 0, .string nmMainL, .string ByteArray.empty, .bool false, .int .i64 22, .int .i64 0, .int .i64 0, .int .i64 0, .int .u32 0, .string ByteArray.empty, .string nmNobL, .bool false] 29 2)
          have Hg02 := hid (grown_trans Hg01.out (grown_trans hg alL))
          clear hg alL Hat Hto Hg01
          go_wp2_with fail
          refine (mkx_any (D := []) (ls := lsNc nmNobL) (by simp) (by simp [lsNc]) (.inl ⟨⟨_, _, rfl⟩, rfl⟩) HLs.out).mono ?_
          rintro e wq3 ⟨Vwq, rfl, ho, hg⟩
          rw [obNc_is.2] at ho
          obtain ⟨p0w, c0w, p1w, c1w, p2w, c2w, p3w, c3w, p4w, c4w, p5w, c5w, hVv⟩ := ownO_slices ho
          rw [show (obNc nmNobL).D.length = 0 from rfl, show (obNc nmNobL).C.length = 2 from rfl, show (obNc nmNobL).M.length = 2 from rfl, show (obNc nmNobL).R.length = 0 from rfl, show (obNc nmNobL).Q.length = 1 from rfl, show (obNc nmNobL).S.length = 2 from rfl] at hVv
          subst hVv
          have al := World.grownBy_alloc wq3 (.cells #[.slice p0w 0 c0w, .slice p1w 2 c1w, .slice p2w 2 c2w, .slice p3w 0 c3w, .slice p4w 1 c4w, .slice p5w 2 c5w] 39) none
          have hgg := grown_trans Hg02.out (grown_trans hg al)
          have HOn : Hid (∀ o ∈ [(⟨⟨.slice p0w 0 c0w, .slice p1w 2 c1w, .slice p2w 2 c2w, .slice p3w 0 c3w, .slice p4w 1 c4w, .slice p5w 2 c5w⟩, obNc nmNobL⟩ : Ob)], OwnO w1.heap.size (wq3.alloc (.cells #[.slice p0w 0 c0w, .slice p1w 2 c1w, .slice p2w 2 c2w, .slice p3w 0 c3w, .slice p4w 1 c4w, .slice p5w 2 c5w] 39)) o.V o.x) := hid (fun o h => by
            obtain rfl := List.mem_singleton.1 h
            exact (ho.kept0 al).baseW (grown_trans HO9.out.g (grown_trans Hg0.out Hg02.out)).size)
          have HO9 := hid (HO9.out.kept0 hgg)
          have HF9 := hid (HF9.out.kept0 hgg)
          clear ho hg al hgg Hg0 Hg02 HLs
          unfold OV.agg
          have HOw := HO9.out.own
          rw [HnL.out] at HOw
          have HOw := hid HOw
          have Hnews : Hid (∀ j u, (csL obC [(⟨⟨.slice p0w 0 c0w, .slice p1w 2 c1w, .slice p2w 2 c2w, .slice p3w 0 c3w, .slice p4w 1 c4w, .slice p5w 2 c5w⟩, obNc nmNobL⟩ : Ob)])[j]? = some u → (wq3.alloc (.cells #[.slice p0w 0 c0w, .slice p1w 2 c1w, .slice p2w 2 c2w, .slice p3w 0 c3w, .slice p4w 1 c4w, .slice p5w 2 c5w] 39)).cell? ((⟨wq3.heap.size, 0, none⟩ : Addr).add j) = some u) := hid (World.news_of_block (heap_alloc_new wq3 _))
          obtain ⟨i, hi, hz0, hz1, hz2⟩ := info_obx
          have Hi := hid hi
          have Hz0 := hid hz0
          have Hz1 := hid hz1
          have Hz2 := hid hz2
          clear hi hz0 hz1 hz2
          go_upto_region 21 with (first
            | (refine is_app _ _ _ rfl ?_
               refine wpList_append_lies _ rfl _ _ 24 rfl w1.heap.size 39 i _ 6 144 Tryz.underlying24 Hi.out Hz0.out Hz1.out Hz2.out rfl (by decide) _ nL _ rfl HOw.out ⟨wq3.heap.size, 0, none⟩ 1 1 _ rfl rfl Hnews.out (by simp [csL, obC, Value.oneCell']) (by decide) (by have := HLb.out; unfold maxLen; omega) (by have := HLb.out; omega) HO9.out.g.size _ rfl ?_
               intro g cap wz hown hgrow hat hlt2
               have hgrow0 : (wq3.alloc (.cells #[.slice p0w 0 c0w, .slice p1w 2 c1w, .slice p2w 2 c2w, .slice p3w 0 c3w, .slice p4w 1 c4w, .slice p5w 2 c5w] 39)).grownBy wz (Value.slice vp nL vc).ownBlock := hgrow
               have HOz := hid (HO9.out.add [(⟨⟨.slice p0w 0 c0w, .slice p1w 2 c1w, .slice p2w 2 c2w, .slice p3w 0 c3w, .slice p4w 1 c4w, .slice p5w 2 c5w⟩, obNc nmNobL⟩ : Ob)] HOn.out (by rw [HnL.out]; exact hown) hgrow0)
               clear hown hgrow hat hlt2)
            | fail)
          clear HOw Hnews Hi Hz0 Hz1 Hz2
          have HFz := hid (HF9.out.kept hgrow0 (rw_own_ne HF9.out HO9.out.own (by decide)))
          clear hgrow0 HF9 HO9 HOn
          go_wp2_with fail
          refine (placed_any 107 (k : Int) (by decide) _).mono ?_
          rintro e wp ⟨rfl, hg⟩
          have HOp := hid (HOz.out.kept0 hg)
          have HFp := hid (HFz.out.kept0 hg)
          clear hg HOz HFz
          go_wp2_with (first
            | (refine wpList_store_rw rfl 52 _ _ rfl rfl rfl HFp.out info_fltN rfl (by simp [Value.oneCell']) ?_)
            | fail)
          have HOq := hid (HOp.out.keptT HFp.out (grown_setRN wp T10 #[.int .i64 107, .bool true, .int .i64 (k : Int)]) HTn.out)
          have HFq := hid (HFp.out.row #[.int .i64 107, .bool true, .int .i64 (k : Int)])
          go_meet
          case rel => exact ⟨_, hid ⟨HOq.out, by rw [List.map_append, HQx.out]; rfl, by rw [show wP k 1 = (k : Int) from rfl]; exact HFq.out⟩⟩
        · subst hb
          clear hb4
          go_upto_region 23 with (fail)
          have hg0 : wo.grownBy wo.drew none := grown_drew (grown_refl _ none)
          have HOd := hid (HO9.out.kept0 hg0)
          have HFd := hid (HF9.out.kept0 hg0)
          have HMd := hid (HM2.out.kept0 hg0)
          have HMod := hid (HMo2.out.kept0 hg0)
          refine wp_region_held_drew (S := fun W => RwAt W T9 39 #[.slice p0m 0 c0m, .slice p1m 2 c1m, .slice p2m 2 c2m, .slice p3m 0 c3m, .slice p4m 1 c4m, .slice p5m 2 c5m]) (by kernel_rfl) HMd.out (fun hS0 => ?_)
          clear hg0 HO9 HF9
          generalize wo.drew = wd at HOd HFd HMd HMod hS0 ⊢
          refine wpAnyH_take (i := 0) (v := ?_) rfl (by kernel_rfl) (by kernel_rfl) (by kernel_rfl) (fun _ _ _ h => h) (Or.inl ⟨by kernel_rfl, ?_⟩) hS0 ?_
          rotate_left
          · (intro W hSw; clear hSw; go_simp; try with_reducible rfl)
          try simp only [Act.put, List.setIfInBounds_toArray, List.set_cons_zero, List.set_cons_succ, List.getElem_toArray, List.getElem_cons_succ, List.getElem_cons_zero]
          refine wpAnyH_take (i := 1) (v := .agg #[.slice p0m 0 c0m, .slice p1m 2 c1m, .slice p2m 2 c2m, .slice p3m 0 c3m, .slice p4m 1 c4m, .slice p5m 2 c5m]) rfl (by kernel_rfl) (by kernel_rfl) (by kernel_rfl) (fun _ _ _ h => h) (Or.inl ⟨by kernel_rfl, fun W hW => run_load_row _ _ rfl rfl (hW).blk rfl Tryz.underlying39 info_object⟩) hS0 ?_
          try simp only [Act.put, List.setIfInBounds_toArray, List.set_cons_zero, List.set_cons_succ, List.getElem_toArray, List.getElem_cons_succ, List.getElem_cons_zero]
          have Hat : Hid (∀ w : World, Calls Tryz.prog 7 #[.string ⟨#[102, 48]⟩] w fun e w' => e = .returned (.agg #[.int .i64 0, .int .i64 0, .int .i64 0, .int .i64 0, .int .u32 0, .string (nmF 0), .string ByteArray.empty, .bool false]) ∧ w.grownBy w' none) := hid (fun w => by have h := at_any ⟨#[102, 48]⟩ w; rw [nmF0]; exact h)
          refine wpAnyH_ready (rs := [2]) (by kernel_rfl) (by simp) ?_
          refine AllReadyH.cons rfl (fun KK hKK => ?_) AllReadyH.nil
          go_simp
          refine (Hat.out _).mono ?_; rintro e' wd1 ⟨rfl, hg⟩
          have HGa := hid hg
          have hS1 : RwAt wd1 T9 39 #[.slice p0m 0 c0m, .slice p1m 2 c1m, .slice p2m 2 c2m, .slice p3m 0 c3m, .slice p4m 1 c4m, .slice p5m 2 c5m] := HMd.out.kept0 hg
          clear hg
          refine hKK.out _ _ hS1 (fun _ => ?_)
          clear hKK KK hS0
          have hS0 := hS1
          clear hS1
          try simp only [Act.put, List.setIfInBounds_toArray, List.set_cons_zero, List.set_cons_succ, List.getElem_toArray, List.getElem_cons_succ, List.getElem_cons_zero]
          refine wpAnyH_ready (rs := [3]) (by kernel_rfl) (by simp) ?_
          refine AllReadyH.cons rfl (fun KK hKK => ?_) AllReadyH.nil
          go_simp
          refine (op_nil 1 _).mono ?_; rintro e' wd2 ⟨rfl, hg⟩
          unfold lnC
          have HGb := hid (grown_trans HGa.out hg)
          have hS1 : RwAt wd2 T9 39 #[.slice p0m 0 c0m, .slice p1m 2 c1m, .slice p2m 2 c2m, .slice p3m 0 c3m, .slice p4m 1 c4m, .slice p5m 2 c5m] := HMd.out.kept0 HGb.out
          clear hg
          refine hKK.out _ _ hS1 (fun _ => ?_)
          clear hKK KK hS0
          have hS0 := hS1
          clear hS1
          try simp only [Act.put, List.setIfInBounds_toArray, List.set_cons_zero, List.set_cons_succ, List.getElem_toArray, List.getElem_cons_succ, List.getElem_cons_zero]
          refine wpAnyH_ready (rs := [4]) (by kernel_rfl) (by simp) ?_
          refine AllReadyH.cons rfl (fun KK hKK => ?_) AllReadyH.nil
          have al := World.grownBy_alloc wd2 (.cells #[.int .i64 0, .int .i64 0, .int .i64 0, .int .i64 0, .int .u32 0, .string (nmF 0), .string ByteArray.empty, .bool false, .int .i64 1, .int .i64 0, .int .i64 0, .int .i64 0, .int .u32 0, .string ByteArray.empty, .string ByteArray.empty, .bool false] 29) none
          have HLs := hid (csat_lit wd2 #[.int .i64 0, .int .i64 0, .int .i64 0, .int .i64 0, .int .u32 0, .string (nmF 0), .string ByteArray.empty, .bool false, .int .i64 1, .int .i64 0, .int .i64 0, .int .i64 0, .int .u32 0, .string ByteArray.empty, .string ByteArray.empty, .bool false] 29 2)
          have HGc := hid (grown_trans HGb.out al)
          have hS1 : RwAt (wd2.alloc (.cells #[.int .i64 0, .int .i64 0, .int .i64 0, .int .i64 0, .int .u32 0, .string (nmF 0), .string ByteArray.empty, .bool false, .int .i64 1, .int .i64 0, .int .i64 0, .int .i64 0, .int .u32 0, .string ByteArray.empty, .string ByteArray.empty, .bool false] 29)) T9 39 #[.slice p0m 0 c0m, .slice p1m 2 c1m, .slice p2m 2 c2m, .slice p3m 0 c3m, .slice p4m 1 c4m, .slice p5m 2 c5m] := HMd.out.kept0 HGc.out
          clear al
          go_simp
          refine hKK.out _ _ hS1 (fun _ => ?_)
          clear hKK KK hS0
          have hS0 := hS1
          clear hS1
          try simp only [Act.put, List.setIfInBounds_toArray, List.set_cons_zero, List.set_cons_succ, List.getElem_toArray, List.getElem_cons_succ, List.getElem_cons_zero]
          refine wpAnyH_ready (rs := [5]) (by kernel_rfl) (by simp) ?_
          refine AllReadyH.cons rfl (fun KK hKK => ?_) AllReadyH.nil
          go_simp
          refine (mkx_any (D := []) (ls := lsN2) (by simp) (by simp [lsN2]) (.inl ⟨⟨_, _, rfl⟩, rfl⟩) HLs.out).mono ?_
          rintro e' wd5 ⟨Vy, rfl, ho, hg⟩
          rw [obN2_is] at ho
          obtain ⟨p0y, c0y, p1y, c1y, p2y, c2y, p3y, c3y, p4y, c4y, p5y, c5y, hVv⟩ := ownO_slices ho
          rw [show (obN2).D.length = 0 from rfl, show (obN2).C.length = 1 from rfl, show (obN2).M.length = 1 from rfl, show (obN2).R.length = 0 from rfl, show (obN2).Q.length = 0 from rfl, show (obN2).S.length = 1 from rfl] at hVv
          subst hVv
          have HGd := hid (grown_trans HGc.out hg)
          have hS1 : RwAt wd5 T9 39 #[.slice p0m 0 c0m, .slice p1m 2 c1m, .slice p2m 2 c2m, .slice p3m 0 c3m, .slice p4m 1 c4m, .slice p5m 2 c5m] := HMd.out.kept0 HGd.out
          have Hoy : Hid (OwnO w1.heap.size wd5 ⟨.slice p0y 0 c0y, .slice p1y 1 c1y, .slice p2y 1 c2y, .slice p3y 0 c3y, .slice p4y 0 c4y, .slice p5y 1 c5y⟩ obN2) := hid (ho.baseW (grown_trans HOd.out.g HGc.out).size)
          clear hg ho
          unfold OV.agg
          refine hKK.out _ _ hS1 (fun _ => ?_)
          clear hKK KK hS0
          have hS0 := hS1
          clear hS1
          try simp only [Act.put, List.setIfInBounds_toArray, List.set_cons_zero, List.set_cons_succ, List.getElem_toArray, List.getElem_cons_succ, List.getElem_cons_zero]
          refine wpAnyH_ready (rs := [6]) (by kernel_rfl) (by simp) ?_
          refine AllReadyH.cons rfl (fun KK hKK => ?_) AllReadyH.nil
          have al := World.grownBy_alloc wd5 (.cells #[.slice p0m 0 c0m, .slice p1m 2 c1m, .slice p2m 2 c2m, .slice p3m 0 c3m, .slice p4m 1 c4m, .slice p5m 2 c5m, .slice p0y 0 c0y, .slice p1y 1 c1y, .slice p2y 1 c2y, .slice p3y 0 c3y, .slice p4y 0 c4y, .slice p5y 1 c5y] 39) none
          have HGe := hid (grown_trans HGd.out al)
          have HO9 := hid (HOd.out.kept0 HGe.out)
          have HF9 := hid (HFd.out.kept0 HGe.out)
          have HOn : Hid (∀ o ∈ [(⟨⟨.slice p0m 0 c0m, .slice p1m 2 c1m, .slice p2m 2 c2m, .slice p3m 0 c3m, .slice p4m 1 c4m, .slice p5m 2 c5m⟩, obNc (nmF 0)⟩ : Ob), (⟨⟨.slice p0y 0 c0y, .slice p1y 1 c1y, .slice p2y 1 c2y, .slice p3y 0 c3y, .slice p4y 0 c4y, .slice p5y 1 c5y⟩, obN2⟩ : Ob)], OwnO w1.heap.size (wd5.alloc (.cells #[.slice p0m 0 c0m, .slice p1m 2 c1m, .slice p2m 2 c2m, .slice p3m 0 c3m, .slice p4m 1 c4m, .slice p5m 2 c5m, .slice p0y 0 c0y, .slice p1y 1 c1y, .slice p2y 1 c2y, .slice p3y 0 c3y, .slice p4y 0 c4y, .slice p5y 1 c5y] 39)) o.V o.x) := hid (fun o h => by
            rcases List.mem_cons.1 h with rfl | h
            · exact HMod.out.kept0 HGe.out
            · obtain rfl := List.mem_singleton.1 h
              exact Hoy.out.kept0 al)
          have hS1 : RwAt (wd5.alloc (.cells #[.slice p0m 0 c0m, .slice p1m 2 c1m, .slice p2m 2 c2m, .slice p3m 0 c3m, .slice p4m 1 c4m, .slice p5m 2 c5m, .slice p0y 0 c0y, .slice p1y 1 c1y, .slice p2y 1 c2y, .slice p3y 0 c3y, .slice p4y 0 c4y, .slice p5y 1 c5y] 39)) T9 39 #[.slice p0m 0 c0m, .slice p1m 2 c1m, .slice p2m 2 c2m, .slice p3m 0 c3m, .slice p4m 1 c4m, .slice p5m 2 c5m] := HMd.out.kept0 HGe.out
          clear al
          go_simp
          refine hKK.out _ _ hS1 (fun _ => ?_)
          clear hKK KK hS0
          have hS0 := hS1
          clear hS1
          try simp only [Act.put, List.setIfInBounds_toArray, List.set_cons_zero, List.set_cons_succ, List.getElem_toArray, List.getElem_cons_succ, List.getElem_cons_zero]
          refine wpAnyH_ready (rs := [7]) (by kernel_rfl) (by simp) ?_
          refine AllReadyH.cons rfl (fun KK hKK => ?_) AllReadyH.nil
          have HOw := HO9.out.own
          rw [HnL.out] at HOw
          have HOw := hid HOw
          have Hnews : Hid (∀ j u, (csL obC [(⟨⟨.slice p0m 0 c0m, .slice p1m 2 c1m, .slice p2m 2 c2m, .slice p3m 0 c3m, .slice p4m 1 c4m, .slice p5m 2 c5m⟩, obNc (nmF 0)⟩ : Ob), (⟨⟨.slice p0y 0 c0y, .slice p1y 1 c1y, .slice p2y 1 c2y, .slice p3y 0 c3y, .slice p4y 0 c4y, .slice p5y 1 c5y⟩, obN2⟩ : Ob)])[j]? = some u → (wd5.alloc (.cells #[.slice p0m 0 c0m, .slice p1m 2 c1m, .slice p2m 2 c2m, .slice p3m 0 c3m, .slice p4m 1 c4m, .slice p5m 2 c5m, .slice p0y 0 c0y, .slice p1y 1 c1y, .slice p2y 1 c2y, .slice p3y 0 c3y, .slice p4y 0 c4y, .slice p5y 1 c5y] 39)).cell? ((⟨wd5.heap.size, 0, none⟩ : Addr).add j) = some u) := hid (World.news_of_block (heap_alloc_new wd5 _))
          obtain ⟨i, hi, hz0, hz1, hz2⟩ := info_obx
          have Hi := hid hi
          have Hz0 := hid hz0
          have Hz1 := hid hz1
          have Hz2 := hid hz2
          clear hi hz0 hz1 hz2
          refine wp_append_any _ _ 24 rfl w1.heap.size 39 i _ 6 144 Tryz.underlying24 Hi.out Hz0.out Hz1.out Hz2.out rfl (by decide) _ nL _ rfl HOw.out _ 2 (csL obC [(⟨⟨.slice p0m 0 c0m, .slice p1m 2 c1m, .slice p2m 2 c2m, .slice p3m 0 c3m, .slice p4m 1 c4m, .slice p5m 2 c5m⟩, obNc (nmF 0)⟩ : Ob), (⟨⟨.slice p0y 0 c0y, .slice p1y 1 c1y, .slice p2y 1 c2y, .slice p3y 0 c3y, .slice p4y 0 c4y, .slice p5y 1 c5y⟩, obN2⟩ : Ob)]) rfl ⟨rfl, by simp [csL, obC, Value.oneCell'], .inl ⟨⟨wd5.heap.size, 0, none⟩, 2, rfl, Hnews.out⟩⟩ (by have := HLb.out; unfold maxLen; omega) (by have := HLb.out; omega) HO9.out.g.size ?_
          intro v9 w9 hown hg9 hat
          have HOz := hid (HO9.out.add [(⟨⟨.slice p0m 0 c0m, .slice p1m 2 c1m, .slice p2m 2 c2m, .slice p3m 0 c3m, .slice p4m 1 c4m, .slice p5m 2 c5m⟩, obNc (nmF 0)⟩ : Ob), (⟨⟨.slice p0y 0 c0y, .slice p1y 1 c1y, .slice p2y 1 c2y, .slice p3y 0 c3y, .slice p4y 0 c4y, .slice p5y 1 c5y⟩, obN2⟩ : Ob)] HOn.out (by rw [HnL.out]; exact hown) hg9)
          have HFz := hid (HF9.out.kept hg9 (rw_own_ne HF9.out HO9.out.own (by decide)))
          have hS1 : RwAt w9 T9 39 #[.slice p0m 0 c0m, .slice p1m 2 c1m, .slice p2m 2 c2m, .slice p3m 0 c3m, .slice p4m 1 c4m, .slice p5m 2 c5m] := hS0.kept hg9 (fun e => by have := HTl.out T9 e.symm; omega)
          obtain ⟨q9, d9, rfl⟩ := own_slice hown
          clear hown hat hg9
          refine hKK.out _ _ hS1 (fun _ => ?_)
          clear hKK KK hS0
          have hS0 := hS1
          clear hS1
          try simp only [Act.put, List.setIfInBounds_toArray, List.set_cons_zero, List.set_cons_succ, List.getElem_toArray, List.getElem_cons_succ, List.getElem_cons_zero]
          refine wpAnyH_take (i := 8) (v := ?_) rfl (by kernel_rfl) (by kernel_rfl) (by kernel_rfl) (fun _ _ _ h => h) (Or.inl ⟨by kernel_rfl, ?_⟩) hS0 ?_
          rotate_left
          · (intro W hSw; clear hSw; go_simp; try with_reducible rfl)
          try simp only [Act.put, List.setIfInBounds_toArray, List.set_cons_zero, List.set_cons_succ, List.getElem_toArray, List.getElem_cons_succ, List.getElem_cons_zero]
          refine wpAnyH_done (by kernel_rfl) ?_ _
          clear hS0 HOw Hnews Hi Hz0 Hz1 Hz2 HO9 HF9 HOn HLs Hat HGa HGb HGc HGd HGe HOd HFd HMd HMod Hoy
          obtain ⟨k1', hk1'⟩ : ∃ m : Nat, k + 1 = m := ⟨_, rfl⟩
          have hki : (k : Int) + 1 = (k1' : Int) := by omega
          clear hk1'
          go_wp2_with fail
          refine (placed_any 106 (k1' : Int) (by decide) _).mono ?_
          rintro e wp ⟨rfl, hg⟩
          have HOp := hid (HOz.out.kept0 hg)
          have HFp := hid (HFz.out.kept0 hg)
          clear hg HOz HFz
          go_wp2_with (first
            | (refine wpList_store_rw rfl 52 _ _ rfl rfl rfl HFp.out info_fltN rfl (by simp [Value.oneCell']) ?_)
            | fail)
          have HOq := hid (HOp.out.keptT HFp.out (grown_setRN wp T10 #[.int .i64 106, .bool true, .int .i64 (k1' : Int)]) HTn.out)
          have HFq := hid (HFp.out.row #[.int .i64 106, .bool true, .int .i64 (k1' : Int)])
          go_meet
          case rel => exact ⟨_, hid ⟨HOq.out, by rw [List.map_append, HQx.out]; rfl, by rw [show wP k 2 = (k : Int) + 1 from rfl, hki]; exact HFq.out⟩⟩
        · subst hb
          clear hb4
          have HOz := HO9
          have HFz := HF9
          clear HO9 HF9
          obtain ⟨k0', hk0'⟩ : ∃ m : Nat, k - 1 = m := ⟨_, rfl⟩
          have hki : (k : Int) - 1 = (k0' : Int) := by have := HNb.out; omega
          go_wp2_with fail
          refine (placed_any 107 (k0' : Int) (by decide) _).mono ?_
          rintro e wp ⟨rfl, hg⟩
          have HOp := hid (HOz.out.kept0 hg)
          have HFp := hid (HFz.out.kept0 hg)
          clear hg HOz HFz
          go_wp2_with (first
            | (refine wpList_store_rw rfl 52 _ _ rfl rfl rfl HFp.out info_fltN rfl (by simp [Value.oneCell']) ?_)
            | fail)
          have HOq := hid (HOp.out.keptT HFp.out (grown_setRN wp T10 #[.int .i64 107, .bool true, .int .i64 (k0' : Int)]) HTn.out)
          have HFq := hid (HFp.out.row #[.int .i64 107, .bool true, .int .i64 (k0' : Int)])
          go_meet
          case rel => exact ⟨_, hid ⟨HOq.out, by rw [HQx.out]; exact (List.append_nil _).symm, by rw [show wP k 3 = (k : Int) - 1 from rfl, hki]; exact HFq.out⟩⟩
      case rest =>
        obtain ⟨L6, hc⟩ := hcut
        clear HO2 HM2 HMo2 HF2 HTl
        have HO6 := hid hc.out.1
        have HL6 := hid hc.out.2.1
        have HF6 := hid hc.out.2.2
        clear hc
        have hobb : Hid (∀ o ∈ L6, ObB o.x) := hid (fun o ho => by
          have h := List.mem_map_of_mem (f := fun o : Ob => o.x) ho
          rw [HL6.out] at h
          rcases List.mem_append.1 h with h | h
          · obtain ⟨i, hi, he⟩ := List.mem_map.1 h
            rw [← he]
            exact obNm_b (by have := List.mem_range.1 hi; have := HNb.out; omega)
          · exact restNm_b b _ h)
        have hlen : Hid (L6.length ≤ 1000000) := hid (by
          rw [← List.length_map (f := fun o : Ob => o.x), HL6.out, List.length_append]
          have h1 := restNm_len b
          have h2 : (xsNm k).length = k := by simp [xsNm]
          have := HNb.out
          omega)
        go_wp2_with fail
        refine (link_any HO6.out.at_ (HE.out.kept0 (grown_trans HG1.out HO6.out.g)) hobb.out hlen.out).mono ?_
        rintro e w6 hJ
        clear hobb hlen
        unfold LinkAt at hJ
        rw [HL6.out] at hJ
        have hjoin := joinNm (n := a) (c := b) HNb.out.2.2 (by have := Hb2.out; omega)
        rw [HNa.out] at hjoin
        have hb4 : b < 4 := Hb2.out
        obtain hb | hb | hb | hb : b = 0 ∨ b = 1 ∨ b = 2 ∨ b = 3 := by omega
        · subst hb
          cases hjp : joinP (xsNm k ++ restNm 0) with
          | mk f J =>
            rw [hjp] at hJ hjoin
            have hjp2 : f = none := hjoin
            subst hjp2
            have hJe : J = jnNm (a + 1) := by unfold jnNm; rw [HNa.out, hjp]
            subst hJe
            obtain ⟨K, hK, hJ⟩ := hJ
            obtain rfl := rnd_zero hK (tooNm HNb.out.2.2)
            obtain ⟨i0, i1, i2, i3, i4⟩ := imgNm HNb.out.2.2
            rw [if_neg (by rw [i0]; simp)] at hJ
            obtain ⟨_, _, v1, vC, vd, vp, vs, rfl, hro, hg⟩ := hJ
            obtain ⟨I, hI⟩ : ∃ I, imgP (jnNm (a + 1)) 0 = I := ⟨_, rfl⟩
            rw [hI] at i1 i2 i3 i4 hro ⊢
            clear hI hK i0 hjp hjoin
            rw [HNa.out] at i2 i3
            have r1 := hro ⟨v1, 25, 1, I.D.length, I.D.map (Value.int .u32)⟩ (by simp [imRo])
            have r2 := hro ⟨vC, 25, 1, I.C.length, I.C.map (Value.int .u32)⟩ (by simp [imRo])
            have r3 := hro ⟨vd, 3, 1, I.dr.length, I.dr.map (Value.int .i64)⟩ (by simp [imRo])
            have r4 := hro ⟨vp, 3, 1, I.pl.length, I.pl.map (Value.int .i64)⟩ (by simp [imRo])
            have r5 := hro ⟨vs, 3, 1, I.st.length, I.st.map (Value.int .i64)⟩ (by simp [imRo])
            simp only at r1 r2 r3 r4 r5
            obtain ⟨q1, d1, e1⟩ := own_slice r1
            obtain ⟨gC, d2, e2⟩ := own_some r2 (by omega)
            obtain ⟨q3, d3, e3⟩ := own_slice r3
            obtain ⟨q4, d4, e4⟩ := own_slice r4
            obtain ⟨q5, d5, e5⟩ := own_slice r5
            obtain ⟨m, hm⟩ : ∃ n, I.C.length = n := ⟨_, rfl⟩
            obtain ⟨n3, hn3⟩ : ∃ n, I.dr.length = n := ⟨_, rfl⟩
            obtain ⟨n4, hn4⟩ : ∃ n, I.pl.length = n := ⟨_, rfl⟩
            obtain ⟨n5, hn5⟩ : ∃ n, I.st.length = n := ⟨_, rfl⟩
            have hka := HNa.out
            have hmk : (k : Int) + 2 = (m : Int) := by omega
            obtain ⟨K1, hK1⟩ : ∃ n, k + 1 = n := ⟨_, rfl⟩
            have hK1i : (k : Int) + 1 = (K1 : Int) := by omega
            have hK1m : K1 < m := by omega
            have hK1n : (K1 : Int) < (m : Int) := by omega
            have hK10 : (0 : Int) ≤ (K1 : Int) := by omega
            have i5 : I.C[K1]? = some 2048 := by rw [← hK1, ← hka]; exact i4
            obtain ⟨e0, he0⟩ : ∃ e, I.e = e := ⟨_, rfl⟩
            rw [he0] at i3 ⊢
            obtain ⟨P1, hP1⟩ : ∃ n : Nat, 2048 + k = n := ⟨_, rfl⟩
            have hP1i : 2048 + (k : Int) = (P1 : Int) := by omega
            have hP1e : e0 = (P1 : Int) := by rw [i3]; omega
            subst hP1e
            have hwu : IntKind.u32.wrap (P1 : Int) = (P1 : Int) := by rw [IntKind.wrap_u32]; omega
            have hwu2 : (P1 : Int) % 4294967296 = (P1 : Int) := by omega
            rw [i2] at e1
            rw [hm] at e2 r2
            rw [hn3] at e3
            rw [hn4] at e4
            rw [hn5] at e5
            subst e1 e2 e3 e4 e5
            have Hc5 : Hid (w6.cell? ⟨gC, K1, none⟩ = some (.int .u32 2048)) := hid ((r2.cellAt K1 (by omega)).trans (by rw [List.getElem?_map, i5]; rfl))
            have hal := World.grownBy_alloc w6 (.cells #[.int .u32 (P1 : Int), .slice q1 k d1, .slice (some ⟨gC, 0, none⟩) m d2, .slice q3 n3 d3, .slice q4 n4 d4, .slice q5 n5 d5] 43) none
            have hgg := grown_trans hg hal
            have HG7 := hid (grown_trans HG1.out (grown_trans HO6.out.g hgg))
            have HS7 := hid (HS.out.kept0 HG7.out)
            have HF7 : Hid (RwAt (w6.alloc (.cells #[.int .u32 (P1 : Int), .slice q1 k d1, .slice (some ⟨gC, 0, none⟩) m d2, .slice q3 n3 d3, .slice q4 n4 d4, .slice q5 n5 d5] 43)) T10 52 #[.int .i64 0, .bool false, .int .i64 0]) := hid (HF6.out.kept0 hgg)
            have HX := hid (RwAt.new w6 43 #[.int .u32 (P1 : Int), .slice q1 k d1, .slice (some ⟨gC, 0, none⟩) m d2, .slice q3 n3 d3, .slice q4 n4 d4, .slice q5 n5 d5])
            have HRc := hid (own_keep0 r2 hal)
            have HI5 := hid i5
            have HKm := hid hK1m
            have Hzi := zero_image
            clear r1 r2 r3 r4 r5 hro hg hal hgg hm hn3 hn4 hn5 he0 i1 i2 i3 i4 i5 HO6 HF6 hka hK1 hP1 Hc5
            go_upto_region 26 with (fail)
            clear Hzi
            obtain ⟨X, hX⟩ : ∃ X, w6.heap.size = X := ⟨_, rfl⟩
            rw [hX] at HX ⊢
            clear hX
            generalize w6.alloc (.cells #[.int .u32 (P1 : Int), .slice q1 k d1, .slice (some ⟨gC, 0, none⟩) m d2, .slice q3 n3 d3, .slice q4 n4 d4, .slice q5 n5 d5] 43) = w8 at HG7 HS7 HF7 HX HRc ⊢
            have f0 := HF7.out.cell 0 (v := .int .i64 0) rfl
            have f1 := HF7.out.cell 1 (v := .bool false) rfl
            have f2 := HF7.out.cell 2 (v := .int .i64 0) rfl
            have Hva : Hid (FltAt A w8 .nilIface none) := hid rfl
            go_wp2_with fail
            refine (same_flt HS7.out Hva.out (by rintro c p ⟨⟩) 0 false 0 true (by decide)).mono ?_
            rintro e w9 ⟨rfl, hg⟩
            have HGz := hid (grown_trans HG7.out hg)
            have g0 := (HF7.out.kept0 hg).cell 0 (v := .int .i64 0) rfl
            have x0 := (HX.out.kept0 hg).cell 0 (v := .int .u32 (P1 : Int)) rfl
            have x1 := (HX.out.kept0 hg).cell 1 (v := .slice q1 k d1) rfl
            have x2 := (HX.out.kept0 hg).cell 2 (v := .slice (some ⟨gC, 0, none⟩) m d2) rfl
            have c5 : w9.cell? ⟨gC, K1, none⟩ = some (.int .u32 2048) := ((own_keep0 HRc.out hg).cellAt K1 (by have := HKm.out; omega)).trans (by rw [List.getElem?_map, HI5.out]; rfl)
            clear hg f0 f1 f2 HG7 HS7 HF7 Hva HX HRc
            go_wp2
            go_ret
            exact ⟨rfl, grown_below HGz.out⟩
        · subst hb
          have hk1' : 1 ≤ k := HNb.out.1
          cases hjp : joinP (xsNm k ++ restNm 1) with
          | mk f J =>
            rw [hjp] at hJ hjoin
            have hjp2 : f = some (6, some (k), none) := hjoin
            subst hjp2
            obtain ⟨u, rfl, _, hlft, hg⟩ := hJ
            obtain ⟨B, uu, rfl, hBt, huu⟩ := hlft
            obtain rfl : uu = errV (A 6) := huu
            have hal := World.grownBy_alloc w6 (.cells #[.int .u32 0, .slice none 0 0, .slice none 0 0, .slice none 0 0, .slice none 0 0, .slice none 0 0] 43) none
            have hgg := grown_trans hg hal
            have HG7 := hid (grown_trans HG1.out (grown_trans HO6.out.g hgg))
            have HS7 := hid (HS.out.kept0 HG7.out)
            have HF7 := hid (HF6.out.kept0 hgg)
            have Hva : Hid (FltAt A (w6.alloc (.cells #[.int .u32 0, .slice none 0 0, .slice none 0 0, .slice none 0 0, .slice none 0 0, .slice none 0 0] 43)) (atV B) (some (6, some (k)))) := hid ⟨B, rfl, hBt.kept0 hal⟩
            have Hzi := zero_image
            obtain ⟨Pk, hPk⟩ : ∃ p : Int, (k : Int) = p := ⟨_, rfl⟩
            have HF8 : Hid (RwAt (w6.alloc (.cells #[.int .u32 0, .slice none 0 0, .slice none 0 0, .slice none 0 0, .slice none 0 0, .slice none 0 0] 43)) T10 52 #[.int .i64 107, .bool true, .int .i64 Pk]) := hid (by rw [← hPk]; exact HF7.out)
            have Hfn : Hid (fltN (some (6, some (k))) = Pk) := hid (by rw [← hPk]; simp [fltN]; try omega)
            clear hal hgg hg hBt HO6 HF6 HF7 hPk hjoin hjp
            go_upto_region 26 with (fail)
            clear Hzi
            generalize w6.alloc (.cells #[.int .u32 0, .slice none 0 0, .slice none 0 0, .slice none 0 0, .slice none 0 0, .slice none 0 0] 43) = w8 at HG7 HS7 HF8 Hva ⊢
            have f0 := HF8.out.cell 0 (v := .int .i64 107) rfl
            have f1 := HF8.out.cell 1 (v := .bool true) rfl
            have f2 := HF8.out.cell 2 (v := .int .i64 Pk) rfl
            go_wp2_with fail
            refine (same_flt HS7.out Hva.out (by rintro c p ⟨⟩; decide) 107 true Pk true (by rw [Hfn.out]; simp [fltC, fltB])).mono ?_
            rintro e w9 ⟨rfl, hg⟩
            have HGz := hid (grown_trans HG7.out hg)
            have g0 := (HF8.out.kept0 hg).cell 0 (v := .int .i64 107) rfl
            clear hg f0 f1 f2 HG7 HS7 HF8 Hva
            go_wp2
            go_ret
            exact ⟨rfl, grown_below HGz.out⟩
        · subst hb
          have hk1' : 1 ≤ k := HNb.out.1
          cases hjp : joinP (xsNm k ++ restNm 2) with
          | mk f J =>
            rw [hjp] at hJ hjoin
            have hjp2 : f = some (5, some (k + 1), none) := hjoin
            subst hjp2
            obtain ⟨u, rfl, _, hlft, hg⟩ := hJ
            obtain ⟨B, uu, rfl, hBt, huu⟩ := hlft
            obtain rfl : uu = errV (A 5) := huu
            have hal := World.grownBy_alloc w6 (.cells #[.int .u32 0, .slice none 0 0, .slice none 0 0, .slice none 0 0, .slice none 0 0, .slice none 0 0] 43) none
            have hgg := grown_trans hg hal
            have HG7 := hid (grown_trans HG1.out (grown_trans HO6.out.g hgg))
            have HS7 := hid (HS.out.kept0 HG7.out)
            have HF7 := hid (HF6.out.kept0 hgg)
            have Hva : Hid (FltAt A (w6.alloc (.cells #[.int .u32 0, .slice none 0 0, .slice none 0 0, .slice none 0 0, .slice none 0 0, .slice none 0 0] 43)) (atV B) (some (5, some (k + 1)))) := hid ⟨B, rfl, hBt.kept0 hal⟩
            have Hzi := zero_image
            obtain ⟨Pk, hPk⟩ : ∃ p : Int, (k : Int) + 1 = p := ⟨_, rfl⟩
            have HF8 : Hid (RwAt (w6.alloc (.cells #[.int .u32 0, .slice none 0 0, .slice none 0 0, .slice none 0 0, .slice none 0 0, .slice none 0 0] 43)) T10 52 #[.int .i64 106, .bool true, .int .i64 Pk]) := hid (by rw [← hPk]; exact HF7.out)
            have Hfn : Hid (fltN (some (5, some (k + 1))) = Pk) := hid (by rw [← hPk]; simp [fltN]; try omega)
            clear hal hgg hg hBt HO6 HF6 HF7 hPk hjoin hjp
            go_upto_region 26 with (fail)
            clear Hzi
            generalize w6.alloc (.cells #[.int .u32 0, .slice none 0 0, .slice none 0 0, .slice none 0 0, .slice none 0 0, .slice none 0 0] 43) = w8 at HG7 HS7 HF8 Hva ⊢
            have f0 := HF8.out.cell 0 (v := .int .i64 106) rfl
            have f1 := HF8.out.cell 1 (v := .bool true) rfl
            have f2 := HF8.out.cell 2 (v := .int .i64 Pk) rfl
            go_wp2_with fail
            refine (same_flt HS7.out Hva.out (by rintro c p ⟨⟩; decide) 106 true Pk true (by rw [Hfn.out]; simp [fltC, fltB])).mono ?_
            rintro e w9 ⟨rfl, hg⟩
            have HGz := hid (grown_trans HG7.out hg)
            have g0 := (HF8.out.kept0 hg).cell 0 (v := .int .i64 106) rfl
            clear hg f0 f1 f2 HG7 HS7 HF8 Hva
            go_wp2
            go_ret
            exact ⟨rfl, grown_below HGz.out⟩
        · subst hb
          have hk1' : 1 ≤ k := HNb.out.1
          cases hjp : joinP (xsNm k ++ restNm 3) with
          | mk f J =>
            rw [hjp] at hJ hjoin
            have hjp2 : f = some (6, some (k - 1), none) := hjoin
            subst hjp2
            obtain ⟨u, rfl, _, hlft, hg⟩ := hJ
            obtain ⟨B, uu, rfl, hBt, huu⟩ := hlft
            obtain rfl : uu = errV (A 6) := huu
            have hal := World.grownBy_alloc w6 (.cells #[.int .u32 0, .slice none 0 0, .slice none 0 0, .slice none 0 0, .slice none 0 0, .slice none 0 0] 43) none
            have hgg := grown_trans hg hal
            have HG7 := hid (grown_trans HG1.out (grown_trans HO6.out.g hgg))
            have HS7 := hid (HS.out.kept0 HG7.out)
            have HF7 := hid (HF6.out.kept0 hgg)
            have Hva : Hid (FltAt A (w6.alloc (.cells #[.int .u32 0, .slice none 0 0, .slice none 0 0, .slice none 0 0, .slice none 0 0, .slice none 0 0] 43)) (atV B) (some (6, some (k - 1)))) := hid ⟨B, rfl, hBt.kept0 hal⟩
            have Hzi := zero_image
            obtain ⟨Pk, hPk⟩ : ∃ p : Int, (k : Int) - 1 = p := ⟨_, rfl⟩
            have HF8 : Hid (RwAt (w6.alloc (.cells #[.int .u32 0, .slice none 0 0, .slice none 0 0, .slice none 0 0, .slice none 0 0, .slice none 0 0] 43)) T10 52 #[.int .i64 107, .bool true, .int .i64 Pk]) := hid (by rw [← hPk]; exact HF7.out)
            have Hfn : Hid (fltN (some (6, some (k - 1))) = Pk) := hid (by rw [← hPk]; simp [fltN]; try omega)
            clear hal hgg hg hBt HO6 HF6 HF7 hPk hjoin hjp
            go_upto_region 26 with (fail)
            clear Hzi
            generalize w6.alloc (.cells #[.int .u32 0, .slice none 0 0, .slice none 0 0, .slice none 0 0, .slice none 0 0, .slice none 0 0] 43) = w8 at HG7 HS7 HF8 Hva ⊢
            have f0 := HF8.out.cell 0 (v := .int .i64 107) rfl
            have f1 := HF8.out.cell 1 (v := .bool true) rfl
            have f2 := HF8.out.cell 2 (v := .int .i64 Pk) rfl
            go_wp2_with fail
            refine (same_flt HS7.out Hva.out (by rintro c p ⟨⟩; decide) 107 true Pk true (by rw [Hfn.out]; simp [fltC, fltB])).mono ?_
            rintro e w9 ⟨rfl, hg⟩
            have HGz := hid (grown_trans HG7.out hg)
            have g0 := (HF8.out.kept0 hg).cell 0 (v := .int .i64 107) rfl
            clear hg f0 f1 f2 HG7 HS7 HF8 Hva
            go_wp2
            go_ret
            exact ⟨rfl, grown_below HGz.out⟩
    · have kn : (k : Int) < (N : Int) := by omega
      have Hlt := hid hlt
      clear hlt hk
      obtain ⟨k1, hk1⟩ : ∃ k1, k + 1 = k1 := ⟨_, rfl⟩
      have hk1i : (k : Int) + 1 = (k1 : Int) := by omega
      obtain ⟨sk, hsk⟩ : ∃ sk : ByteArray, ⟨(dgt k).toArray⟩ = sk := ⟨_, rfl⟩
      obtain ⟨sk1, hsk1⟩ : ∃ sk : ByteArray, ⟨(dgt k1).toArray⟩ = sk := ⟨_, rfl⟩
      have hst : ∀ w : World, (Op.stringOp .add ⟨#[102]⟩ sk).run Tryz.prog w = .ok (.string (nmF k)) w := fun w => by rw [← hsk]; exact add_f k w
      have hst1 : ∀ w : World, (Op.stringOp .add ⟨#[102]⟩ sk1).run Tryz.prog w = .ok (.string (nmF k1)) w := fun w => by rw [← hsk1]; exact add_f k1 w
      have Hnum : Hid (∀ w, w1.grownBy w none → Calls Tryz.prog 8 #[.int .i64 k] w fun e w' => e = .returned (.string sk) ∧ w.grownBy w' none) := hid (fun w hw => by
        rw [← hsk]
        exact num_all HT.out k (by omega) w (grown_trans HG1.out hw))
      have Hnum1 : Hid (∀ w, w1.grownBy w none → Calls Tryz.prog 8 #[.int .i64 k1] w fun e w' => e = .returned (.string sk1) ∧ w.grownBy w' none) := hid (fun w hw => by
        rw [← hsk1]
        exact num_all HT.out k1 (by have := HNb.out; omega) w (grown_trans HG1.out hw))
      have Hk1 := hid hk1
      clear hsk hsk1 hk1
      go_wp2_with fail
      refine (Hnum1.out _ HQ.out.1.g).mono ?_
      rintro e w5 ⟨rfl, hg⟩
      have HQ5 := hid (HQ.out.1.kept0 hg)
      have Hx5 := hid HQ.out.2
      clear hg Hnum1 HQ
      obtain ⟨zb, hz1⟩ : ∃ z, ((k : Int) == (N : Int) - 1) = z := ⟨_, rfl⟩
      obtain ⟨N0, hN0⟩ : ∃ m : Nat, N - 1 = m := ⟨_, rfl⟩
      have hN0i : (N : Int) - 1 = (N0 : Int) := by omega
      rw [hN0i] at hz1
      have hz2 : (k == N0) = zb := by rw [← hz1, Bool.eq_iff_iff, beq_iff_eq, beq_iff_eq]; omega
      have Hzb := hid hz2
      have HN0 := hid hN0
      clear hN0
      go_upto_if 31 with (fail)
      clear hz1 hz2 hst1 hk1i hN0i
      go_cut [8] from 19 to 45 (fun u wz => u = .string (nmX N k) ∧ wz = w5)
      case first =>
        cases zb with
        | false =>
          have HkM : Hid (nmX N k = nmF k1) := hid (by unfold nmX; rw [if_neg (by have := Hzb.out; have := HN0.out; simp at *; omega), Hk1.out])
          clear Hzb
          go_wp2
          go_meet
          case rel => exact ⟨by rw [HkM.out], rfl⟩
        | true =>
          have HkM : Hid (nmX N k = nmMainL) := hid (by unfold nmX; rw [if_pos (by have := Hzb.out; have := HN0.out; have := HNb.out; simp at *; omega)])
          clear Hzb
          go_wp2
          go_meet
          case rel => exact ⟨by rw [HkM.out]; rfl, rfl⟩
      case rest =>
        obtain ⟨rfl, rfl⟩ := hcut
        clear Hzb HN0
        have hku : IntKind.u32.wrap (k : Int) = (k : Int) := by rw [IntKind.wrap_u32]; omega
        have hku2 : (k : Int) % 4294967296 = (k : Int) := by omega
        have alD := World.grownBy_alloc wc (.cells #[.int .u32 (k : Int)] 25) none
        have HDs : Hid (SlAt (wc.alloc (.cells #[.int .u32 (k : Int)] 25)) .u32 (.slice (some ⟨wc.heap.size, 0, none⟩) 1 1) [(k : Int)]) := hid (CsAt.toSlN (xs := [(k : Int)]) (csat_lit wc #[.int .u32 (k : Int)] 25 1))
        have HQ6 := hid (HQ5.out.kept0 alD)
        clear alD HQ5
        go_wp2_with fail
        refine (Hnum.out _ HQ6.out.g).mono ?_
        rintro e w6 ⟨rfl, hg⟩
        have HQ7 := hid (HQ6.out.kept0 hg)
        have HD7 := hid (HDs.out.kept0 hg)
        clear hg HQ6 HDs Hnum hku hku2
        go_wp2_with fail
        refine (at_any (nmF k) _).mono ?_
        rintro e w7 ⟨rfl, hg⟩
        unfold lbC
        have HQ8 := hid (HQ7.out.kept0 hg)
        have HD8 := hid (HD7.out.kept0 hg)
        clear hg HQ7 HD7 hst
        go_wp2_with fail
        refine (to_any 16 0 (nmX N k) _).mono ?_
        rintro e w8 ⟨rfl, hg⟩
        unfold tlC
        have alL := World.grownBy_alloc w8 (.cells #[.int .i64 0, .int .i64 0, .int .i64 0, .int .i64 0, .int .u32 0, .string (nmF k), .string ByteArray.empty, .bool false, .int .i64 16, .int .i64 0, .int .i64 0, .int .i64 0, .int .u32 0, .string ByteArray.empty, .string (nmX N k), .bool false] 29) none
        have HLs := hid (csat_lit w8 #[.int .i64 0, .int .i64 0, .int .i64 0, .int .i64 0, .int .u32 0, .string (nmF k), .string ByteArray.empty, .bool false, .int .i64 16, .int .i64 0, .int .i64 0, .int .i64 0, .int .u32 0, .string ByteArray.empty, .string (nmX N k), .bool false] 29 2)
        have HQ9 := hid (HQ8.out.kept0 (grown_trans hg alL))
        have HD9 := hid (HD8.out.kept0 (grown_trans hg alL))
        clear hg alL HQ8 HD8
        go_wp2_with fail
        refine (mkx_any (D := [(k : Int)]) (ls := lsNm N k) (by simp) (by simp [lsNm]) HD9.out HLs.out).mono ?_
        rintro e w9 ⟨Vv, rfl, ho, hg⟩
        rw [obNm_is (by have := HNb.out; omega) (by have := Hlt.out; have := HNb.out; omega)] at ho
        obtain ⟨p0, c0, p1, c1, p2, c2, p3, c3, p4, c4, p5, c5, hVv⟩ := ownO_slices ho
        rw [show (obNm N k).D.length = 1 from rfl, show (obNm N k).C.length = 1 from rfl, show (obNm N k).M.length = 1 from rfl, show (obNm N k).R.length = 0 from rfl, show (obNm N k).Q.length = 1 from rfl, show (obNm N k).S.length = 2 from rfl] at hVv
        subst hVv
        have al := World.grownBy_alloc w9 (.cells #[.slice p0 1 c0, .slice p1 1 c1, .slice p2 1 c2, .slice p3 0 c3, .slice p4 1 c4, .slice p5 2 c5] 39) none
        have HO6 := hid (HQ9.out.kept0 (grown_trans hg al))
        have HOn : Hid (∀ o ∈ [(⟨⟨.slice p0 1 c0, .slice p1 1 c1, .slice p2 1 c2, .slice p3 0 c3, .slice p4 1 c4, .slice p5 2 c5⟩, obNm N k⟩ : Ob)], OwnO w1.heap.size (w9.alloc (.cells #[.slice p0 1 c0, .slice p1 1 c1, .slice p2 1 c2, .slice p3 0 c3, .slice p4 1 c4, .slice p5 2 c5] 39)) o.V o.x) := hid (fun o h => by
          obtain rfl := List.mem_singleton.1 h
          exact (ho.kept0 al).baseW HQ9.out.g.size)
        clear ho hg al HQ9 HD9 HLs
        unfold OV.agg
        have HOw := HO6.out.own
        rw [HnL.out] at HOw
        have HOw := hid HOw
        have Hnews : Hid (∀ j u, (csL obC [(⟨⟨.slice p0 1 c0, .slice p1 1 c1, .slice p2 1 c2, .slice p3 0 c3, .slice p4 1 c4, .slice p5 2 c5⟩, obNm N k⟩ : Ob)])[j]? = some u → (w9.alloc (.cells #[.slice p0 1 c0, .slice p1 1 c1, .slice p2 1 c2, .slice p3 0 c3, .slice p4 1 c4, .slice p5 2 c5] 39)).cell? ((⟨w9.heap.size, 0, none⟩ : Addr).add j) = some u) := hid (World.news_of_block (heap_alloc_new w9 _))
        obtain ⟨i, hi, hz0, hz1, hz2⟩ := info_obx
        have Hi := hid hi
        have Hz0 := hid hz0
        have Hz1 := hid hz1
        have Hz2 := hid hz2
        clear hi hz0 hz1 hz2
        go_wp2_with (first
          | (refine is_app _ _ _ rfl ?_
             refine wpList_append_lies _ rfl _ _ 24 rfl w1.heap.size 39 i _ 6 144 Tryz.underlying24 Hi.out Hz0.out Hz1.out Hz2.out rfl (by decide) _ nL _ rfl HOw.out ⟨w9.heap.size, 0, none⟩ 1 1 _ rfl rfl Hnews.out (by simp [csL, obC, Value.oneCell']) (by decide) (by have := HLb.out; unfold maxLen; omega) (by have := HLb.out; omega) HO6.out.g.size _ rfl ?_
             intro g cap wz hown hgrow hat hlt2
             have hgrow0 : (w9.alloc (.cells #[.slice p0 1 c0, .slice p1 1 c1, .slice p2 1 c2, .slice p3 0 c3, .slice p4 1 c4, .slice p5 2 c5] 39)).grownBy wz (Value.slice vp nL vc).ownBlock := hgrow
             have HOz := hid (HO6.out.add [(⟨⟨.slice p0 1 c0, .slice p1 1 c1, .slice p2 1 c2, .slice p3 0 c3, .slice p4 1 c4, .slice p5 2 c5⟩, obNm N k⟩ : Ob)] HOn.out (by rw [HnL.out]; exact hown) hgrow0)
             clear hown hgrow hat hlt2)
          | fail)
        clear HOw Hnews Hi Hz0 Hz1 Hz2
        clear hgrow0
        go_roundw
        case rel =>
          refine ⟨k + 1, Hlt.out, by go_num, hid ⟨_, HOz.out, ?_⟩⟩
          rw [List.map_append, Hx5.out, List.range_succ, List.map_append]
          rfl
        case measure => simp [intOf]; have := Hlt.out; omega
end Go.Proofs.YtogdpaaofihkgaaGreatDoor
