/- bare's devices: an instruction that asks the devices, or tells them something: contracts. -/
import Derived.Test.YtkkbhifplbleiaaGreatDoorZGBareA
import Derived.Test.YtkkbhifplbleiaaGreatDoorZGCore
import Derived.Test.YtkkbhifplbleiaaGreatDoorZGDev
import Derived.Test.YtkkbhifplbleiaaGreatDoorZGAluB
import Derived.Deep.Cut
namespace Go.Proofs.YtkkbhifplbleiaaGreatDoor
open Go.RowKit
section
variable {w w3 w4 w5 : World} {B d : Nat} {x : DvS} {v v' : Value}
/-- devices that turned behind blocks that were made, and such blocks written -/
theorem turned_own (h : DevAt w B d x v) (hg : w.grownBy w3 none) {x' : DvS} (ht : Turned w3 B d v x' w4 v') {R : List Nat} (hL : Lv w4 w5 R) (hR : ∀ i ∈ R, w.heap.size ≤ i ∧ i < w3.heap.size) : Turned w B d v x' w5 v' := by
  have key : ∀ i ∈ foot d v', i ∉ R := by
    intro i hi hi2
    have h2 := hR i hi2
    rcases mem_foot.1 hi with e | e
    · have := h.lt; omega
    · rcases ht.mine with hm | hm
      · have := h.foot_lt i (mem_foot.2 (.inr (hm.symm.trans e))); omega
      · have := hm i e; omega
  refine ⟨ht.at_.keptL hL key, ⟨hL.os.trans (ht.lv.os.trans hg.os), hL.tape.trans (ht.lv.tape.trans hg.tape), hL.output.trans (ht.lv.output.trans hg.output), Nat.le_trans hg.size (Nat.le_trans ht.lv.size hL.size), fun i hi hr => ?_⟩, ?_⟩
  · rw [hL.block i (Nat.lt_of_lt_of_le hi (Nat.le_trans hg.size ht.lv.size)) (fun e => by have := hR i e; omega), ht.lv.block i (Nat.lt_of_lt_of_le hi hg.size) hr]
    exact hg.block i hi (by simp)
  · rcases ht.mine with hm | hm
    · exact .inl hm
    · exact .inr (fun g hgv => Nat.le_trans hg.size (hm g hgv))
/-- a block that is newer than the devices, behind a call of theirs -/
theorem RwAt.turned {b : Nat} {t : TypeId} {cs : Array Value} (hr : RwAt w3 b t cs) (h : DevAt w B d x v) (hb : w.heap.size ≤ b) {x' : DvS} (ht : Turned w3 B d v x' w4 v') : RwAt w4 b t cs :=
  hr.keptL ht.lv (fun hi => by have := h.foot_lt b hi; omega)
theorem in_of (h : DevAt w B d x v) (K : Int) (hK : x.Q.headD 0 = K) :
    Calls Tryz.prog 131 #[.pointer (some ⟨d, 0, none⟩)] w fun e w' => e = .returned (.int .u32 K) ∧ Turned w B d v ⟨x.Q.tail, x.S, x.fr, x.af, x.sn⟩ w' v := by
  obtain ⟨Q, S, fr, af, sn⟩ := x
  cases Q with
  | nil =>
    obtain rfl : 0 = K := hK
    exact (in_no h rfl).mono fun e w' ⟨he, hw⟩ => by subst hw; exact ⟨he, Turned.none h (grown_refl _ _)⟩
  | cons k r =>
    obtain rfl : k = K := hK
    exact (in_yes h rfl).mono fun e w' ⟨he, hw⟩ => ⟨he, hw⟩
/-- behind devices -/
def DvcAt (w : World) (B d : Nat) (v : Value) (L : List Int) (x' : DvS) (e : Ending) (w' : World) : Prop := e = .returned (.agg (wA L)) ∧ ∃ v', Turned w B d v x' w' v'
theorem keep_set {w : World} {b1 b2 k j : Nat} {v u : Value} (h : w.cell? ⟨b2, j, none⟩ = some u) (hne : b2 ≠ b1) : (w.setCell ⟨b1, k, none⟩ v).cell? ⟨b2, j, none⟩ = some u := by
  rw [World.cell?_setCell_other _ _ _ _ (fun e => hne (by injection e with e1; exact e1.symm))]; exact h
/-- what the function boxes, and where it answers -/
structure DvAt (w w3 : World) (b1 b2 b3 : Nat) (l : List Int) (i : Array Value) : Prop where
  h1 : RwAt w3 b1 37 (wA l)
  h2 : RwAt w3 b2 112 i
  h3 : RwAt w3 b3 37 (wA zeroL)
  g : w.grownBy w3 none
  lo : w.heap.size ≤ b1
  n12 : b1 < b2
  n23 : b2 < b3
  hi : b3 < w3.heap.size
theorem DvAt.init (w : World) (l : List Int) (i : Array Value) : DvAt w (((w.alloc (.cells (wA l) 37)).alloc (.cells i 112)).alloc (.cells (wA zeroL) 37)) w.heap.size (w.heap.size + 1) (w.heap.size + 1 + 1) l i := by
  refine ⟨((RwAt.new w _ _).alloc _).alloc _, (RwAt.new2 w _ _ _).alloc _, ?_, grown_alloc (grown_alloc (grown_alloc (grown_refl w none) _) _) _, Nat.le_refl _, Nat.lt_succ_self _, Nat.lt_succ_self _, by simp⟩
  have := RwAt.new2 (w.alloc (.cells (wA l) 37)) (.cells i 112) 37 (wA zeroL)
  rw [World.size_alloc] at this
  exact this
theorem DvAt.kept0 {w3 w4 : World} {b1 b2 b3 : Nat} {l : List Int} {i : Array Value} (h : DvAt w w3 b1 b2 b3 l i) (hg : w3.grownBy w4 none) : DvAt w w4 b1 b2 b3 l i :=
  ⟨h.h1.kept0 hg, h.h2.kept0 hg, h.h3.kept0 hg, grown_trans h.g hg, h.lo, h.n12, h.n23, Nat.lt_of_lt_of_le h.hi hg.size⟩
theorem two_in {P : Nat → Prop} {a b : Nat} (ha : P a) (hb : P b) : ∀ i ∈ [a, b], P i := fun i hi => by
  rcases List.mem_cons.1 hi with e | e
  · rw [e]; exact ha
  · rw [List.mem_singleton.1 e]; exact hb
theorem regs_rw_info (l : List Int) (h : l.length = 16) : (Tryz.prog.info? 37).map (·.size) = some (wA l).size := regs_len_info l h
theorem reg_cell {w : World} {b : Nat} {l : List Int} (h : RwAt w b 37 (wA l)) {k : Nat} {y : Int} (hy : l[k]? = some y) : w.cell? ⟨b, k, none⟩ = some (.int .u32 y) := h.cell k (by rw [wA_get, hy]; rfl)
end
section
variable {w : World} {B d : Nat} {x : DvS} {v : Value} {l : List Int}
set_option maxRecDepth 100000 in
set_option maxHeartbeats 4000000 in
theorem dvc35 (h : DevAt w B d x v) (hB : B ≤ w.heap.size) (hl : Regs l) (_hS : U32s x.S) (_hq : U32s x.Q) (hsn : x.sn.length ≤ 1000000) (now op : Int) (hop : op = 35) (k j : Nat) (hk : k < 16) (hj : j < 16) (c im : Int) :
    Calls Tryz.prog 111 #[.agg (wA l), .pointer (some ⟨d, 0, none⟩), .int .i64 now, .agg (inC op (k : Int) (j : Int) c im)] w (DvcAt w B d v (devL now x l op (k : Int) (j : Int)) (devD now x l op (k : Int) (j : Int))) := by
  obtain ⟨b1, b2, b3, e1, e2, e3⟩ : ∃ b1 b2 b3, b1 = w.heap.size ∧ b2 = w.heap.size + 1 ∧ b3 = w.heap.size + 1 + 1 := ⟨_, _, _, rfl, rfl, rfl⟩
  have HD := hid (DvAt.init w l (inC op (k : Int) (j : Int) c im))
  rw [← e3, ← e2, ← e1] at HD
  have H := hid h
  have HB := hid hB
  have HL := hid hl
  have Hsn := hid hsn
  obtain ⟨R, hR⟩ : ∃ R, l[k]? = some R := ⟨_, List.getElem?_eq_getElem (by rw [hl.len]; exact hk)⟩
  obtain ⟨Z, hZ⟩ : ∃ Z, l[j]? = some Z := ⟨_, List.getElem?_eq_getElem (by rw [hl.len]; exact hj)⟩
  have hRI : regI l (k : Int) = R := by unfold regI; rw [Int.toNat_natCast, List.getD_eq_getElem?_getD, hR]; rfl
  have hZI : regI l (j : Int) = Z := by unfold regI; rw [Int.toNat_natCast, List.getD_eq_getElem?_getD, hZ]; rfl
  have R0 : 0 ≤ R := (hl.bd R (List.mem_of_getElem? hR)).1
  have R1 : R ≤ 4294967295 := by have := (hl.bd R (List.mem_of_getElem? hR)).2; omega
  have Z0 : 0 ≤ Z := (hl.bd Z (List.mem_of_getElem? hZ)).1
  have Z1 : Z ≤ 4294967295 := by have := (hl.bd Z (List.mem_of_getElem? hZ)).2; omega
  have He : Hid (devL now x l op (k : Int) (j : Int) = l ∧ devD now x l op (k : Int) (j : Int) = seeD x (1, 0, R)) := hid (by subst hop; exact ⟨rfl, by unfold devD; rw [if_pos rfl, hRI]⟩)
  have HR := hid hR
  have HZ := hid hZ
  have t35 : (op == 35) = true := by rw [hop]; decide
  have k0 : (0 : Int) ≤ (k : Int) := by omega
  have k1 : (k : Int) < 16 := by omega
  have j0 : (0 : Int) ≤ (j : Int) := by omega
  have j1 : (j : Int) < 16 := by omega
  clear h hB hl hR hZ hRI hZI hop hsn _hS _hq
  go_enter Tryz.func111, Tryz.ntmps111
  go_upto_region 1 with (fail)
  change Code.wp _ _ _ _ (((w.alloc (.cells (wA l) 37)).alloc (.cells (inC op (k : Int) (j : Int) c im) 112)).alloc (.cells (wA zeroL) 37))
  generalize (((w.alloc (.cells (wA l) 37)).alloc (.cells (inC op (k : Int) (j : Int) c im) 112)).alloc (.cells (wA zeroL) 37)) = w3 at HD ⊢
  rw [← e3, ← e2, ← e1]
  clear e1 e2 e3
  have i0 := HD.out.h2.cell 0 (v := .int .i64 op) rfl
  have i1 := HD.out.h2.cell 1 (v := .int .i64 (k : Int)) rfl
  have i2 := HD.out.h2.cell 2 (v := .int .i64 (j : Int)) rfl
  have hr := reg_cell HD.out.h1 HR.out
  have hz := reg_cell HD.out.h1 HZ.out
  have NB : Hid (w.heap.size ≤ b1 ∧ w.heap.size ≤ b2 ∧ w.heap.size ≤ b3 ∧ b1 ≠ b3 ∧ b2 ≠ b1 ∧ b1 < w3.heap.size ∧ b3 < w3.heap.size ∧ B ≤ w3.heap.size) := hid (by have := HD.out.lo; have := HD.out.n12; have := HD.out.n23; have := HD.out.hi; have := HB.out; omega)
  have H3 := hid (H.out.kept0 HD.out.g)
  go_wp2_with fail
  refine (out_any H3.out R Hsn.out NB.out.2.2.2.2.2.2.2).mono ?_; rintro e w4 ⟨rfl, v', ht⟩
  have HT := hid ht
  have R1' := hid (HD.out.h1.turned H.out NB.out.1 ht)
  have R3' := hid (HD.out.h3.turned H.out NB.out.2.2.1 ht)
  clear ht i1 i2 hr hz i0
  have E4 := hid (R3'.out.row (wA l))
  go_wp2_with (first
    | (refine wpList_load_rw rfl 37 _ rfl rfl R1'.out rfl Tryz.underlying37 (regs_rw_info _ HL.out.len) ?_)
    | (refine wpList_store_rw rfl 37 _ _ rfl rfl rfl R3'.out (regs_rw_info _ HL.out.len) (by rw [wA_size, wA_size, HL.out.len]; rfl) (wA_one _) ?_)
    | fail)
  refine bodyPost_ret (results_cell_row Tryz.results111 _ _ b3 _ _ _ _ rfl E4.out.blk Tryz.underlying37 rfl (regs_rw_info _ HL.out.len)) rfl ?_
  rw [He.out.1, He.out.2]
  exact ⟨rfl, v', turned_own H.out HD.out.g HT.out (lv_row (Lv.refl w4 [b3]) (by simp) _) (by intro i hi; rw [List.mem_singleton.1 hi]; exact ⟨NB.out.2.2.1, NB.out.2.2.2.2.2.2.1⟩)⟩
set_option maxRecDepth 100000 in
set_option maxHeartbeats 4000000 in
theorem dvc36 (h : DevAt w B d x v) (hB : B ≤ w.heap.size) (hl : Regs l) (_hS : U32s x.S) (hq : U32s x.Q) (hsn : x.sn.length ≤ 1000000) (now op : Int) (hop : op = 36) (k j : Nat) (hk : k < 16) (hj : j < 16) (c im : Int) :
    Calls Tryz.prog 111 #[.agg (wA l), .pointer (some ⟨d, 0, none⟩), .int .i64 now, .agg (inC op (k : Int) (j : Int) c im)] w (DvcAt w B d v (devL now x l op (k : Int) (j : Int)) (devD now x l op (k : Int) (j : Int))) := by
  obtain ⟨b1, b2, b3, e1, e2, e3⟩ : ∃ b1 b2 b3, b1 = w.heap.size ∧ b2 = w.heap.size + 1 ∧ b3 = w.heap.size + 1 + 1 := ⟨_, _, _, rfl, rfl, rfl⟩
  have HD := hid (DvAt.init w l (inC op (k : Int) (j : Int) c im))
  rw [← e3, ← e2, ← e1] at HD
  have H := hid h
  have HB := hid hB
  have HL := hid hl
  have Hsn := hid hsn
  obtain ⟨R, hR⟩ : ∃ R, l[k]? = some R := ⟨_, List.getElem?_eq_getElem (by rw [hl.len]; exact hk)⟩
  obtain ⟨Z, hZ⟩ : ∃ Z, l[j]? = some Z := ⟨_, List.getElem?_eq_getElem (by rw [hl.len]; exact hj)⟩
  have hRI : regI l (k : Int) = R := by unfold regI; rw [Int.toNat_natCast, List.getD_eq_getElem?_getD, hR]; rfl
  have hZI : regI l (j : Int) = Z := by unfold regI; rw [Int.toNat_natCast, List.getD_eq_getElem?_getD, hZ]; rfl
  have R0 : 0 ≤ R := (hl.bd R (List.mem_of_getElem? hR)).1
  have R1 : R ≤ 4294967295 := by have := (hl.bd R (List.mem_of_getElem? hR)).2; omega
  have Z0 : 0 ≤ Z := (hl.bd Z (List.mem_of_getElem? hZ)).1
  have Z1 : Z ≤ 4294967295 := by have := (hl.bd Z (List.mem_of_getElem? hZ)).2; omega
  obtain ⟨K, hK⟩ : ∃ K, x.Q.headD 0 = K := ⟨_, rfl⟩
  have K0 : 0 ≤ K ∧ K < 4294967296 := by rw [← hK]; exact head_u32 hq
  have He : Hid (devL now x l op (k : Int) (j : Int) = l.set k K ∧ devD now x l op (k : Int) (j : Int) = ⟨x.Q.tail, x.S, x.fr, x.af, x.sn⟩) := hid (by subst hop; exact ⟨by unfold devL; rw [if_pos rfl, Int.toNat_natCast, hK], by unfold devD; rw [if_neg (by decide), if_pos rfl]⟩)
  have HR := hid hR
  have HZ := hid hZ
  have HK := hid hK
  have t35 : (op == 35) = false := by rw [hop]; decide
  have t36 : (op == 36) = true := by rw [hop]; decide
  have k0 : (0 : Int) ≤ (k : Int) := by omega
  have k1 : (k : Int) < 16 := by omega
  have j0 : (0 : Int) ≤ (j : Int) := by omega
  have j1 : (j : Int) < 16 := by omega
  clear h hB hl hR hZ hRI hZI hop hsn _hS hq hK
  go_enter Tryz.func111, Tryz.ntmps111
  go_upto_region 1 with (fail)
  change Code.wp _ _ _ _ (((w.alloc (.cells (wA l) 37)).alloc (.cells (inC op (k : Int) (j : Int) c im) 112)).alloc (.cells (wA zeroL) 37))
  generalize (((w.alloc (.cells (wA l) 37)).alloc (.cells (inC op (k : Int) (j : Int) c im) 112)).alloc (.cells (wA zeroL) 37)) = w3 at HD ⊢
  rw [← e3, ← e2, ← e1]
  clear e1 e2 e3
  have i0 := HD.out.h2.cell 0 (v := .int .i64 op) rfl
  have i1 := HD.out.h2.cell 1 (v := .int .i64 (k : Int)) rfl
  have i2 := HD.out.h2.cell 2 (v := .int .i64 (j : Int)) rfl
  have hr := reg_cell HD.out.h1 HR.out
  have hz := reg_cell HD.out.h1 HZ.out
  have NB : Hid (w.heap.size ≤ b1 ∧ w.heap.size ≤ b2 ∧ w.heap.size ≤ b3 ∧ b1 ≠ b3 ∧ b2 ≠ b1 ∧ b1 < w3.heap.size ∧ b3 < w3.heap.size ∧ B ≤ w3.heap.size) := hid (by have := HD.out.lo; have := HD.out.n12; have := HD.out.n23; have := HD.out.hi; have := HB.out; omega)
  have H3 := hid (H.out.kept0 HD.out.g)
  have HDd := hid (HD.out.kept0 (grown_drew (grown_refl _ none)))
  have H3d := hid (H3.out.kept0 (grown_drew (grown_refl _ none)))
  go_upto_region 5 with (fail)
  go_region_held3 (fun W => W.cell? ⟨b2, 1, none⟩ = some (.int .i64 (k : Int)))
    (first | (exact i1) | (exact i1') | (exact keep_set i1' NB.out.2.2.2.2.1))
    (first | (go_at_call 131; refine (in_of H3d.out K HK.out).mono ?_; rintro e w4 ⟨rfl, ht⟩; have HT := hid ht; have R1' := hid (HDd.out.h1.turned H.out NB.out.1 ht); have R3' := hid (HDd.out.h3.turned H.out NB.out.2.2.1 ht); have i1' := (HDd.out.h2.turned H.out NB.out.2.1 ht).cell 1 (v := .int .i64 (k : Int)) rfl; have hr' := reg_cell R1'.out HR.out; have hf' := fun q => R1'.out.free q; clear ht))
  go_split_ands
  have HL5 := hid (lv_cell w4 b1 k (.int .u32 K))
  have R15 : Hid (RwAt (w4.setCell ⟨b1, k, none⟩ (.int .u32 K)) b1 37 (wA (l.set k K))) := hid (by have := R1'.out.set k (.int .u32 K); rwa [wA_set] at this)
  have R35 := hid (R3'.out.other b1 k (.int .u32 K) NB.out.2.2.2.1.symm)
  go_upto_region 12 with (fail)
  clear i1 i2 hr hz i1' hr' hf' i0
  try simp only [World.setCell_drew]
  generalize (w4.setCell ⟨b1, k, none⟩ (.int .u32 K)) = w5 at HL5 R15 R35 ⊢
  have E4 := hid (R35.out.row (wA (l.set k K)))
  go_wp2_with (first
    | (refine wpList_load_rw rfl 37 _ rfl rfl R15.out rfl Tryz.underlying37 (regs_rw_info _ (by rw [List.length_set]; exact HL.out.len)) ?_)
    | (refine wpList_store_rw rfl 37 _ _ rfl rfl rfl R35.out (regs_rw_info _ (by rw [List.length_set]; exact HL.out.len)) (by rw [wA_size, wA_size, List.length_set, HL.out.len]; rfl) (wA_one _) ?_)
    | fail)
  refine bodyPost_ret (results_cell_row Tryz.results111 _ _ b3 _ _ _ _ rfl E4.out.blk Tryz.underlying37 rfl (regs_rw_info _ (by rw [List.length_set]; exact HL.out.len))) rfl ?_
  rw [He.out.1, He.out.2]
  exact ⟨rfl, v, turned_own H.out (grown_drew HD.out.g) HT.out ((HL5.out.mono (R' := [b1, b3]) (by simp)).trans (lv_row (Lv.refl w5 [b1, b3]) (by simp) _)) (two_in ⟨NB.out.1, NB.out.2.2.2.2.2.1⟩ ⟨NB.out.2.2.1, NB.out.2.2.2.2.2.2.1⟩)⟩
set_option maxRecDepth 100000 in
set_option maxHeartbeats 4000000 in
theorem dvc37 (h : DevAt w B d x v) (hB : B ≤ w.heap.size) (hl : Regs l) (_hS : U32s x.S) (_hq : U32s x.Q) (hsn : x.sn.length ≤ 1000000) (now op : Int) (hop : op = 37) (k j : Nat) (hk : k < 16) (hj : j < 16) (c im : Int) :
    Calls Tryz.prog 111 #[.agg (wA l), .pointer (some ⟨d, 0, none⟩), .int .i64 now, .agg (inC op (k : Int) (j : Int) c im)] w (DvcAt w B d v (devL now x l op (k : Int) (j : Int)) (devD now x l op (k : Int) (j : Int))) := by
  obtain ⟨b1, b2, b3, e1, e2, e3⟩ : ∃ b1 b2 b3, b1 = w.heap.size ∧ b2 = w.heap.size + 1 ∧ b3 = w.heap.size + 1 + 1 := ⟨_, _, _, rfl, rfl, rfl⟩
  have HD := hid (DvAt.init w l (inC op (k : Int) (j : Int) c im))
  rw [← e3, ← e2, ← e1] at HD
  have H := hid h
  have HB := hid hB
  have HL := hid hl
  have Hsn := hid hsn
  obtain ⟨R, hR⟩ : ∃ R, l[k]? = some R := ⟨_, List.getElem?_eq_getElem (by rw [hl.len]; exact hk)⟩
  obtain ⟨Z, hZ⟩ : ∃ Z, l[j]? = some Z := ⟨_, List.getElem?_eq_getElem (by rw [hl.len]; exact hj)⟩
  have hRI : regI l (k : Int) = R := by unfold regI; rw [Int.toNat_natCast, List.getD_eq_getElem?_getD, hR]; rfl
  have hZI : regI l (j : Int) = Z := by unfold regI; rw [Int.toNat_natCast, List.getD_eq_getElem?_getD, hZ]; rfl
  have R0 : 0 ≤ R := (hl.bd R (List.mem_of_getElem? hR)).1
  have R1 : R ≤ 4294967295 := by have := (hl.bd R (List.mem_of_getElem? hR)).2; omega
  have Z0 : 0 ≤ Z := (hl.bd Z (List.mem_of_getElem? hZ)).1
  have Z1 : Z ≤ 4294967295 := by have := (hl.bd Z (List.mem_of_getElem? hZ)).2; omega
  obtain ⟨s, hs⟩ : ∃ s : Nat, R % 16 = (s : Int) := ⟨(R % 16).toNat, by omega⟩
  have He : Hid (devL now x l op (k : Int) (j : Int) = l ∧ devD now x l op (k : Int) (j : Int) = ⟨x.Q, x.S.set s Z, x.fr, x.af, x.sn ++ [(2, (s : Int), Z)]⟩) := hid (by subst hop; exact ⟨rfl, by unfold devD; rw [if_neg (by decide), if_neg (by decide), if_pos rfl, hRI, hZI, hs, Int.toNat_natCast]⟩)
  have HR := hid hR
  have HZ := hid hZ
  have HS := hid hs
  have t35 : (op == 35) = false := by rw [hop]; decide
  have t36 : (op == 36) = false := by rw [hop]; decide
  have t37 : (op == 37) = true := by rw [hop]; decide
  have k0 : (0 : Int) ≤ (k : Int) := by omega
  have k1 : (k : Int) < 16 := by omega
  have j0 : (0 : Int) ≤ (j : Int) := by omega
  have j1 : (j : Int) < 16 := by omega
  clear h hB hl hR hZ hRI hZI hop hsn _hS _hq hs
  go_enter Tryz.func111, Tryz.ntmps111
  go_upto_region 1 with (fail)
  change Code.wp _ _ _ _ (((w.alloc (.cells (wA l) 37)).alloc (.cells (inC op (k : Int) (j : Int) c im) 112)).alloc (.cells (wA zeroL) 37))
  generalize (((w.alloc (.cells (wA l) 37)).alloc (.cells (inC op (k : Int) (j : Int) c im) 112)).alloc (.cells (wA zeroL) 37)) = w3 at HD ⊢
  rw [← e3, ← e2, ← e1]
  clear e1 e2 e3
  have i0 := HD.out.h2.cell 0 (v := .int .i64 op) rfl
  have i1 := HD.out.h2.cell 1 (v := .int .i64 (k : Int)) rfl
  have i2 := HD.out.h2.cell 2 (v := .int .i64 (j : Int)) rfl
  have hr := reg_cell HD.out.h1 HR.out
  have hz := reg_cell HD.out.h1 HZ.out
  have NB : Hid (w.heap.size ≤ b1 ∧ w.heap.size ≤ b2 ∧ w.heap.size ≤ b3 ∧ b1 ≠ b3 ∧ b2 ≠ b1 ∧ b1 < w3.heap.size ∧ b3 < w3.heap.size ∧ B ≤ w3.heap.size) := hid (by have := HD.out.lo; have := HD.out.n12; have := HD.out.n23; have := HD.out.hi; have := HB.out; omega)
  have H3 := hid (H.out.kept0 HD.out.g)
  go_upto_region 7 with (fail)
  refine region_still 9 (by kernel_rfl) (by kernel_rfl) ?_; intro wd hg
  replace HD : Hid (DvAt w wd b1 b2 b3 l (inC op (k : Int) (j : Int) c im)) := hid (HD.out.kept0 hg)
  replace H3 := hid (H3.out.kept0 hg)
  replace NB : Hid (w.heap.size ≤ b1 ∧ w.heap.size ≤ b2 ∧ w.heap.size ≤ b3 ∧ b1 ≠ b3 ∧ b2 ≠ b1 ∧ b1 < wd.heap.size ∧ b3 < wd.heap.size ∧ B ≤ wd.heap.size) := hid (by have := NB.out; have := hg.size; omega)
  replace i1 := HD.out.h2.cell 1 (v := .int .i64 (k : Int)) rfl
  replace i2 := HD.out.h2.cell 2 (v := .int .i64 (j : Int)) rfl
  replace hr := reg_cell HD.out.h1 HR.out
  replace hz := reg_cell HD.out.h1 HZ.out
  clear hg i0
  simp only [List.take_succ_cons, List.take_zero, List.drop_succ_cons, List.drop_zero]
  repeat still_step
  refine wpStill_nil ?_
  go_wp2_with fail
  refine (put_any H3.out R Z R0 s HS.out Hsn.out NB.out.2.2.2.2.2.2.2).mono ?_; rintro e w4 ⟨rfl, v', ht⟩
  have HT := hid ht
  have R1' := hid (HD.out.h1.turned H.out NB.out.1 ht)
  have R3' := hid (HD.out.h3.turned H.out NB.out.2.2.1 ht)
  clear ht i1 i2 hr hz
  have E4 := hid (R3'.out.row (wA l))
  go_wp2_with (first
    | (refine wpList_load_rw rfl 37 _ rfl rfl R1'.out rfl Tryz.underlying37 (regs_rw_info _ HL.out.len) ?_)
    | (refine wpList_store_rw rfl 37 _ _ rfl rfl rfl R3'.out (regs_rw_info _ HL.out.len) (by rw [wA_size, wA_size, HL.out.len]; rfl) (wA_one _) ?_)
    | fail)
  refine bodyPost_ret (results_cell_row Tryz.results111 _ _ b3 _ _ _ _ rfl E4.out.blk Tryz.underlying37 rfl (regs_rw_info _ HL.out.len)) rfl ?_
  rw [He.out.1, He.out.2]
  exact ⟨rfl, v', turned_own H.out HD.out.g HT.out (lv_row (Lv.refl w4 [b3]) (by simp) _) (by intro i hi; rw [List.mem_singleton.1 hi]; exact ⟨NB.out.2.2.1, NB.out.2.2.2.2.2.2.1⟩)⟩
set_option maxRecDepth 100000 in
set_option maxHeartbeats 4000000 in
theorem dvc38 (h : DevAt w B d x v) (hB : B ≤ w.heap.size) (hl : Regs l) (hS : U32s x.S) (_hq : U32s x.Q) (hsn : x.sn.length ≤ 1000000) (now op : Int) (hop : op = 38) (k j : Nat) (hk : k < 16) (hj : j < 16) (c im : Int) :
    Calls Tryz.prog 111 #[.agg (wA l), .pointer (some ⟨d, 0, none⟩), .int .i64 now, .agg (inC op (k : Int) (j : Int) c im)] w (DvcAt w B d v (devL now x l op (k : Int) (j : Int)) (devD now x l op (k : Int) (j : Int))) := by
  obtain ⟨b1, b2, b3, e1, e2, e3⟩ : ∃ b1 b2 b3, b1 = w.heap.size ∧ b2 = w.heap.size + 1 ∧ b3 = w.heap.size + 1 + 1 := ⟨_, _, _, rfl, rfl, rfl⟩
  have HD := hid (DvAt.init w l (inC op (k : Int) (j : Int) c im))
  rw [← e3, ← e2, ← e1] at HD
  have H := hid h
  have HB := hid hB
  have HL := hid hl
  have Hsn := hid hsn
  obtain ⟨R, hR⟩ : ∃ R, l[k]? = some R := ⟨_, List.getElem?_eq_getElem (by rw [hl.len]; exact hk)⟩
  obtain ⟨Z, hZ⟩ : ∃ Z, l[j]? = some Z := ⟨_, List.getElem?_eq_getElem (by rw [hl.len]; exact hj)⟩
  have hRI : regI l (k : Int) = R := by unfold regI; rw [Int.toNat_natCast, List.getD_eq_getElem?_getD, hR]; rfl
  have hZI : regI l (j : Int) = Z := by unfold regI; rw [Int.toNat_natCast, List.getD_eq_getElem?_getD, hZ]; rfl
  have R0 : 0 ≤ R := (hl.bd R (List.mem_of_getElem? hR)).1
  have R1 : R ≤ 4294967295 := by have := (hl.bd R (List.mem_of_getElem? hR)).2; omega
  have Z0 : 0 ≤ Z := (hl.bd Z (List.mem_of_getElem? hZ)).1
  have Z1 : Z ≤ 4294967295 := by have := (hl.bd Z (List.mem_of_getElem? hZ)).2; omega
  obtain ⟨s, hs⟩ : ∃ s : Nat, Z % 16 = (s : Int) := ⟨(Z % 16).toNat, by omega⟩
  obtain ⟨K, hK⟩ : ∃ K, x.S[s]? = some K := ⟨_, List.getElem?_eq_getElem (by rw [h.s16]; omega)⟩
  have K0 : 0 ≤ K ∧ K < 4294967296 := hS.get hK
  have He : Hid (devL now x l op (k : Int) (j : Int) = l.set k K ∧ devD now x l op (k : Int) (j : Int) = x) := hid (by subst hop; exact ⟨by unfold devL; rw [if_neg (by decide), if_pos rfl, hZI, hs, Int.toNat_natCast, Int.toNat_natCast, List.getD_eq_getElem?_getD, hK]; rfl, by unfold devD; repeat rw [if_neg (by decide)]⟩)
  have HR := hid hR
  have HZ := hid hZ
  have HK := hid hK
  have HS := hid hs
  have t35 : (op == 35) = false := by rw [hop]; decide
  have t36 : (op == 36) = false := by rw [hop]; decide
  have t37 : (op == 37) = false := by rw [hop]; decide
  have t38 : (op == 38) = true := by rw [hop]; decide
  have k0 : (0 : Int) ≤ (k : Int) := by omega
  have k1 : (k : Int) < 16 := by omega
  have j0 : (0 : Int) ≤ (j : Int) := by omega
  have j1 : (j : Int) < 16 := by omega
  clear h hB hl hR hZ hRI hZI hop hsn hS _hq hK hs
  go_enter Tryz.func111, Tryz.ntmps111
  go_upto_region 1 with (fail)
  change Code.wp _ _ _ _ (((w.alloc (.cells (wA l) 37)).alloc (.cells (inC op (k : Int) (j : Int) c im) 112)).alloc (.cells (wA zeroL) 37))
  generalize (((w.alloc (.cells (wA l) 37)).alloc (.cells (inC op (k : Int) (j : Int) c im) 112)).alloc (.cells (wA zeroL) 37)) = w3 at HD ⊢
  rw [← e3, ← e2, ← e1]
  clear e1 e2 e3
  have i0 := HD.out.h2.cell 0 (v := .int .i64 op) rfl
  have i1 := HD.out.h2.cell 1 (v := .int .i64 (k : Int)) rfl
  have i2 := HD.out.h2.cell 2 (v := .int .i64 (j : Int)) rfl
  have hr := reg_cell HD.out.h1 HR.out
  have hz := reg_cell HD.out.h1 HZ.out
  have NB : Hid (w.heap.size ≤ b1 ∧ w.heap.size ≤ b2 ∧ w.heap.size ≤ b3 ∧ b1 ≠ b3 ∧ b2 ≠ b1 ∧ b1 < w3.heap.size ∧ b3 < w3.heap.size ∧ B ≤ w3.heap.size) := hid (by have := HD.out.lo; have := HD.out.n12; have := HD.out.n23; have := HD.out.hi; have := HB.out; omega)
  have H3 := hid (H.out.kept0 HD.out.g)
  go_upto_region 9 with (fail)
  refine region_still 9 (by kernel_rfl) (by kernel_rfl) ?_; intro w4 hg
  have HT := hid (Turned.none H3.out hg)
  have H4 := hid (H3.out.kept0 hg)
  have R1' := hid (HD.out.h1.kept0 hg)
  have R3' := hid (HD.out.h3.kept0 hg)
  replace i1 := (HD.out.h2.kept0 hg).cell 1 (v := .int .i64 (k : Int)) rfl
  replace i2 := (HD.out.h2.kept0 hg).cell 2 (v := .int .i64 (j : Int)) rfl
  replace hr := reg_cell R1'.out HR.out
  replace hz := reg_cell R1'.out HZ.out
  have hf' := fun q => R1'.out.free q
  clear hg i0
  simp only [List.take_succ_cons, List.take_zero, List.drop_succ_cons, List.drop_zero]
  repeat still_step
  still_call ((get_any H4.out Z Z0 Z1 s HS.out K HK.out).mono (fun e w' h => ⟨h.1, h.2.symm⟩))
  repeat still_step
  refine wpStill_nil ?_
  have HL5 := hid (lv_cell w4 b1 k (.int .u32 K))
  have R15 : Hid (RwAt (w4.setCell ⟨b1, k, none⟩ (.int .u32 K)) b1 37 (wA (l.set k K))) := hid (by have := R1'.out.set k (.int .u32 K); rwa [wA_set] at this)
  have R35 := hid (R3'.out.other b1 k (.int .u32 K) NB.out.2.2.2.1.symm)
  go_upto_region 12 with (fail)
  clear i1 i2 hr hz hf'
  try simp only [World.setCell_drew]
  generalize (w4.setCell ⟨b1, k, none⟩ (.int .u32 K)) = w5 at HL5 R15 R35 ⊢
  have E4 := hid (R35.out.row (wA (l.set k K)))
  go_wp2_with (first
    | (refine wpList_load_rw rfl 37 _ rfl rfl R15.out rfl Tryz.underlying37 (regs_rw_info _ (by rw [List.length_set]; exact HL.out.len)) ?_)
    | (refine wpList_store_rw rfl 37 _ _ rfl rfl rfl R35.out (regs_rw_info _ (by rw [List.length_set]; exact HL.out.len)) (by rw [wA_size, wA_size, List.length_set, HL.out.len]; rfl) (wA_one _) ?_)
    | fail)
  refine bodyPost_ret (results_cell_row Tryz.results111 _ _ b3 _ _ _ _ rfl E4.out.blk Tryz.underlying37 rfl (regs_rw_info _ (by rw [List.length_set]; exact HL.out.len))) rfl ?_
  rw [He.out.1, He.out.2]
  exact ⟨rfl, v, turned_own H.out HD.out.g HT.out ((HL5.out.mono (R' := [b1, b3]) (by simp)).trans (lv_row (Lv.refl w5 [b1, b3]) (by simp) _)) (two_in ⟨NB.out.1, NB.out.2.2.2.2.2.1⟩ ⟨NB.out.2.2.1, NB.out.2.2.2.2.2.2.1⟩)⟩
set_option maxRecDepth 100000 in
set_option maxHeartbeats 4000000 in
theorem dvc39 (h : DevAt w B d x v) (hB : B ≤ w.heap.size) (hl : Regs l) (_hS : U32s x.S) (_hq : U32s x.Q) (hsn : x.sn.length ≤ 1000000) (now op : Int) (hop : op = 39) (k j : Nat) (hk : k < 16) (hj : j < 16) (c im : Int) :
    Calls Tryz.prog 111 #[.agg (wA l), .pointer (some ⟨d, 0, none⟩), .int .i64 now, .agg (inC op (k : Int) (j : Int) c im)] w (DvcAt w B d v (devL now x l op (k : Int) (j : Int)) (devD now x l op (k : Int) (j : Int))) := by
  obtain ⟨b1, b2, b3, e1, e2, e3⟩ : ∃ b1 b2 b3, b1 = w.heap.size ∧ b2 = w.heap.size + 1 ∧ b3 = w.heap.size + 1 + 1 := ⟨_, _, _, rfl, rfl, rfl⟩
  have HD := hid (DvAt.init w l (inC op (k : Int) (j : Int) c im))
  rw [← e3, ← e2, ← e1] at HD
  have H := hid h
  have HB := hid hB
  have HL := hid hl
  have Hsn := hid hsn
  obtain ⟨R, hR⟩ : ∃ R, l[k]? = some R := ⟨_, List.getElem?_eq_getElem (by rw [hl.len]; exact hk)⟩
  obtain ⟨Z, hZ⟩ : ∃ Z, l[j]? = some Z := ⟨_, List.getElem?_eq_getElem (by rw [hl.len]; exact hj)⟩
  have hRI : regI l (k : Int) = R := by unfold regI; rw [Int.toNat_natCast, List.getD_eq_getElem?_getD, hR]; rfl
  have hZI : regI l (j : Int) = Z := by unfold regI; rw [Int.toNat_natCast, List.getD_eq_getElem?_getD, hZ]; rfl
  have R0 : 0 ≤ R := (hl.bd R (List.mem_of_getElem? hR)).1
  have R1 : R ≤ 4294967295 := by have := (hl.bd R (List.mem_of_getElem? hR)).2; omega
  have Z0 : 0 ≤ Z := (hl.bd Z (List.mem_of_getElem? hZ)).1
  have Z1 : Z ≤ 4294967295 := by have := (hl.bd Z (List.mem_of_getElem? hZ)).2; omega
  have He : Hid (devL now x l op (k : Int) (j : Int) = l ∧ devD now x l op (k : Int) (j : Int) = ⟨x.Q, x.S, now, R, x.sn⟩) := hid (by subst hop; exact ⟨rfl, by unfold devD; rw [if_neg (by decide), if_neg (by decide), if_neg (by decide), if_pos rfl, hRI]⟩)
  have HR := hid hR
  have HZ := hid hZ
  have t35 : (op == 35) = false := by rw [hop]; decide
  have t36 : (op == 36) = false := by rw [hop]; decide
  have t37 : (op == 37) = false := by rw [hop]; decide
  have t38 : (op == 38) = false := by rw [hop]; decide
  have t39 : (op == 39) = true := by rw [hop]; decide
  have k0 : (0 : Int) ≤ (k : Int) := by omega
  have k1 : (k : Int) < 16 := by omega
  have j0 : (0 : Int) ≤ (j : Int) := by omega
  have j1 : (j : Int) < 16 := by omega
  clear h hB hl hR hZ hRI hZI hop hsn _hS _hq
  go_enter Tryz.func111, Tryz.ntmps111
  go_upto_region 1 with (fail)
  change Code.wp _ _ _ _ (((w.alloc (.cells (wA l) 37)).alloc (.cells (inC op (k : Int) (j : Int) c im) 112)).alloc (.cells (wA zeroL) 37))
  generalize (((w.alloc (.cells (wA l) 37)).alloc (.cells (inC op (k : Int) (j : Int) c im) 112)).alloc (.cells (wA zeroL) 37)) = w3 at HD ⊢
  rw [← e3, ← e2, ← e1]
  clear e1 e2 e3
  have i0 := HD.out.h2.cell 0 (v := .int .i64 op) rfl
  have i1 := HD.out.h2.cell 1 (v := .int .i64 (k : Int)) rfl
  have i2 := HD.out.h2.cell 2 (v := .int .i64 (j : Int)) rfl
  have hr := reg_cell HD.out.h1 HR.out
  have hz := reg_cell HD.out.h1 HZ.out
  have NB : Hid (w.heap.size ≤ b1 ∧ w.heap.size ≤ b2 ∧ w.heap.size ≤ b3 ∧ b1 ≠ b3 ∧ b2 ≠ b1 ∧ b1 < w3.heap.size ∧ b3 < w3.heap.size ∧ B ≤ w3.heap.size) := hid (by have := HD.out.lo; have := HD.out.n12; have := HD.out.n23; have := HD.out.hi; have := HB.out; omega)
  have H3 := hid (H.out.kept0 HD.out.g)
  go_wp2_with fail
  refine (set_any H3.out now R).mono ?_; rintro e w4 ⟨rfl, ht⟩
  have HT := hid ht
  have R1' := hid (HD.out.h1.turned H.out NB.out.1 ht)
  have R3' := hid (HD.out.h3.turned H.out NB.out.2.2.1 ht)
  clear ht i1 i2 hr hz i0
  have E4 := hid (R3'.out.row (wA l))
  go_wp2_with (first
    | (refine wpList_load_rw rfl 37 _ rfl rfl R1'.out rfl Tryz.underlying37 (regs_rw_info _ HL.out.len) ?_)
    | (refine wpList_store_rw rfl 37 _ _ rfl rfl rfl R3'.out (regs_rw_info _ HL.out.len) (by rw [wA_size, wA_size, HL.out.len]; rfl) (wA_one _) ?_)
    | fail)
  refine bodyPost_ret (results_cell_row Tryz.results111 _ _ b3 _ _ _ _ rfl E4.out.blk Tryz.underlying37 rfl (regs_rw_info _ HL.out.len)) rfl ?_
  rw [He.out.1, He.out.2]
  exact ⟨rfl, v, turned_own H.out HD.out.g HT.out (lv_row (Lv.refl w4 [b3]) (by simp) _) (by intro i hi; rw [List.mem_singleton.1 hi]; exact ⟨NB.out.2.2.1, NB.out.2.2.2.2.2.2.1⟩)⟩
end
end Go.Proofs.YtkkbhifplbleiaaGreatDoor
