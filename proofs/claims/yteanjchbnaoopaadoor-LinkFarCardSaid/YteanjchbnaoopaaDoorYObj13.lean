/- What is wrong with an object (package obj): a contract. (Made by gobj13.py.) -/
import Derived.Test.YteanjchbnaoopaaDoorYObj9
import Derived.Test.YteanjchbnaoopaaDoorYRewP
import Derived.Test.YteanjchbnaoopaaDoorYIsaP
import Derived.Deep.RegionHeld3
import Derived.Test.YteanjchbnaoopaaDoorYObj2
import Derived.BigQuiet
import Derived.Deep.QuietTactic
import Derived.Laws.StructEq
import Derived.Laws.MakeOwn
import Derived.Lib.SliceRun
namespace Go.Proofs.YteanjchbnaoopaaDoor
open Go.RowKit
theorem run_err_neq_nil (a : Addr) (w : World) : (binOp .neq 31 (errV a) .nilIface).run Tryd.prog w = .ok (.bool true) w := by
  have h : ∀ d : Nat, (Op.equalIn (d + 1) 31 (errV a) .nilIface).run Tryd.prog w = .ok false w := fun d => by simp [errV, Op.equalIn, run_underlying Tryd.underlying31]
  simp only [binOp]
  simp [Op.equal, Op.maxDepth, h 9999]
theorem info_72 : (Tryd.prog.info? 144).map (·.size) = some 2 := by kernel_rfl
abbrev atV (B : Nat) : Value := .iface 97 (.pointer (some ⟨B, 0, none⟩))
/-- a value that says this -/
def FltAt (A : Nat → Addr) (w : World) (v : Value) : Fl → Prop
  | none => v = .nilIface
  | some (c, none) => v = errV (A c)
  | some (c, some p) => ∃ B, v = atV B ∧ RwAt w B 99 #[.int .i64 p, errV (A c)]
theorem FltAt.kept0 {A : Nat → Addr} {w w1 : World} {v : Value} {y : Fl} (h : FltAt A w v y) (hg : w.grownBy w1 none) : FltAt A w1 v y := by
  match y, h with
  | none, h => exact h
  | some (c, none), h => exact h
  | some (c, some p), ⟨B, hv, hb⟩ => exact ⟨B, hv, hb.kept0 hg⟩
def SaysAt (w : World) (A : Nat → Addr) (y : Fl) (e : Ending) (w' : World) : Prop := ∃ v, e = .returned v ∧ FltAt A w' v y ∧ w.grownBy w' none
def fN (x : PO) (k : Nat) : Nat → Option Nat := if k = 0 then wordF x else if k = 1 then symF x else if k = 2 then dataF x else if k = 3 then codeF x else unrF x
def lN (x : PO) (k : Nat) : Nat := if k = 0 then x.C.length else if k = 1 then x.S.length else if k = 2 then x.R.length else if k = 3 then x.Q.length else x.C.length
/-- from the k-th of the five on -/
def fromF (x : PO) : Nat → Fl
  | 0 => none
  | n + 1 => scanF (fN x (4 - n)) (lN x (4 - n)) (fromF x n)
theorem from_none {x : PO} (h : ∀ k, k < 5 → ∀ j, j < lN x k → fN x k j = none) : fromF x 5 = none := by
  have key : ∀ n, n ≤ 5 → fromF x n = none := by
    intro n
    induction n with
    | zero => intro _; rfl
    | succ n ih => intro hn; rw [fromF, scanF_none (h (4 - n) (by omega)), ih (by omega)]
  exact key 5 (Nat.le_refl _)
theorem from_some {x : PO} {k t c : Nat} (hk : k < 5) (h : ∀ k', k' < k → ∀ j, j < lN x k' → fN x k' j = none) (ht : t < lN x k) (hj : ∀ j, j < t → fN x k j = none) (hc : fN x k t = some c) : fromF x 5 = some (c, some t) := by
  have key : ∀ n, n ≤ 5 → 5 - n ≤ k → fromF x n = some (c, some t) := by
    intro n
    induction n with
    | zero => intro _ _; omega
    | succ n ih =>
      intro hn hle
      by_cases e : 4 - n = k
      · rw [fromF, e, scanF_some hc hj ht]
      · rw [fromF, scanF_none (h (4 - n) (by omega)), ih (by omega) (by omega)]
  exact key 5 (Nat.le_refl _) (by omega)
theorem valid_from {x : PO} (h : manyB x = false) (hl : x.M.length = x.C.length) : validP x = fromF x 5 := by
  unfold validP
  rw [if_neg (by simp [h]), if_neg (by simp [hl])]
  rfl
theorem rising_of {x : PO} (h : ∀ k, k < x.Q.length → codeF x k = none) : Rising x.Q := by
  have step : ∀ k, k + 1 < x.Q.length → (rlN x.Q k).a < (rlN x.Q (k + 1)).a := by
    intro k hk
    have := h (k + 1) hk
    unfold codeF at this
    have hi : inB x x.Q (k + 1) x.C.length = true := by
      cases hb : inB x x.Q (k + 1) x.C.length
      · rw [if_pos (.inl hb)] at this; cases this
      · rfl
    unfold inB at hi
    have hi := of_decide_eq_true hi
    have h1 := hi.1
    simp only [Nat.add_sub_cancel] at h1
    omega
  intro i j hij
  induction j with
  | zero => omega
  | succ j ih =>
    intro hj
    by_cases e : i = j
    · subst e; exact step i hj
    · exact Int.lt_trans (ih (by omega) (by omega)) (step j hj)
section
variable {w : World} {V : OV} {x : PO} {A : Nat → Addr}
theorem valid_many (h : OAt w V x) (he : ErrC w A) (hm : manyB x = true) : Calls Tryd.prog 52 #[V.agg] w (SaysAt w A (validP x)) := by
  obtain ⟨d, c, m, r, q, sv⟩ := V
  have HX := hid (Bx.new h he 52 #[d, c, m, r, q, sv])
  have hm' : decide (2048 < (x.D.length : Int) ∨ 2048 < (x.C.length : Int) ∨ 1024 < (x.R.length : Int) ∨ 1024 < (x.Q.length : Int) ∨ 256 < (x.S.length : Int)) = true := by
    rw [decide_eq_true_eq]; unfold manyB at hm; have := of_decide_eq_true hm; omega
  have Hm := hid hm'
  have HV : Hid (validP x = some (3, none)) := hid (by unfold validP; rw [if_pos hm])
  rw [HV.out]
  clear h he hm hm'
  go_enter Tryd.func52, Tryd.ntmps52
  go_upto_region 1 with (fail)
  generalize w.alloc (.cells #[d, c, m, r, q, sv] 52) = w1 at HX ⊢
  go_wp2_with (first
    | (refine wpList_load_rw rfl 52 _ rfl rfl HX.out.box rfl Tryd.underlying52 info_object ?_)
    | fail)
  refine (sizes_any HX.out.o).mono ?_
  rintro e w2 ⟨rfl, hg⟩
  have HX2 := hid (HX.out.kept0 hg)
  clear hg HX
  go_wp2_with fail
  refine (many_any _ _ _ _ _ _ true Hm.out).mono ?_
  rintro e w3 ⟨rfl, hg⟩
  have HX3 := hid (HX2.out.kept0 hg)
  clear hg HX2
  have e3 := HX3.out.e.c3
  unfold errV at e3
  go_wp2
  go_ret
  exact ⟨_, rfl, rfl, HX3.out.g⟩
theorem valid_map (h : OAt w V x) (he : ErrC w A) (hm : manyB x = false) (hl : x.M.length ≠ x.C.length) : Calls Tryd.prog 52 #[V.agg] w (SaysAt w A (validP x)) := by
  obtain ⟨d, c, m, r, q, sv⟩ := V
  obtain ⟨pc, cc, hc⟩ := h.c.len'
  obtain rfl : c = _ := hc
  obtain ⟨pm, cm, hmm⟩ := h.m.len'
  obtain rfl : m = _ := hmm
  have HX := hid (Bx.new h he 52 #[d, .slice pc x.C.length cc, .slice pm x.M.length cm, r, q, sv])
  have hm' : decide (2048 < (x.D.length : Int) ∨ 2048 < (x.C.length : Int) ∨ 1024 < (x.R.length : Int) ∨ 1024 < (x.Q.length : Int) ∨ 256 < (x.S.length : Int)) = false := by
    rw [decide_eq_false_iff_not]; unfold manyB at hm; have := of_decide_eq_false hm; omega
  have Hm := hid hm'
  have HV : Hid (validP x = some (8, none)) := hid (by unfold validP; rw [if_neg (by simp [hm]), if_pos hl])
  have hne : ((x.M.length : Int) != (x.C.length : Int)) = true := by simp; omega
  rw [HV.out]
  clear h he hm hm' hl
  go_enter Tryd.func52, Tryd.ntmps52
  go_upto_region 1 with (fail)
  generalize w.alloc (.cells #[d, .slice pc x.C.length cc, .slice pm x.M.length cm, r, q, sv] 52) = w1 at HX ⊢
  go_wp2_with (first
    | (refine wpList_load_rw rfl 52 _ rfl rfl HX.out.box rfl Tryd.underlying52 info_object ?_)
    | fail)
  refine (sizes_any HX.out.o).mono ?_
  rintro e w2 ⟨rfl, hg⟩
  have HX2 := hid (HX.out.kept0 hg)
  clear hg HX
  go_wp2_with fail
  refine (many_any _ _ _ _ _ _ false Hm.out).mono ?_
  rintro e w3 ⟨rfl, hg⟩
  have HX3 := hid (HX2.out.kept0 hg)
  clear hg HX2
  have e8 := HX3.out.e.c8
  unfold errV at e8
  have f1 := HX3.out.box.cell 1 rfl
  have f2 := HX3.out.box.cell 2 rfl
  go_wp2
  go_ret
  exact ⟨_, rfl, rfl, HX3.out.g⟩
/-- what stands at the head of the rounds -/
structure VR (w0 : World) (G : Nat) (n0 n1 n2 n3 : Nat) (OB : Value) (V : OV) (x : PO) (A : Nat → Addr) (w : World) : Prop where
  row : RwAt w G 144 #[.int .i64 n0, .func (.func 64) #[OB] #[], .int .i64 n1, .func (.func 65) #[OB] #[], .int .i64 n2, .func (.func 66) #[OB] #[], .int .i64 n3, .func (.func 67) #[OB] #[], .int .i64 n0, .func (.func 68) #[OB] #[]]
  o : OAt w V x
  e : ErrC w A
  g : w0.grownBy w none
theorem VR.kept0 {w0 w w1 : World} {G n0 n1 n2 n3 : Nat} {OB : Value} (h : VR w0 G n0 n1 n2 n3 OB V x A w) (hg : w.grownBy w1 none) : VR w0 G n0 n1 n2 n3 OB V x A w1 := ⟨h.row.kept0 hg, h.o.kept0 hg, h.e.kept0 hg, grown_trans h.g hg⟩
set_option maxRecDepth 100000 in
set_option maxHeartbeats 4000000 in
theorem valid_scan (h : OAt w V x) (he : ErrC w A) (hf : OFit x) (hm : manyB x = false) (hl : x.M.length = x.C.length) : Calls Tryd.prog 52 #[V.agg] w (SaysAt w A (validP x)) := by
  rw [valid_from hm hl]
  obtain ⟨d, c, m, r, q, sv⟩ := V
  have hO := hid h
  obtain ⟨pd, cd, hd⟩ := h.d.len'
  obtain rfl : d = _ := hd
  obtain ⟨pc, cc, hc⟩ := h.c.len'
  obtain rfl : c = _ := hc
  obtain ⟨pm, cm, hmm⟩ := h.m.len'
  obtain rfl : m = _ := hmm
  obtain ⟨p2, c2, h2⟩ := h.r.len
  obtain ⟨p3, c3, h3⟩ := h.q.len
  obtain ⟨p4, c4, h4⟩ := h.s.len
  obtain rfl : r = _ := h2
  obtain rfl : q = _ := h3
  obtain rfl : sv = _ := h4
  have HX := hid (Bx.new h he 52 #[.slice pd x.D.length cd, .slice pc x.C.length cc, .slice pm x.M.length cm, .slice p2 x.R.length c2, .slice p3 x.Q.length c3, .slice p4 x.S.length c4])
  have hm' : decide (2048 < (x.D.length : Int) ∨ 2048 < (x.C.length : Int) ∨ 1024 < (x.R.length : Int) ∨ 1024 < (x.Q.length : Int) ∨ 256 < (x.S.length : Int)) = false := by
    rw [decide_eq_false_iff_not]; unfold manyB at hm; have := of_decide_eq_false hm; omega
  have Hm := hid hm'
  have hne : ((x.M.length : Int) != (x.C.length : Int)) = false := by simp; omega
  have hMl := of_decide_eq_false hm
  have HP := hid (And.intro hf (And.intro hl (show x.Q.length ≤ 1024 by omega)))
  clear h he hm hm' hl hO hf hMl
  go_enter Tryd.func52, Tryd.ntmps52
  go_upto_region 1 with (fail)
  generalize w.alloc (.cells #[.slice pd x.D.length cd, .slice pc x.C.length cc, .slice pm x.M.length cm, .slice p2 x.R.length c2, .slice p3 x.Q.length c3, .slice p4 x.S.length c4] 52) = w1 at HX ⊢
  go_wp2_with (first
    | (refine wpList_load_rw rfl 52 _ rfl rfl HX.out.box rfl Tryd.underlying52 info_object ?_)
    | fail)
  refine (sizes_any HX.out.o).mono ?_
  rintro e w2 ⟨rfl, hg⟩
  have HX2 := hid (HX.out.kept0 hg)
  clear hg HX
  go_wp2_with fail
  refine (many_any _ _ _ _ _ _ false Hm.out).mono ?_
  rintro e w3 ⟨rfl, hg⟩
  have HX3 := hid (HX2.out.kept0 hg)
  clear hg HX2
  have f1 := HX3.out.box.cell 1 rfl
  have f2 := HX3.out.box.cell 2 rfl
  go_upto_region 5 with (fail)
  go_upto_region 6 with (first
    | (refine wpList_load_rw rfl 52 _ rfl rfl HX3.out.box rfl Tryd.underlying52 info_object ?_)
    | (refine wpList_store_rw rfl 142 _ _ rfl rfl rfl (RwAt.new _ _ _) info_object' rfl (by simp [Value.oneCell']) ?_; rw [World.setRow_alloc_new])
    | fail)
  obtain ⟨B5, hB5⟩ : ∃ B, w3.heap.size = B := ⟨_, rfl⟩
  have HX5 := hid (HX3.out.alloc (.cells #[.slice pd x.D.length cd, .slice pc x.C.length cc, .slice pm x.M.length cm, .slice p2 x.R.length c2, .slice p3 x.Q.length c3, .slice p4 x.S.length c4] 142))
  have HZ := hid (RwAt.new w3 142 #[.slice pd x.D.length cd, .slice pc x.C.length cc, .slice pm x.M.length cm, .slice p2 x.R.length c2, .slice p3 x.Q.length c3, .slice p4 x.S.length c4])
  rw [hB5] at HZ ⊢
  clear HX3 f1 f2 hB5
  generalize w3.alloc (.cells #[.slice pd x.D.length cd, .slice pc x.C.length cc, .slice pm x.M.length cm, .slice p2 x.R.length c2, .slice p3 x.Q.length c3, .slice p4 x.S.length c4] 142) = w4 at HX5 HZ ⊢
  have f1 := HX5.out.box.cell 1 rfl
  have f3 := HX5.out.box.cell 3 rfl
  have f4 := HX5.out.box.cell 4 rfl
  have f5 := HX5.out.box.cell 5 rfl
  go_wp2_with (first
    | (refine wpList_load_rw rfl 142 _ rfl rfl HZ.out rfl Tryd.underlying142 info_object' ?_)
    | fail)
  obtain ⟨OB, HOB⟩ : ∃ OB, Hid (OB = Value.agg #[.slice pd x.D.length cd, .slice pc x.C.length cc, .slice pm x.M.length cm, .slice p2 x.R.length c2, .slice p3 x.Q.length c3, .slice p4 x.S.length c4]) := ⟨_, hid rfl⟩
  rw [← HOB.out]
  obtain ⟨N0, HN0⟩ : ∃ N, Hid (x.C.length = N) := ⟨_, hid rfl⟩
  obtain ⟨N1, HN1⟩ : ∃ N, Hid (x.S.length = N) := ⟨_, hid rfl⟩
  obtain ⟨N2, HN2⟩ : ∃ N, Hid (x.R.length = N) := ⟨_, hid rfl⟩
  obtain ⟨N3, HN3⟩ : ∃ N, Hid (x.Q.length = N) := ⟨_, hid rfl⟩
  have HV : Hid (VR w w4.heap.size x.C.length x.S.length x.R.length x.Q.length OB ⟨.slice pd x.D.length cd, .slice pc x.C.length cc, .slice pm x.M.length cm, .slice p2 x.R.length c2, .slice p3 x.Q.length c3, .slice p4 x.S.length c4⟩ x A (w4.alloc (.cells #[.int .i64 x.C.length, .func (.func 64) #[OB] #[], .int .i64 x.S.length, .func (.func 65) #[OB] #[], .int .i64 x.R.length, .func (.func 66) #[OB] #[], .int .i64 x.Q.length, .func (.func 67) #[OB] #[], .int .i64 x.C.length, .func (.func 68) #[OB] #[]] 144))) :=
    hid ⟨RwAt.new w4 _ _, (HX5.out.alloc _).o, (HX5.out.alloc _).e, (HX5.out.alloc _).g⟩
  clear HX5 HZ f1 f3 f4 f5 Hm hne
  generalize w4.alloc (.cells #[.int .i64 x.C.length, .func (.func 64) #[OB] #[], .int .i64 x.S.length, .func (.func 65) #[OB] #[], .int .i64 x.R.length, .func (.func 66) #[OB] #[], .int .i64 x.Q.length, .func (.func 67) #[OB] #[], .int .i64 x.C.length, .func (.func 68) #[OB] #[]] 144) = w5 at HV ⊢
  obtain ⟨G, hG⟩ : ∃ G, w4.heap.size = G := ⟨_, rfl⟩
  rw [hG] at HV ⊢
  clear hG
  have kC : (x.C.length : Int) ≤ 9223372036854775807 := by have := HP.out.1.l.2.1; unfold maxLen at this; omega
  have kS : (x.S.length : Int) ≤ 9223372036854775807 := by have := HP.out.1.l.2.2.2.2.2; unfold maxLen at this; omega
  have kR : (x.R.length : Int) ≤ 9223372036854775807 := by have := HP.out.1.l.2.2.2.1; unfold maxLen at this; omega
  have kQ : (x.Q.length : Int) ≤ 9223372036854775807 := by have := HP.out.1.l.2.2.2.2.1; unfold maxLen at this; omega
  go_loopw [53] (fun i wr => ∃ k : Nat, k ≤ 5 ∧ i = .int .i64 k ∧ Hid (VR w G x.C.length x.S.length x.R.length x.Q.length OB ⟨.slice pd x.D.length cd, .slice pc x.C.length cc, .slice pm x.M.length cm, .slice p2 x.R.length c2, .slice p3 x.Q.length c3, .slice p4 x.S.length c4⟩ x A wr ∧ ∀ k', k' < k → ∀ j, j < lN x k' → fN x k' j = none)) (fun i _ => 5 - (intOf i).toNat)
  case atStart => exact ⟨0, Nat.zero_le _, rfl, hid ⟨HV.out, fun k' h => by omega⟩⟩
  case round =>
    obtain ⟨k, hk, rfl, HR⟩ := hrel
    rcases (show k = 0 ∨ k = 1 ∨ k = 2 ∨ k = 3 ∨ k = 4 ∨ k = 5 by omega) with rfl | rfl | rfl | rfl | rfl | rfl
    · have g0 := HR.out.1.row.cell 0 rfl
      have g1 := HR.out.1.row.cell 1 rfl
      have HA : Hid (VR w G x.C.length x.S.length x.R.length x.Q.length OB ⟨.slice pd x.D.length cd, .slice pc x.C.length cc, .slice pm x.M.length cm, .slice p2 x.R.length c2, .slice p3 x.Q.length c3, .slice p4 x.S.length c4⟩ x A (wr.alloc (.cells #[.int .i64 x.C.length, .func (.func 64) #[OB] #[]] 144)) ∧ RwAt (wr.alloc (.cells #[.int .i64 x.C.length, .func (.func 64) #[OB] #[]] 144)) wr.heap.size 144 #[.int .i64 x.C.length, .func (.func 64) #[OB] #[]]) := hid ⟨HR.out.1.kept0 (World.grownBy_alloc _ _ _), RwAt.new _ _ _⟩
      go_upto_region 9 with (first | (refine wpList_store_rw rfl 144 _ _ rfl rfl rfl (RwAt.new _ _ _) info_72 rfl (by simp [Value.oneCell']) ?_; rw [World.setRow_alloc_new]) | fail)
      clear g0 g1
      generalize wr.alloc (.cells #[.int .i64 x.C.length, .func (.func 64) #[OB] #[]] 144) = w6 at HA ⊢
      obtain ⟨B6, hB6⟩ : ∃ B, wr.heap.size = B := ⟨_, rfl⟩
      rw [hB6] at HA ⊢
      have q0 := HA.out.2.cell 0 rfl
      go_wp2
      go_loopw [59] (fun i w7 => ∃ t : Nat, t ≤ x.C.length ∧ i = .int .i64 t ∧ Hid (VR w G x.C.length x.S.length x.R.length x.Q.length OB ⟨.slice pd x.D.length cd, .slice pc x.C.length cc, .slice pm x.M.length cm, .slice p2 x.R.length c2, .slice p3 x.Q.length c3, .slice p4 x.S.length c4⟩ x A w7 ∧ RwAt w7 B6 144 #[.int .i64 x.C.length, .func (.func 64) #[OB] #[]] ∧ ∀ j, j < t → fN x 0 j = none)) (fun i _ => x.C.length - (intOf i).toNat)
      case atStart => exact ⟨0, Nat.zero_le _, rfl, hid ⟨HA.out.1, HA.out.2, fun j h => by omega⟩⟩
      case round =>
        obtain ⟨t, ht, rfl, HI⟩ := hrel
        have t0 : (0 : Int) ≤ (t : Int) := by omega
        by_cases hlt : t < x.C.length
        · have tl : (t : Int) < (x.C.length : Int) := by omega
          have r1 := HI.out.2.1.cell 1 rfl
          have Hc := hid (word_any9 HI.out.1.o HI.out.1.e HP.out.1 HP.out.2.1 t hlt)
          obtain ⟨y, hy⟩ : ∃ y, wordF x t = y := ⟨_, rfl⟩
          rw [hy] at Hc
          have Hy : Hid (fN x 0 t = y) := hid hy
          have HL := hid hlt
          clear hy hlt q0
          unfold OV.agg at Hc
          simp only at Hc
          rw [← HOB.out] at Hc
          cases y with
          | none =>
            go_wp2_with fail
            refine Hc.out.mono ?_
            rintro e w8 ⟨rfl, hg⟩
            have HI2 : Hid (_ ∧ _ ∧ _) := hid ⟨HI.out.1.kept0 hg, HI.out.2.1.kept0 hg, HI.out.2.2⟩
            clear hg Hc r1
            unfold evV
            go_wp2
            go_roundw
            case rel =>
              refine ⟨t + 1, by omega, by go_num, hid ⟨HI2.out.1, HI2.out.2.1, fun j hj => ?_⟩⟩
              by_cases e : j = t
              · rw [e]; exact Hy.out
              · exact HI2.out.2.2 j (by omega)
            case measure => simp [intOf]; omega
          | some c =>
            go_wp2_with fail
            refine Hc.out.mono ?_
            rintro e w8 ⟨rfl, hg⟩
            have HG8 := hid (grown_trans HI.out.1.g hg)
            clear hg Hc r1
            have hneq := fun W => run_err_neq_nil (A c) W
            unfold evV
            unfold errV at hneq ⊢
            go_wp2
            go_ret
            rw [from_some (show 0 < 5 by omega) HR.out.2 HL.out HI.out.2.2 Hy.out]
            exact ⟨_, rfl, ⟨w8.heap.size, rfl, RwAt.new w8 _ _⟩, grown_alloc HG8.out _⟩
        · obtain rfl : t = x.C.length := by omega
          clear hlt q0
          go_wp2
          go_roundw
          case rel =>
            refine ⟨1, by omega, by go_num, hid ⟨HI.out.1, fun k' hk' j hj => ?_⟩⟩
            by_cases e : k' = 0
            · subst e; exact HI.out.2.2 j hj
            · exact HR.out.2 k' (by omega) j hj
          case measure => simp [intOf]
    · have g0 := HR.out.1.row.cell 2 rfl
      have g1 := HR.out.1.row.cell 3 rfl
      have HA : Hid (VR w G x.C.length x.S.length x.R.length x.Q.length OB ⟨.slice pd x.D.length cd, .slice pc x.C.length cc, .slice pm x.M.length cm, .slice p2 x.R.length c2, .slice p3 x.Q.length c3, .slice p4 x.S.length c4⟩ x A (wr.alloc (.cells #[.int .i64 x.S.length, .func (.func 65) #[OB] #[]] 144)) ∧ RwAt (wr.alloc (.cells #[.int .i64 x.S.length, .func (.func 65) #[OB] #[]] 144)) wr.heap.size 144 #[.int .i64 x.S.length, .func (.func 65) #[OB] #[]]) := hid ⟨HR.out.1.kept0 (World.grownBy_alloc _ _ _), RwAt.new _ _ _⟩
      go_upto_region 9 with (first | (refine wpList_store_rw rfl 144 _ _ rfl rfl rfl (RwAt.new _ _ _) info_72 rfl (by simp [Value.oneCell']) ?_; rw [World.setRow_alloc_new]) | fail)
      clear g0 g1
      generalize wr.alloc (.cells #[.int .i64 x.S.length, .func (.func 65) #[OB] #[]] 144) = w6 at HA ⊢
      obtain ⟨B6, hB6⟩ : ∃ B, wr.heap.size = B := ⟨_, rfl⟩
      rw [hB6] at HA ⊢
      have q0 := HA.out.2.cell 0 rfl
      go_wp2
      go_loopw [59] (fun i w7 => ∃ t : Nat, t ≤ x.S.length ∧ i = .int .i64 t ∧ Hid (VR w G x.C.length x.S.length x.R.length x.Q.length OB ⟨.slice pd x.D.length cd, .slice pc x.C.length cc, .slice pm x.M.length cm, .slice p2 x.R.length c2, .slice p3 x.Q.length c3, .slice p4 x.S.length c4⟩ x A w7 ∧ RwAt w7 B6 144 #[.int .i64 x.S.length, .func (.func 65) #[OB] #[]] ∧ ∀ j, j < t → fN x 1 j = none)) (fun i _ => x.S.length - (intOf i).toNat)
      case atStart => exact ⟨0, Nat.zero_le _, rfl, hid ⟨HA.out.1, HA.out.2, fun j h => by omega⟩⟩
      case round =>
        obtain ⟨t, ht, rfl, HI⟩ := hrel
        have t0 : (0 : Int) ≤ (t : Int) := by omega
        by_cases hlt : t < x.S.length
        · have tl : (t : Int) < (x.S.length : Int) := by omega
          have r1 := HI.out.2.1.cell 1 rfl
          have Hc := hid (symbol_any HI.out.1.o HI.out.1.e HP.out.1 HP.out.2.1 t hlt _ rfl)
          obtain ⟨y, hy⟩ : ∃ y, symF x t = y := ⟨_, rfl⟩
          rw [hy] at Hc
          have Hy : Hid (fN x 1 t = y) := hid hy
          have HL := hid hlt
          clear hy hlt q0
          unfold OV.agg at Hc
          simp only at Hc
          rw [← HOB.out] at Hc
          cases y with
          | none =>
            go_wp2_with fail
            refine Hc.out.mono ?_
            rintro e w8 ⟨rfl, hg⟩
            have HI2 : Hid (_ ∧ _ ∧ _) := hid ⟨HI.out.1.kept0 hg, HI.out.2.1.kept0 hg, HI.out.2.2⟩
            clear hg Hc r1
            unfold evV
            go_wp2
            go_roundw
            case rel =>
              refine ⟨t + 1, by omega, by go_num, hid ⟨HI2.out.1, HI2.out.2.1, fun j hj => ?_⟩⟩
              by_cases e : j = t
              · rw [e]; exact Hy.out
              · exact HI2.out.2.2 j (by omega)
            case measure => simp [intOf]; omega
          | some c =>
            go_wp2_with fail
            refine Hc.out.mono ?_
            rintro e w8 ⟨rfl, hg⟩
            have HG8 := hid (grown_trans HI.out.1.g hg)
            clear hg Hc r1
            have hneq := fun W => run_err_neq_nil (A c) W
            unfold evV
            unfold errV at hneq ⊢
            go_wp2
            go_ret
            rw [from_some (show 1 < 5 by omega) HR.out.2 HL.out HI.out.2.2 Hy.out]
            exact ⟨_, rfl, ⟨w8.heap.size, rfl, RwAt.new w8 _ _⟩, grown_alloc HG8.out _⟩
        · obtain rfl : t = x.S.length := by omega
          clear hlt q0
          go_wp2
          go_roundw
          case rel =>
            refine ⟨2, by omega, by go_num, hid ⟨HI.out.1, fun k' hk' j hj => ?_⟩⟩
            by_cases e : k' = 1
            · subst e; exact HI.out.2.2 j hj
            · exact HR.out.2 k' (by omega) j hj
          case measure => simp [intOf]
    · have g0 := HR.out.1.row.cell 4 rfl
      have g1 := HR.out.1.row.cell 5 rfl
      have HA : Hid (VR w G x.C.length x.S.length x.R.length x.Q.length OB ⟨.slice pd x.D.length cd, .slice pc x.C.length cc, .slice pm x.M.length cm, .slice p2 x.R.length c2, .slice p3 x.Q.length c3, .slice p4 x.S.length c4⟩ x A (wr.alloc (.cells #[.int .i64 x.R.length, .func (.func 66) #[OB] #[]] 144)) ∧ RwAt (wr.alloc (.cells #[.int .i64 x.R.length, .func (.func 66) #[OB] #[]] 144)) wr.heap.size 144 #[.int .i64 x.R.length, .func (.func 66) #[OB] #[]]) := hid ⟨HR.out.1.kept0 (World.grownBy_alloc _ _ _), RwAt.new _ _ _⟩
      go_upto_region 9 with (first | (refine wpList_store_rw rfl 144 _ _ rfl rfl rfl (RwAt.new _ _ _) info_72 rfl (by simp [Value.oneCell']) ?_; rw [World.setRow_alloc_new]) | fail)
      clear g0 g1
      generalize wr.alloc (.cells #[.int .i64 x.R.length, .func (.func 66) #[OB] #[]] 144) = w6 at HA ⊢
      obtain ⟨B6, hB6⟩ : ∃ B, wr.heap.size = B := ⟨_, rfl⟩
      rw [hB6] at HA ⊢
      have q0 := HA.out.2.cell 0 rfl
      go_wp2
      go_loopw [59] (fun i w7 => ∃ t : Nat, t ≤ x.R.length ∧ i = .int .i64 t ∧ Hid (VR w G x.C.length x.S.length x.R.length x.Q.length OB ⟨.slice pd x.D.length cd, .slice pc x.C.length cc, .slice pm x.M.length cm, .slice p2 x.R.length c2, .slice p3 x.Q.length c3, .slice p4 x.S.length c4⟩ x A w7 ∧ RwAt w7 B6 144 #[.int .i64 x.R.length, .func (.func 66) #[OB] #[]] ∧ ∀ j, j < t → fN x 2 j = none)) (fun i _ => x.R.length - (intOf i).toNat)
      case atStart => exact ⟨0, Nat.zero_le _, rfl, hid ⟨HA.out.1, HA.out.2, fun j h => by omega⟩⟩
      case round =>
        obtain ⟨t, ht, rfl, HI⟩ := hrel
        have t0 : (0 : Int) ≤ (t : Int) := by omega
        by_cases hlt : t < x.R.length
        · have tl : (t : Int) < (x.R.length : Int) := by omega
          have r1 := HI.out.2.1.cell 1 rfl
          have Hc := hid (dataReloc_any HI.out.1.o HI.out.1.e HP.out.1 HP.out.2.1 t hlt _ rfl)
          obtain ⟨y, hy⟩ : ∃ y, dataF x t = y := ⟨_, rfl⟩
          rw [hy] at Hc
          have Hy : Hid (fN x 2 t = y) := hid hy
          have HL := hid hlt
          clear hy hlt q0
          unfold OV.agg at Hc
          simp only at Hc
          rw [← HOB.out] at Hc
          cases y with
          | none =>
            go_wp2_with fail
            refine Hc.out.mono ?_
            rintro e w8 ⟨rfl, hg⟩
            have HI2 : Hid (_ ∧ _ ∧ _) := hid ⟨HI.out.1.kept0 hg, HI.out.2.1.kept0 hg, HI.out.2.2⟩
            clear hg Hc r1
            unfold evV
            go_wp2
            go_roundw
            case rel =>
              refine ⟨t + 1, by omega, by go_num, hid ⟨HI2.out.1, HI2.out.2.1, fun j hj => ?_⟩⟩
              by_cases e : j = t
              · rw [e]; exact Hy.out
              · exact HI2.out.2.2 j (by omega)
            case measure => simp [intOf]; omega
          | some c =>
            go_wp2_with fail
            refine Hc.out.mono ?_
            rintro e w8 ⟨rfl, hg⟩
            have HG8 := hid (grown_trans HI.out.1.g hg)
            clear hg Hc r1
            have hneq := fun W => run_err_neq_nil (A c) W
            unfold evV
            unfold errV at hneq ⊢
            go_wp2
            go_ret
            rw [from_some (show 2 < 5 by omega) HR.out.2 HL.out HI.out.2.2 Hy.out]
            exact ⟨_, rfl, ⟨w8.heap.size, rfl, RwAt.new w8 _ _⟩, grown_alloc HG8.out _⟩
        · obtain rfl : t = x.R.length := by omega
          clear hlt q0
          go_wp2
          go_roundw
          case rel =>
            refine ⟨3, by omega, by go_num, hid ⟨HI.out.1, fun k' hk' j hj => ?_⟩⟩
            by_cases e : k' = 2
            · subst e; exact HI.out.2.2 j hj
            · exact HR.out.2 k' (by omega) j hj
          case measure => simp [intOf]
    · have g0 := HR.out.1.row.cell 6 rfl
      have g1 := HR.out.1.row.cell 7 rfl
      have HA : Hid (VR w G x.C.length x.S.length x.R.length x.Q.length OB ⟨.slice pd x.D.length cd, .slice pc x.C.length cc, .slice pm x.M.length cm, .slice p2 x.R.length c2, .slice p3 x.Q.length c3, .slice p4 x.S.length c4⟩ x A (wr.alloc (.cells #[.int .i64 x.Q.length, .func (.func 67) #[OB] #[]] 144)) ∧ RwAt (wr.alloc (.cells #[.int .i64 x.Q.length, .func (.func 67) #[OB] #[]] 144)) wr.heap.size 144 #[.int .i64 x.Q.length, .func (.func 67) #[OB] #[]]) := hid ⟨HR.out.1.kept0 (World.grownBy_alloc _ _ _), RwAt.new _ _ _⟩
      go_upto_region 9 with (first | (refine wpList_store_rw rfl 144 _ _ rfl rfl rfl (RwAt.new _ _ _) info_72 rfl (by simp [Value.oneCell']) ?_; rw [World.setRow_alloc_new]) | fail)
      clear g0 g1
      generalize wr.alloc (.cells #[.int .i64 x.Q.length, .func (.func 67) #[OB] #[]] 144) = w6 at HA ⊢
      obtain ⟨B6, hB6⟩ : ∃ B, wr.heap.size = B := ⟨_, rfl⟩
      rw [hB6] at HA ⊢
      have q0 := HA.out.2.cell 0 rfl
      go_wp2
      go_loopw [59] (fun i w7 => ∃ t : Nat, t ≤ x.Q.length ∧ i = .int .i64 t ∧ Hid (VR w G x.C.length x.S.length x.R.length x.Q.length OB ⟨.slice pd x.D.length cd, .slice pc x.C.length cc, .slice pm x.M.length cm, .slice p2 x.R.length c2, .slice p3 x.Q.length c3, .slice p4 x.S.length c4⟩ x A w7 ∧ RwAt w7 B6 144 #[.int .i64 x.Q.length, .func (.func 67) #[OB] #[]] ∧ ∀ j, j < t → fN x 3 j = none)) (fun i _ => x.Q.length - (intOf i).toNat)
      case atStart => exact ⟨0, Nat.zero_le _, rfl, hid ⟨HA.out.1, HA.out.2, fun j h => by omega⟩⟩
      case round =>
        obtain ⟨t, ht, rfl, HI⟩ := hrel
        have t0 : (0 : Int) ≤ (t : Int) := by omega
        by_cases hlt : t < x.Q.length
        · have tl : (t : Int) < (x.Q.length : Int) := by omega
          have r1 := HI.out.2.1.cell 1 rfl
          have Hc := hid (codeReloc_any HI.out.1.o HI.out.1.e HP.out.1 HP.out.2.1 t hlt _ rfl)
          obtain ⟨y, hy⟩ : ∃ y, codeF x t = y := ⟨_, rfl⟩
          rw [hy] at Hc
          have Hy : Hid (fN x 3 t = y) := hid hy
          have HL := hid hlt
          clear hy hlt q0
          unfold OV.agg at Hc
          simp only at Hc
          rw [← HOB.out] at Hc
          cases y with
          | none =>
            go_wp2_with fail
            refine Hc.out.mono ?_
            rintro e w8 ⟨rfl, hg⟩
            have HI2 : Hid (_ ∧ _ ∧ _) := hid ⟨HI.out.1.kept0 hg, HI.out.2.1.kept0 hg, HI.out.2.2⟩
            clear hg Hc r1
            unfold evV
            go_wp2
            go_roundw
            case rel =>
              refine ⟨t + 1, by omega, by go_num, hid ⟨HI2.out.1, HI2.out.2.1, fun j hj => ?_⟩⟩
              by_cases e : j = t
              · rw [e]; exact Hy.out
              · exact HI2.out.2.2 j (by omega)
            case measure => simp [intOf]; omega
          | some c =>
            go_wp2_with fail
            refine Hc.out.mono ?_
            rintro e w8 ⟨rfl, hg⟩
            have HG8 := hid (grown_trans HI.out.1.g hg)
            clear hg Hc r1
            have hneq := fun W => run_err_neq_nil (A c) W
            unfold evV
            unfold errV at hneq ⊢
            go_wp2
            go_ret
            rw [from_some (show 3 < 5 by omega) HR.out.2 HL.out HI.out.2.2 Hy.out]
            exact ⟨_, rfl, ⟨w8.heap.size, rfl, RwAt.new w8 _ _⟩, grown_alloc HG8.out _⟩
        · obtain rfl : t = x.Q.length := by omega
          clear hlt q0
          go_wp2
          go_roundw
          case rel =>
            refine ⟨4, by omega, by go_num, hid ⟨HI.out.1, fun k' hk' j hj => ?_⟩⟩
            by_cases e : k' = 3
            · subst e; exact HI.out.2.2 j hj
            · exact HR.out.2 k' (by omega) j hj
          case measure => simp [intOf]
    · have g0 := HR.out.1.row.cell 8 rfl
      have g1 := HR.out.1.row.cell 9 rfl
      have HA : Hid (VR w G x.C.length x.S.length x.R.length x.Q.length OB ⟨.slice pd x.D.length cd, .slice pc x.C.length cc, .slice pm x.M.length cm, .slice p2 x.R.length c2, .slice p3 x.Q.length c3, .slice p4 x.S.length c4⟩ x A (wr.alloc (.cells #[.int .i64 x.C.length, .func (.func 68) #[OB] #[]] 144)) ∧ RwAt (wr.alloc (.cells #[.int .i64 x.C.length, .func (.func 68) #[OB] #[]] 144)) wr.heap.size 144 #[.int .i64 x.C.length, .func (.func 68) #[OB] #[]]) := hid ⟨HR.out.1.kept0 (World.grownBy_alloc _ _ _), RwAt.new _ _ _⟩
      go_upto_region 9 with (first | (refine wpList_store_rw rfl 144 _ _ rfl rfl rfl (RwAt.new _ _ _) info_72 rfl (by simp [Value.oneCell']) ?_; rw [World.setRow_alloc_new]) | fail)
      clear g0 g1
      generalize wr.alloc (.cells #[.int .i64 x.C.length, .func (.func 68) #[OB] #[]] 144) = w6 at HA ⊢
      obtain ⟨B6, hB6⟩ : ∃ B, wr.heap.size = B := ⟨_, rfl⟩
      rw [hB6] at HA ⊢
      have q0 := HA.out.2.cell 0 rfl
      go_wp2
      go_loopw [59] (fun i w7 => ∃ t : Nat, t ≤ x.C.length ∧ i = .int .i64 t ∧ Hid (VR w G x.C.length x.S.length x.R.length x.Q.length OB ⟨.slice pd x.D.length cd, .slice pc x.C.length cc, .slice pm x.M.length cm, .slice p2 x.R.length c2, .slice p3 x.Q.length c3, .slice p4 x.S.length c4⟩ x A w7 ∧ RwAt w7 B6 144 #[.int .i64 x.C.length, .func (.func 68) #[OB] #[]] ∧ ∀ j, j < t → fN x 4 j = none)) (fun i _ => x.C.length - (intOf i).toNat)
      case atStart => exact ⟨0, Nat.zero_le _, rfl, hid ⟨HA.out.1, HA.out.2, fun j h => by omega⟩⟩
      case round =>
        obtain ⟨t, ht, rfl, HI⟩ := hrel
        have t0 : (0 : Int) ≤ (t : Int) := by omega
        by_cases hlt : t < x.C.length
        · have tl : (t : Int) < (x.C.length : Int) := by omega
          have r1 := HI.out.2.1.cell 1 rfl
          have Hc := hid (unrep_any HI.out.1.o HI.out.1.e HP.out.1 HP.out.2.1 HP.out.2.2 (rising_of (HR.out.2 3 (by omega))) t hlt _ rfl)
          obtain ⟨y, hy⟩ : ∃ y, unrF x t = y := ⟨_, rfl⟩
          rw [hy] at Hc
          have Hy : Hid (fN x 4 t = y) := hid hy
          have HL := hid hlt
          clear hy hlt q0
          unfold OV.agg at Hc
          simp only at Hc
          rw [← HOB.out] at Hc
          cases y with
          | none =>
            go_wp2_with fail
            refine Hc.out.mono ?_
            rintro e w8 ⟨rfl, hg⟩
            have HI2 : Hid (_ ∧ _ ∧ _) := hid ⟨HI.out.1.kept0 hg, HI.out.2.1.kept0 hg, HI.out.2.2⟩
            clear hg Hc r1
            unfold evV
            go_wp2
            go_roundw
            case rel =>
              refine ⟨t + 1, by omega, by go_num, hid ⟨HI2.out.1, HI2.out.2.1, fun j hj => ?_⟩⟩
              by_cases e : j = t
              · rw [e]; exact Hy.out
              · exact HI2.out.2.2 j (by omega)
            case measure => simp [intOf]; omega
          | some c =>
            go_wp2_with fail
            refine Hc.out.mono ?_
            rintro e w8 ⟨rfl, hg⟩
            have HG8 := hid (grown_trans HI.out.1.g hg)
            clear hg Hc r1
            have hneq := fun W => run_err_neq_nil (A c) W
            unfold evV
            unfold errV at hneq ⊢
            go_wp2
            go_ret
            rw [from_some (show 4 < 5 by omega) HR.out.2 HL.out HI.out.2.2 Hy.out]
            exact ⟨_, rfl, ⟨w8.heap.size, rfl, RwAt.new w8 _ _⟩, grown_alloc HG8.out _⟩
        · obtain rfl : t = x.C.length := by omega
          clear hlt q0
          go_wp2
          go_roundw
          case rel =>
            refine ⟨5, by omega, by go_num, hid ⟨HI.out.1, fun k' hk' j hj => ?_⟩⟩
            by_cases e : k' = 4
            · subst e; exact HI.out.2.2 j hj
            · exact HR.out.2 k' (by omega) j hj
          case measure => simp [intOf]
    · go_wp2
      go_ret
      rw [from_none HR.out.2]
      exact ⟨_, rfl, rfl, HR.out.1.g⟩
theorem valid_any (h : OAt w V x) (he : ErrC w A) (hf : OFit x) : Calls Tryd.prog 52 #[V.agg] w (SaysAt w A (validP x)) := by
  cases hm : manyB x
  · by_cases hl : x.M.length = x.C.length
    · exact valid_scan h he hf hm hl
    · exact valid_map h he hm hl
  · exact valid_many h he hm
end
end Go.Proofs.YteanjchbnaoopaaDoor
namespace Go.Proofs.YteanjchbnaoopaaDoor
open Go.RowKit
theorem run_err_nil (a : Addr) (w : World) : (binOp .eql 31 (errV a) .nilIface).run Tryd.prog w = .ok (.bool false) w := by
  have h : ∀ d : Nat, (Op.equalIn (d + 1) 31 (errV a) .nilIface).run Tryd.prog w = .ok false w := fun d => by simp [errV, Op.equalIn, run_underlying Tryd.underlying31]
  simp only [binOp]
  simp [Op.equal, Op.maxDepth, h 9999]
end Go.Proofs.YteanjchbnaoopaaDoor
namespace Go.Proofs.YteanjchbnaoopaaDoor
open Go.RowKit
/-- what Of answers, as one -/
def ofV (x imm : Int) : Value := if insB (x / 16777216) (x / 65536 % 256) (x / 256 % 256) (x % 256) (wantImm (x / 16777216) imm) = true then .tuple #[.agg #[.int .i64 (x / 16777216), .int .i64 (x / 65536 % 256), .int .i64 (x / 256 % 256), .int .i64 (x % 256), .int .u32 (wantImm (x / 16777216) imm)], .bool true] else .tuple #[.agg #[.int .i64 0, .int .i64 0, .int .i64 0, .int .i64 0, .int .u32 0], .bool false]
theorem rof_any (x imm : Int) (w : World) (h0 : 0 ≤ x) (h1 : x < 4294967296) : Calls Tryd.prog 9 #[.int .u32 x, .int .u32 imm] w fun e w' => e = .returned (ofV x imm) ∧ w.grownBy w' none := by
  cases h : insB (x / 16777216) (x / 65536 % 256) (x / 256 % 256) (x % 256) (wantImm (x / 16777216) imm)
  · exact (rof_no x imm w h0 h1 h).mono fun e w' he => ⟨by rw [he.1]; unfold ofV; rw [h]; rfl, below_is_grown he.2⟩
  · exact (rof_yes x imm w h0 h1 h).mono fun e w' he => ⟨by rw [he.1]; unfold ofV; rw [if_pos h], below_is_grown he.2⟩
theorem ofV_parts (x imm : Int) : ∃ a b c d e t, ofV x imm = .tuple #[.agg #[.int .i64 a, .int .i64 b, .int .i64 c, .int .i64 d, .int .u32 e], .bool t] := by
  unfold ofV
  split
  · exact ⟨_, _, _, _, _, _, rfl⟩
  · exact ⟨_, _, _, _, _, _, rfl⟩
theorem info_ins9 : (Tryd.prog.info? 36).map (·.size) = some 5 := by kernel_rfl
theorem zero_ins9 (w : World) : (zeroValue 36).run Tryd.prog w = .ok (.agg #[.int .i64 0, .int .i64 0, .int .i64 0, .int .i64 0, .int .u32 0]) w := by kernel_rfl
theorem build_ins0 (w : World) : (Instr.build 36 #[]).run Tryd.prog w = .ok (.agg #[.int .i64 0, .int .i64 0, .int .i64 0, .int .i64 0, .int .u32 0]) w := by kernel_rfl
end Go.Proofs.YteanjchbnaoopaaDoor
namespace Go.Proofs.YteanjchbnaoopaaDoor
open Go.RowKit
/-- the word behind the mark, as an instruction's parts -/
def bkIns (z : Int) : Bool := insB (z / 16777216) (z / 65536 % 256) (z / 256 % 256) (z % 256) (wantImm (z / 16777216) 0)
def bkB (y : Int) : Bool := decide (2147483648 ≤ y) && (bkIns (y - 2147483648) && (decide (clsI ((y - 2147483648) / 16777216) = 2) || decide (clsI ((y - 2147483648) / 16777216) = 3)))
def noneV : Value := .tuple #[.agg #[.int .i64 0, .int .i64 0, .int .i64 0, .int .i64 0, .int .u32 0], .bool false]
def insV (z : Int) : Value := .tuple #[.agg #[.int .i64 (z / 16777216), .int .i64 (z / 65536 % 256), .int .i64 (z / 256 % 256), .int .i64 (z % 256), .int .u32 (wantImm (z / 16777216) 0)], .bool true]
def backV (y : Int) : Value := if bkB y = true then insV (y - 2147483648) else noneV
theorem back_low {y : Int} (h : y < 2147483648) : backV y = noneV := by
  unfold backV bkB
  rw [if_neg (by simp; omega)]
/-- what is answered by what Of says -/
def backL (t : Bool) (cl a b c d i : Int) : Value := if (t && (decide (cl = 2) || decide (cl = 3))) = true then .tuple #[.agg #[.int .i64 a, .int .i64 b, .int .i64 c, .int .i64 d, .int .u32 i], .bool true] else noneV
theorem back_leaf {y z a b c d i : Int} {t : Bool} (hz : y - 2147483648 = z) (h : 2147483648 ≤ y) (hv : ofV z 0 = .tuple #[.agg #[.int .i64 a, .int .i64 b, .int .i64 c, .int .i64 d, .int .u32 i], .bool t]) : backV y = backL t (clsI a) a b c d i := by
  unfold ofV at hv
  unfold backV bkB backL bkIns
  rw [hz]
  split at hv
  · rename_i hi
    simp only [Value.tuple.injEq, Array.mk.injEq, List.cons.injEq, Value.agg.injEq, Value.int.injEq, Value.bool.injEq, and_true, true_and] at hv
    obtain ⟨⟨rfl, rfl, rfl, rfl, rfl⟩, rfl⟩ := hv
    rw [hi]
    simp only [h, decide_true, Bool.true_and]
    rfl
  · rename_i hi
    simp only [Value.tuple.injEq, Array.mk.injEq, List.cons.injEq, Value.agg.injEq, Value.int.injEq, Value.bool.injEq, and_true, true_and] at hv
    obtain ⟨-, rfl⟩ := hv
    rw [Bool.eq_false_iff.2 hi]
    simp
end Go.Proofs.YteanjchbnaoopaaDoor
namespace Go.Proofs.YteanjchbnaoopaaDoor
open Go.RowKit
/-! ### calls of the monitor -/
/-- a call begins at word k -/
def calB (x : PO) (k : Nat) : Bool := decide (k + 1 < min x.C.length x.M.length) && (decide (x.M.getD k 0 = 1) && (decide (x.M.getD (k + 1) 0 = 0) && (bkB (x.C.getD (k + 1) 0) && decide (opW (x.C.getD k 0) = 96))))
def calI (x : PO) (k : Int) : Bool := decide (0 ≤ k) && calB x k.toNat
def woW (x : PO) (k : Nat) : Int := if calB x k = true then 234881024 else x.C.getD k 0
def woQ (x : PO) (r : Rl) : Rl := if r.k = 1 ∧ calI x (r.a - 1) = true then ⟨r.a, 2, r.s, r.d⟩ else r
def woCn (x : PO) (n : Nat) : List Int := (List.range x.C.length).map fun k => if k < n then woW x k else x.C.getD k 0
def woQn (x : PO) (n : Nat) : List Rl := (x.Q.take n).map (woQ x) ++ x.Q.drop n
/-- without its calls -/
def woC (x : PO) : PO := ⟨x.D, woCn x x.C.length, x.M, x.R, woQn x x.Q.length, x.S⟩
theorem woCn_zero (x : PO) : woCn x 0 = x.C := by
  apply List.ext_getElem?
  intro k
  unfold woCn
  by_cases h : k < x.C.length
  · simp [h]
  · rw [List.getElem?_eq_none (by simpa using h), List.getElem?_eq_none (by omega)]
theorem woCn_length (x : PO) (n : Nat) : (woCn x n).length = x.C.length := by simp [woCn]
theorem woCn_get {x : PO} {n k : Nat} (h : k < x.C.length) : (woCn x n)[k]? = some (if k < n then woW x k else x.C.getD k 0) := by
  unfold woCn
  rw [List.getElem?_map, List.getElem?_range h]; rfl
theorem woCn_set {x : PO} {n : Nat} : (woCn x n).set n (woW x n) = woCn x (n + 1) := by
  apply List.ext_getElem?
  intro k
  by_cases h : k < x.C.length
  · rw [List.getElem?_set, woCn_get h, woCn_get h, woCn_length]
    by_cases e : n = k
    · subst e; simp [h]
    · rw [if_neg e]
      by_cases e2 : k < n
      · rw [if_pos e2, if_pos (by omega)]
      · rw [if_neg e2, if_neg (by omega)]
  · rw [List.getElem?_eq_none (by rw [List.length_set, woCn_length]; omega), List.getElem?_eq_none (by rw [woCn_length]; omega)]
theorem woCn_same {x : PO} {n : Nat} (h : calB x n = false) : woCn x (n + 1) = woCn x n := by
  rw [← woCn_set]
  apply List.ext_getElem?
  intro k
  by_cases hk : k < x.C.length
  · rw [List.getElem?_set, woCn_get hk, woCn_length]
    by_cases e : n = k
    · subst e; simp [hk, woW, h]
    · rw [if_neg e]
  · rw [List.getElem?_eq_none (by rw [List.length_set, woCn_length]; omega), List.getElem?_eq_none (by rw [woCn_length]; omega)]
theorem woQn_zero (x : PO) : woQn x 0 = x.Q := by simp [woQn]
theorem woQn_length (x : PO) (n : Nat) : (woQn x n).length = x.Q.length := by simp [woQn]; omega
theorem woQn_get {x : PO} {n k : Nat} {r : Rl} (h : x.Q[k]? = some r) : (woQn x n)[k]? = some (if k < n then woQ x r else r) := by
  have hk := (List.getElem?_eq_some_iff.1 h).1
  unfold woQn
  by_cases e : k < n
  · rw [List.getElem?_append_left (by simp; omega), List.getElem?_map, List.getElem?_take, if_pos e, h, if_pos e]; rfl
  · rw [List.getElem?_append_right (by simp; omega), if_neg e, List.length_map, List.length_take, List.getElem?_drop, ← h]
    congr 1; omega
theorem woQn_set {x : PO} {n : Nat} {r : Rl} (h : x.Q[n]? = some r) : (woQn x n).set n (woQ x r) = woQn x (n + 1) := by
  have hn := (List.getElem?_eq_some_iff.1 h).1
  apply List.ext_getElem?
  intro k
  by_cases hk : k < x.Q.length
  · obtain ⟨s, hs⟩ : ∃ s, x.Q[k]? = some s := ⟨_, List.getElem?_eq_getElem hk⟩
    rw [List.getElem?_set, woQn_get hs, woQn_get hs, woQn_length]
    by_cases e : n = k
    · subst e
      rw [h] at hs; cases hs
      simp [hk]
    · rw [if_neg e]
      by_cases e2 : k < n
      · rw [if_pos e2, if_pos (by omega)]
      · rw [if_neg e2, if_neg (by omega)]
  · rw [List.getElem?_eq_none (by rw [List.length_set, woQn_length]; omega), List.getElem?_eq_none (by rw [woQn_length]; omega)]
theorem woQn_same {x : PO} {n : Nat} {r : Rl} (h : x.Q[n]? = some r) (hc : woQ x r = r) : woQn x (n + 1) = woQn x n := by
  rw [← woQn_set h, hc]
  apply List.ext_getElem?
  intro k
  by_cases hk : k < x.Q.length
  · obtain ⟨s, hs⟩ : ∃ s, x.Q[k]? = some s := ⟨_, List.getElem?_eq_getElem hk⟩
    rw [List.getElem?_set, woQn_get hs, woQn_length]
    by_cases e : n = k
    · subst e; rw [h] at hs; cases hs; simp [hk]
    · rw [if_neg e]
  · rw [List.getElem?_eq_none (by rw [List.length_set, woQn_length]; omega), List.getElem?_eq_none (by rw [woQn_length]; omega)]
/-! ### objects joined -/
structure Sp where
  i : Int
  a : Int
deriving DecidableEq
abbrev Mp := List (ByteArray × Sp)
def lkp (M : Mp) (n : ByteArray) : Option Sp := (M.find? fun p => decide (p.1 = n)).map (·.2)
def lkD (M : Mp) (n : ByteArray) : Sp := (lkp M n).getD ⟨0, 0⟩
structure Pt where
  x : PO
  d : Nat
  c : Nat
def ptSp (p : Pt) (s : Sy) : Sp := if s.i = 1 then ⟨s.i, p.d + s.v⟩ else ⟨s.i, p.c + s.v⟩
def globB (s : Sy) : Bool := s.g && !decide (s.i = 3)
/-- these symbols among all, unless a name is there -/
def addS (p : Pt) : List Sy → Mp → Option Mp
  | [], M => some M
  | s :: r, M => if globB s = false then addS p r M else if (lkp M s.n).isSome = true then none else addS p r (M ++ [(s.n, ptSp p s)])
structure Jn where
  ps : List Pt
  d : Nat
  c : Nat
  M : Mp
def jn0 : Jn := ⟨[], 0, 0, []⟩
def jnAdd (J : Jn) (x : PO) : Fl ⊕ Jn :=
  match validP (woC x) with
  | some f => .inl (some f)
  | none => match addS ⟨x, J.d, J.c⟩ x.S J.M with
    | none => .inl (some (5, none))
    | some M => .inr ⟨J.ps ++ [⟨x, J.d, J.c⟩], J.d + x.D.length, J.c + x.C.length, M⟩
/-- what is wrong: its code, around which object's place, at which place there -/
abbrev Lf := Option (Nat × Option Nat × Option Nat)
def fault (k : Option Nat) : Fl → Lf
  | none => none
  | some (c, p) => some (c, k, p)
def jnRun : List PO → Jn → Lf × Jn
  | [], J => (none, J)
  | x :: r, J => match jnAdd J x with
    | .inl f => (fault (some J.ps.length) f, J)
    | .inr J' => jnRun r J'
def spOf (M : Mp) (p : Pt) (s : Sy) : Sp := if s.i = 3 then lkD M s.n else ptSp p s
def missB (M : Mp) (p : Pt) : Bool := p.x.S.any fun s => !(lkp M s.n).isSome && decide (s.i = 3)
def jumpB (x : PO) (r : Rl) : Bool := if r.k = 2 then true else if x.M.getD r.a.toNat 0 ≠ 0 then false else jmpB (opW (x.C.getD (r.a.toNat - 1) 0))
def leadB (M : Mp) (p : Pt) : Bool := p.x.Q.any fun r => decide ((symN p.x r.s.toNat).i = 3) && (decide ((spOf M p (symN p.x r.s.toNat)).i = 1) && jumpB p.x r)
def nmMainL : ByteArray := ⟨#[109, 97, 105, 110]⟩
def joinP (xs : List PO) : Lf × Jn :=
  if 16 < xs.length then (some (3, none, none), jn0)
  else match jnRun xs jn0 with
    | (some f, J) => (some f, J)
    | (none, J) =>
      match J.ps.findIdx? (missB J.M) with
      | some k => (some (6, some k, none), J)
      | none => match J.ps.findIdx? (leadB J.M) with
        | some k => (some (1, some k, none), J)
        | none => if (lkD J.M nmMainL).i = 2 then (none, J) else (some (6, none, none), J)
/-! ### all as one -/
structure Fx where
  a : Int
  k : Int
  t : Sp
  d : Int
def fxOf (M : Mp) (p : Pt) (b : Nat) (r : Rl) : Fx := ⟨b + r.a, r.k, spOf M p (symN p.x r.s.toNat), r.d⟩
structure Wh where
  D : List Int
  C : List Int
  K : List Int
  R : List Fx
  Q : List Fx
def wh0 : Wh := ⟨[], [], [], [], []⟩
def whAdd (M : Mp) (W : Wh) (p : Pt) : Wh := ⟨W.D ++ p.x.D, W.C ++ p.x.C, W.K ++ p.x.M, W.R ++ p.x.R.map (fxOf M p p.d), W.Q ++ p.x.Q.map (fxOf M p p.c)⟩
def whP (J : Jn) : Wh := J.ps.foldl (whAdd J.M) wh0
/-! ### laid out -/
/-- how many items begin among the first n words -/
def itN (K : List Int) (n : Nat) : Nat := ((K.take n).filter fun m => !decide (m = 0)).length
/-- the item of word k -/
def itOf (K : List Int) (k : Nat) : Nat := itN K (k + 1) - 1
/-- the items of the first n words -/
def itW (K : List Int) : Nat → List RIt
  | 0 => []
  | n + 1 => if K.getD n 0 = 0 then (itW K n).modify (itOf K n) (fun r => ⟨r.s + 1, r.t, r.b⟩) else itW K n ++ [⟨1, 0, false⟩]
def itBr (K : List Int) (I : List RIt) (r : Fx) : List RIt := if r.k = 2 then I.modify (itOf K r.a.toNat) (fun y => ⟨y.s, (itOf K r.t.a.toNat : Int), true⟩) else I
def itsP (W : Wh) : List RIt := W.Q.foldl (itBr W.K) (itW W.K W.C.length)
/-- where word k stands -/
def ldN (W : Wh) (L : List Bool) (k : Nat) : Int := if k < W.C.length then plR (itsP W) L (itOf W.K k) + (if W.K.getD k 0 = 0 then 1 else 0) else plR (itsP W) L (itsP W).length
def ldL (W : Wh) (L : List Bool) : List Int := (List.range (W.C.length + 1)).map (ldN W L)
/-! ### the image -/
structure Im where
  e : Int
  D : List Int
  C : List Int
  dr : List Int
  pl : List Int
  st : List Int
def adP (l : Nat → Int) (s : Sp) : Int := if s.i = 1 then s.a % 4294967296 else (2048 + l s.a.toNat) % 4294967296
def wdP (l : Nat → Int) (r : Fx) : Int := (adP l r.t + r.d) % 4294967296
/-- the jump for a branch -/
def lgW (w : Int) : Int := let o := opW w; let p := if o = 16 then 19 else if o = 17 then 20 else if o = 18 then 21 else o
  wordV p (if o = 0 then 0 else w / 65536 % 256) (if o = 0 then 0 else w / 256 % 256) 0 0
def fxD (l : Nat → Int) (I : Im) (r : Fx) : Im := ⟨I.e, I.D.set r.a.toNat (wdP l r), I.C, if r.t.i = 2 then I.dr ++ [r.a] else I.dr, I.pl, I.st⟩
def fxC (W : Wh) (l : Nat → Int) (I : Im) (r : Fx) : Im :=
  if r.k = 1 then ⟨I.e, I.D, I.C.set (l r.a.toNat).toNat (wdP l r), I.dr, if r.t.i = 2 then I.pl ++ [l r.a.toNat] else I.pl, I.st⟩
  else if l (r.a.toNat + 1) - l r.a.toNat = 2 then ⟨I.e, I.D, (I.C.set (l r.a.toNat).toNat (lgW (W.C.getD r.a.toNat 0))).set ((l r.a.toNat).toNat + 1) (wdP l r), I.dr, I.pl ++ [l r.a.toNat + 1], I.st⟩
  else ⟨I.e, I.D, I.C.set (l r.a.toNat).toNat (W.C.getD r.a.toNat 0 / 256 * 256 + (l r.t.a.toNat - l r.a.toNat) % 256), I.dr, I.pl, I.st⟩
/-- the code of the first n words, laid -/
def imC (W : Wh) (l : Nat → Int) : Nat → List Int
  | 0 => List.replicate (l W.C.length).toNat 0
  | n + 1 => (imC W l n).set (l n).toNat (W.C.getD n 0)
def imS (W : Wh) (l : Nat → Int) : Nat → List Int
  | 0 => []
  | n + 1 => if W.K.getD n 0 = 1 then imS W l n ++ [l n] else imS W l n
def imP (W : Wh) (M : Mp) (l : Nat → Int) : Im :=
  W.Q.foldl (fxC W l) (W.R.foldl (fxD l) ⟨adP l (lkD M nmMainL), W.D, imC W l W.C.length, [], [], imS W l W.C.length⟩)
end Go.Proofs.YteanjchbnaoopaaDoor
namespace Go.Proofs.YteanjchbnaoopaaDoor
open Go.RowKit
/-- behind a copy: a row of the call's own with these cells -/
def CpAt (w : World) (t : TypeId) (size n : Nat) (cs : List Value) (e : Ending) (w' : World) : Prop :=
  ∃ v, e = .returned v ∧ w'.ownsRow w.heap.size t size v n cs ∧ w.grownBy w' none
theorem info_u32 : ∃ i : TypeInfo, Tryd.prog.info? 25 = some i ∧ i.zero = some (.int .u32 0) ∧ i.size = 1 ∧ i.bytes = 4 := info_parts (P := Tryd.prog) (e := 25) (z := .int .u32 0) (size := 1) (bytes := 4) (by kernel_rfl)
theorem info_reloc : ∃ i : TypeInfo, Tryd.prog.info? 76 = some i ∧ i.zero = some (.agg #[.int .i64 0, .int .i64 0, .int .i64 0, .int .i64 0]) ∧ i.size = 4 ∧ i.bytes = 32 := info_parts (P := Tryd.prog) (e := 76) (z := .agg #[.int .i64 0, .int .i64 0, .int .i64 0, .int .i64 0]) (size := 4) (bytes := 32) (by kernel_rfl)
theorem info_symb : ∃ i : TypeInfo, Tryd.prog.info? 74 = some i ∧ i.zero = some (.agg #[.string ⟨#[]⟩, .int .i64 0, .int .i64 0, .bool false]) ∧ i.size = 4 ∧ i.bytes = 40 := info_parts (P := Tryd.prog) (e := 74) (z := .agg #[.string ⟨#[]⟩, .int .i64 0, .int .i64 0, .bool false]) (size := 4) (bytes := 40) (by kernel_rfl)
theorem ints_one (k : IntKind) (xs : List Int) : ∀ v ∈ xs.map (Value.int k), v.oneCell' = true := by
  intro v hv
  obtain ⟨x, _, rfl⟩ := List.mem_map.1 hv
  rfl
set_option maxHeartbeats 1000000 in
theorem clone_u32 {w : World} {v : Value} {l : List Int} (h : SlAt w .u32 v l) (hl : l.length ≤ 1000000) :
    Calls Tryd.prog 69 #[v] w (CpAt w 25 1 l.length (l.map (Value.int .u32))) := by
  have hnil := @Lib.run_eql_slice_nil Tryd.prog
  have key : ∀ (a : Addr) (c : Nat), v = .slice (some a) l.length c → (∀ j u, (l.map (Value.int .u32))[j]? = some u → w.cell? (a.add j) = some u) → Calls Tryd.prog 69 #[v] w (CpAt w 25 1 l.length (l.map (Value.int .u32))) := by
    intro a c hv hcl
    subst hv
    obtain ⟨i, hi, hz0, hz1, hz2⟩ := info_u32
    have Hi := hid hi
    have Hz0 := hid hz0
    have Hz1 := hid hz1
    have Hz2 := hid hz2
    have Hnew : Hid (∀ j u, (l.map (Value.int .u32))[j]? = some u → (w.alloc (.cells #[] 25)).cell? (a.add j) = some u) := hid (by
      intro j u hu
      have := hcl j u hu
      rw [World.cell?_alloc_lt _ _ _ (World.block_lt_of_cell? w _ this)]
      exact this)
    have Hl : Hid ((l.map (Value.int .u32)).length = l.length * 1) := hid (by simp)
    have H1 : Hid (∀ v ∈ (l.map (Value.int .u32)), v.oneCell' = true) := hid (ints_one _ _)
    have Hown : Hid ((w.alloc (.cells #[] 25)).ownsRow w.heap.size 25 1 (.slice (some ⟨w.heap.size, 0, none⟩) 0 0) 0 []) :=
      hid (World.ownsRow_lit w #[] 0 (Nat.le_refl _) (by unfold maxLen; omega) rfl)
    have Hb : Hid ((0 + l.length) * 4 ≤ 140737488355328) := hid (by omega)
    have Hx : Hid (0 + l.length ≤ maxLen) := hid (by unfold maxLen; omega)
    clear hi hz0 hz1 hz2 hcl hl h
    go_enter Tryd.func69, Tryd.ntmps69
    go_wp2_with (refine wpList_append_own _ rfl _ _ 26 rfl w.heap.size 25 i _ 1 4 Tryd.underlying26 Hi.out Hz0.out Hz1.out Hz2.out rfl (by decide) (.slice (some ⟨w.heap.size, 0, none⟩) 0 0) 0 [] rfl Hown.out a l.length c (l.map (Value.int .u32)) rfl Hl.out Hnew.out H1.out Hx.out Hb.out (by simp) ?_; intro v' w2 hown2 hgrow2 _; have HO := hid hown2; have HG := hid hgrow2; clear hown2 hgrow2)
    go_ret
    refine ⟨v', rfl, ?_, ?_⟩
    · have := HO.out; rwa [Nat.zero_add, List.nil_append] at this
    · exact grown_new' (grown_trans (World.grownBy_alloc _ _ _) HG.out) (fun k hk => by simp [Value.ownBlock] at hk; omega)
  rcases h with ⟨⟨p, c, rfl⟩, rfl⟩ | ⟨b, o, c, rfl, _, hc⟩
  · cases p with
    | none =>
      clear hl key
      go_enter Tryd.func69, Tryd.ntmps69
      go_wp2
      go_ret
      exact ⟨_, rfl, World.ownsRow_nil _ _ _ _, grown_refl _ _⟩
    | some a => exact key a c rfl (by simp)
  · exact key ⟨b, o, none⟩ c rfl (fun j u hu => by
      rw [List.getElem?_map, Option.map_eq_some_iff] at hu
      obtain ⟨z, hz, rfl⟩ := hu
      rw [Addr.add_mid]
      exact hc j z hz)
set_option maxHeartbeats 1000000 in
theorem clone_rl {w : World} {v : Value} {l : List Rl} (h : CsAt w v l.length (rlsC l)) (hl : l.length ≤ 1000000) :
    Calls Tryd.prog 70 #[v] w (CpAt w 76 4 l.length (rlsC l)) := by
  have hnil := @Lib.run_eql_slice_nil Tryd.prog
  have key : ∀ (a : Addr) (c : Nat), v = .slice (some a) l.length c → (∀ j u, (rlsC l)[j]? = some u → w.cell? (a.add j) = some u) → Calls Tryd.prog 70 #[v] w (CpAt w 76 4 l.length (rlsC l)) := by
    intro a c hv hcl
    subst hv
    obtain ⟨i, hi, hz0, hz1, hz2⟩ := info_reloc
    have Hi := hid hi
    have Hz0 := hid hz0
    have Hz1 := hid hz1
    have Hz2 := hid hz2
    have Hnew : Hid (∀ j u, (rlsC l)[j]? = some u → (w.alloc (.cells #[] 76)).cell? (a.add j) = some u) := hid (by
      intro j u hu
      have := hcl j u hu
      rw [World.cell?_alloc_lt _ _ _ (World.block_lt_of_cell? w _ this)]
      exact this)
    have Hl : Hid ((rlsC l).length = l.length * 4) := hid (rlsC_length l)
    have H1 : Hid (∀ v ∈ (rlsC l), v.oneCell' = true) := hid (rlsC_one l)
    have Hown : Hid ((w.alloc (.cells #[] 76)).ownsRow w.heap.size 76 4 (.slice (some ⟨w.heap.size, 0, none⟩) 0 0) 0 []) :=
      hid (World.ownsRow_lit w #[] 0 (Nat.le_refl _) (by unfold maxLen; omega) rfl)
    have Hb : Hid ((0 + l.length) * 32 ≤ 140737488355328) := hid (by omega)
    have Hx : Hid (0 + l.length ≤ maxLen) := hid (by unfold maxLen; omega)
    clear hi hz0 hz1 hz2 hcl hl h
    go_enter Tryd.func70, Tryd.ntmps70
    go_wp2_with (refine wpList_append_own _ rfl _ _ 49 rfl w.heap.size 76 i _ 4 32 Tryd.underlying49 Hi.out Hz0.out Hz1.out Hz2.out rfl (by decide) (.slice (some ⟨w.heap.size, 0, none⟩) 0 0) 0 [] rfl Hown.out a l.length c (rlsC l) rfl Hl.out Hnew.out H1.out Hx.out Hb.out (by simp) ?_; intro v' w2 hown2 hgrow2 _; have HO := hid hown2; have HG := hid hgrow2; clear hown2 hgrow2)
    go_ret
    refine ⟨v', rfl, ?_, ?_⟩
    · have := HO.out; rwa [Nat.zero_add, List.nil_append] at this
    · exact grown_new' (grown_trans (World.grownBy_alloc _ _ _) HG.out) (fun k hk => by simp [Value.ownBlock] at hk; omega)
  rcases h with ⟨⟨p, c, rfl⟩, h0, hcs⟩ | ⟨b, o, c, rfl, _, _, hc⟩
  · obtain rfl := List.eq_nil_of_length_eq_zero h0
    cases p with
    | none =>
      clear hl key
      go_enter Tryd.func70, Tryd.ntmps70
      go_wp2
      go_ret
      exact ⟨_, rfl, World.ownsRow_nil _ _ _ _, grown_refl _ _⟩
    | some a => exact key a c rfl (by simp [rlsC])
  · exact key ⟨b, o, none⟩ c rfl (fun j u hu => by
      rw [Addr.add_mid]
      exact hc j u hu)
/-! ### an object copied -/
/-- an object's box, and what is known beside it -/
structure Bo (w0 w : World) (G : Nat) (V : OV) (x : PO) : Prop where
  box : RwAt w G 52 #[V.d, V.c, V.m, V.r, V.q, V.s]
  o : OAt w V x
  g : w0.grownBy w none
section
variable {w0 w w1 : World} {G : Nat} {V : OV} {x : PO}
theorem Bo.kept0 (h : Bo w0 w G V x) (hg : w.grownBy w1 none) : Bo w0 w1 G V x := ⟨h.box.kept0 hg, h.o.kept0 hg, grown_trans h.g hg⟩
theorem Bo.alloc (h : Bo w0 w G V x) (o : Obj) : Bo w0 (w.alloc o) G V x := h.kept0 (World.grownBy_alloc _ _ _)
theorem Bo.new (h : OAt w V x) : Bo w (w.alloc (.cells #[V.d, V.c, V.m, V.r, V.q, V.s] 52)) w.heap.size V x :=
  ⟨RwAt.new w _ _, h.kept0 (World.grownBy_alloc _ _ _), World.grownBy_alloc _ _ _⟩
end
def Ap (u v : Value) : Prop := u.ownBlock = none ∨ u.ownBlock ≠ v.ownBlock
/-- an object of the call's own: six rows, none of them another -/
structure OwnO (B : Nat) (w : World) (V : OV) (x : PO) : Prop where
  d : w.ownsRow B 25 1 V.d x.D.length (x.D.map (Value.int .u32))
  c : w.ownsRow B 25 1 V.c x.C.length (x.C.map (Value.int .u32))
  m : w.ownsRow B 5 1 V.m x.M.length (x.M.map (Value.int .u8))
  r : w.ownsRow B 76 4 V.r x.R.length (rlsC x.R)
  q : w.ownsRow B 76 4 V.q x.Q.length (rlsC x.Q)
  s : w.ownsRow B 74 4 V.s x.S.length (sysC x.S)
  ap : [V.d, V.c, V.m, V.r, V.q, V.s].Pairwise Ap
theorem OwnO.at_ {B : Nat} {w : World} {V : OV} {x : PO} (h : OwnO B w V x) : OAt w V x := ⟨SlAt.own h.d, SlAt.own h.c, SlAt.own h.m, CsAt.own h.r, CsAt.own h.q, CsAt.own h.s⟩
theorem OwnO.kept0 {B : Nat} {w w1 : World} {V : OV} {x : PO} (h : OwnO B w V x) (hg : w.grownBy w1 none) : OwnO B w1 V x :=
  ⟨h.d.kept hg (by cases V.d.ownBlock <;> simp), h.c.kept hg (by cases V.c.ownBlock <;> simp), h.m.kept hg (by cases V.m.ownBlock <;> simp), h.r.kept hg (by cases V.r.ownBlock <;> simp), h.q.kept hg (by cases V.q.ownBlock <;> simp), h.s.kept hg (by cases V.s.ownBlock <;> simp), h.ap⟩
theorem zero_obj (w : World) : (zeroValue 52).run Tryd.prog w = .ok (.agg #[.slice none 0 0, .slice none 0 0, .slice none 0 0, .slice none 0 0, .slice none 0 0, .slice none 0 0]) w := by kernel_rfl
theorem own_slice {w : World} {B size n : Nat} {t : TypeId} {v : Value} {cs : List Value} (h : w.ownsRow B t size v n cs) : ∃ p c, v = .slice p n c := by
  rcases h.2 with ⟨rfl, h0⟩ | ⟨g, cap, cur, rfl, _⟩
  · subst h0; exact ⟨_, _, rfl⟩
  · exact ⟨_, _, rfl⟩
theorem own_apart {w : World} {B B' size n size' n' : Nat} {t t' : TypeId} {v v' : Value} {cs cs' : List Value} {w' : World} (h : w.ownsRow B t size v n cs) (h' : w'.ownsRow B' t' size' v' n' cs') (hB : w.heap.size ≤ B') : Ap v v' := by
  unfold Ap
  cases hv : v.ownBlock with
  | none => exact .inl rfl
  | some g =>
    right
    intro e
    have h1 := (h.lt g hv).2
    have h2 := (h'.lt g e.symm).1
    omega
end Go.Proofs.YteanjchbnaoopaaDoor
