/- What is wrong with an object (package obj): a contract. (Made by gobj13.py.) -/
import Derived.Test.YtgahbpfmiibpeaaGreatDoorZGObjC
namespace Go.Proofs.YtgahbpfmiibpeaaGreatDoor
open Go.RowKit
theorem run_err_neq_nil (a : Addr) (w : World) : (binOp .neq 35 (errV a) .nilIface).run Tryz.prog w = .ok (.bool true) w := by
  have h : ∀ d : Nat, (Op.equalIn (d + 1) 35 (errV a) .nilIface).run Tryz.prog w = .ok false w := fun d => by simp [errV, Op.equalIn, run_underlying Tryz.underlying35]
  simp only [binOp]
  simp [Op.equal, Op.maxDepth, h 9999]
theorem info_72 : (Tryz.prog.info? 138).map (·.size) = some 2 := by kernel_rfl
abbrev atV (B : Nat) : Value := .iface 127 (.pointer (some ⟨B, 0, none⟩))
/-- a value that says this -/
def FltAt (A : Nat → Addr) (w : World) (v : Value) : Fl → Prop
  | none => v = .nilIface
  | some (c, none) => v = errV (A c)
  | some (c, some p) => ∃ B, v = atV B ∧ RwAt w B 129 #[.int .i64 p, errV (A c)]
theorem FltAt.kept0 {A : Nat → Addr} {w w1 : World} {v : Value} {y : Fl} (h : FltAt A w v y) (hg : w.grownBy w1 none) : FltAt A w1 v y := by
  match y, h with
  | none, h => exact h
  | some (c, none), h => exact h
  | some (c, some p), ⟨B, hv, hb⟩ => exact ⟨B, hv, hb.kept0 hg⟩
def SaysAt (w : World) (A : Nat → Addr) (y : Fl) (e : Ending) (w' : World) : Prop := ∃ v, e = .returned v ∧ FltAt A w' v y ∧ w.grownBy w' none
def fN (x : PO) (k : Nat) : Nat → Option Nat := if k = 0 then wordF x else if k = 1 then symF x else if k = 2 then dataF x else if k = 3 then codeF x else unrF x
def lN (x : PO) (k : Nat) : Nat := if k = 0 then x.C.length else if k = 1 then x.S.length else if k = 2 then x.R.length else if k = 3 then x.Q.length else x.C.length
/-- from the k-th of the five on -/
def fromF (x : PO) : Nat → Fl
  | 0 => none
  | n + 1 => scanF (fN x (4 - n)) (lN x (4 - n)) (fromF x n)
theorem from_none {x : PO} (h : ∀ k, k < 5 → ∀ j, j < lN x k → fN x k j = none) : fromF x 5 = none := by
  have key : ∀ n, n ≤ 5 → fromF x n = none := by
    intro n
    induction n with
    | zero => intro _; rfl
    | succ n ih => intro hn; rw [fromF, scanF_none (h (4 - n) (by omega)), ih (by omega)]
  exact key 5 (Nat.le_refl _)
theorem from_some {x : PO} {k t c : Nat} (hk : k < 5) (h : ∀ k', k' < k → ∀ j, j < lN x k' → fN x k' j = none) (ht : t < lN x k) (hj : ∀ j, j < t → fN x k j = none) (hc : fN x k t = some c) : fromF x 5 = some (c, some t) := by
  have key : ∀ n, n ≤ 5 → 5 - n ≤ k → fromF x n = some (c, some t) := by
    intro n
    induction n with
    | zero => intro _ _; omega
    | succ n ih =>
      intro hn hle
      by_cases e : 4 - n = k
      · rw [fromF, e, scanF_some hc hj ht]
      · rw [fromF, scanF_none (h (4 - n) (by omega)), ih (by omega) (by omega)]
  exact key 5 (Nat.le_refl _) (by omega)
theorem valid_from {x : PO} (h : manyB x = false) (hl : x.M.length = x.C.length) : validP x = fromF x 5 := by
  unfold validP
  rw [if_neg (by simp [h]), if_neg (by simp [hl])]
  rfl
theorem rising_of {x : PO} (h : ∀ k, k < x.Q.length → codeF x k = none) : Rising x.Q := by
  have step : ∀ k, k + 1 < x.Q.length → (rlN x.Q k).a < (rlN x.Q (k + 1)).a := by
    intro k hk
    have := h (k + 1) hk
    unfold codeF at this
    have hi : inB x x.Q (k + 1) x.C.length = true := by
      cases hb : inB x x.Q (k + 1) x.C.length
      · rw [if_pos (.inl hb)] at this; cases this
      · rfl
    unfold inB at hi
    have hi := of_decide_eq_true hi
    have h1 := hi.1
    simp only [Nat.add_sub_cancel] at h1
    omega
  intro i j hij
  induction j with
  | zero => omega
  | succ j ih =>
    intro hj
    by_cases e : i = j
    · subst e; exact step i hj
    · exact Int.lt_trans (ih (by omega) (by omega)) (step j hj)
section
variable {w : World} {V : OV} {x : PO} {A : Nat → Addr}
theorem valid_many (h : OAt w V x) (he : ErrC w A) (hm : manyB x = true) : Calls Tryz.prog 42 #[V.agg] w (SaysAt w A (validP x)) := by
  obtain ⟨d, c, m, r, q, sv⟩ := V
  have HX := hid (Bx.new h he 27 #[d, c, m, r, q, sv])
  have hm' : decide (2048 < (x.D.length : Int) ∨ 2048 < (x.C.length : Int) ∨ 1024 < (x.R.length : Int) ∨ 1024 < (x.Q.length : Int) ∨ 256 < (x.S.length : Int)) = true := by
    rw [decide_eq_true_eq]; unfold manyB at hm; have := of_decide_eq_true hm; omega
  have Hm := hid hm'
  have HV : Hid (validP x = some (3, none)) := hid (by unfold validP; rw [if_pos hm])
  rw [HV.out]
  clear h he hm hm'
  go_enter Tryz.func42, Tryz.ntmps42
  go_upto_region 1 with (fail)
  generalize w.alloc (.cells #[d, c, m, r, q, sv] 27) = w1 at HX ⊢
  go_wp2_with (first
    | (refine wpList_load_rw rfl 27 _ rfl rfl HX.out.box rfl Tryz.underlying27 info_object ?_)
    | fail)
  refine (sizes_any HX.out.o).mono ?_
  rintro e w2 ⟨rfl, hg⟩
  have HX2 := hid (HX.out.kept0 hg)
  clear hg HX
  go_wp2_with fail
  refine (many_any _ _ _ _ _ _ true Hm.out).mono ?_
  rintro e w3 ⟨rfl, hg⟩
  have HX3 := hid (HX2.out.kept0 hg)
  clear hg HX2
  have e3 := HX3.out.e.c3
  unfold errV at e3
  go_wp2
  go_ret
  exact ⟨_, rfl, rfl, HX3.out.g⟩
theorem valid_map (h : OAt w V x) (he : ErrC w A) (hm : manyB x = false) (hl : x.M.length ≠ x.C.length) : Calls Tryz.prog 42 #[V.agg] w (SaysAt w A (validP x)) := by
  obtain ⟨d, c, m, r, q, sv⟩ := V
  obtain ⟨pc, cc, hc⟩ := h.c.len'
  obtain rfl : c = _ := hc
  obtain ⟨pm, cm, hmm⟩ := h.m.len'
  obtain rfl : m = _ := hmm
  have HX := hid (Bx.new h he 27 #[d, .slice pc x.C.length cc, .slice pm x.M.length cm, r, q, sv])
  have hm' : decide (2048 < (x.D.length : Int) ∨ 2048 < (x.C.length : Int) ∨ 1024 < (x.R.length : Int) ∨ 1024 < (x.Q.length : Int) ∨ 256 < (x.S.length : Int)) = false := by
    rw [decide_eq_false_iff_not]; unfold manyB at hm; have := of_decide_eq_false hm; omega
  have Hm := hid hm'
  have HV : Hid (validP x = some (8, none)) := hid (by unfold validP; rw [if_neg (by simp [hm]), if_pos hl])
  have hne : ((x.M.length : Int) != (x.C.length : Int)) = true := by simp; omega
  rw [HV.out]
  clear h he hm hm' hl
  go_enter Tryz.func42, Tryz.ntmps42
  go_upto_region 1 with (fail)
  generalize w.alloc (.cells #[d, .slice pc x.C.length cc, .slice pm x.M.length cm, r, q, sv] 27) = w1 at HX ⊢
  go_wp2_with (first
    | (refine wpList_load_rw rfl 27 _ rfl rfl HX.out.box rfl Tryz.underlying27 info_object ?_)
    | fail)
  refine (sizes_any HX.out.o).mono ?_
  rintro e w2 ⟨rfl, hg⟩
  have HX2 := hid (HX.out.kept0 hg)
  clear hg HX
  go_wp2_with fail
  refine (many_any _ _ _ _ _ _ false Hm.out).mono ?_
  rintro e w3 ⟨rfl, hg⟩
  have HX3 := hid (HX2.out.kept0 hg)
  clear hg HX2
  have e8 := HX3.out.e.c8
  unfold errV at e8
  have f1 := HX3.out.box.cell 1 rfl
  have f2 := HX3.out.box.cell 2 rfl
  go_wp2
  go_ret
  exact ⟨_, rfl, rfl, HX3.out.g⟩
/-- what stands at the head of the rounds -/
structure VR (w0 : World) (G : Nat) (n0 n1 n2 n3 : Nat) (OB : Value) (V : OV) (x : PO) (A : Nat → Addr) (w : World) : Prop where
  row : RwAt w G 138 #[.int .i64 n0, .func (.func 74) #[OB] #[], .int .i64 n1, .func (.func 75) #[OB] #[], .int .i64 n2, .func (.func 76) #[OB] #[], .int .i64 n3, .func (.func 77) #[OB] #[], .int .i64 n0, .func (.func 78) #[OB] #[]]
  o : OAt w V x
  e : ErrC w A
  g : w0.grownBy w none
theorem VR.kept0 {w0 w w1 : World} {G n0 n1 n2 n3 : Nat} {OB : Value} (h : VR w0 G n0 n1 n2 n3 OB V x A w) (hg : w.grownBy w1 none) : VR w0 G n0 n1 n2 n3 OB V x A w1 := ⟨h.row.kept0 hg, h.o.kept0 hg, h.e.kept0 hg, grown_trans h.g hg⟩
set_option maxRecDepth 100000 in
set_option maxHeartbeats 4000000 in
theorem valid_scan (h : OAt w V x) (he : ErrC w A) (hf : OFit x) (hm : manyB x = false) (hl : x.M.length = x.C.length) : Calls Tryz.prog 42 #[V.agg] w (SaysAt w A (validP x)) := by
  rw [valid_from hm hl]
  obtain ⟨d, c, m, r, q, sv⟩ := V
  have hO := hid h
  obtain ⟨pd, cd, hd⟩ := h.d.len'
  obtain rfl : d = _ := hd
  obtain ⟨pc, cc, hc⟩ := h.c.len'
  obtain rfl : c = _ := hc
  obtain ⟨pm, cm, hmm⟩ := h.m.len'
  obtain rfl : m = _ := hmm
  obtain ⟨p2, c2, h2⟩ := h.r.len
  obtain ⟨p3, c3, h3⟩ := h.q.len
  obtain ⟨p4, c4, h4⟩ := h.s.len
  obtain rfl : r = _ := h2
  obtain rfl : q = _ := h3
  obtain rfl : sv = _ := h4
  have HX := hid (Bx.new h he 27 #[.slice pd x.D.length cd, .slice pc x.C.length cc, .slice pm x.M.length cm, .slice p2 x.R.length c2, .slice p3 x.Q.length c3, .slice p4 x.S.length c4])
  have hm' : decide (2048 < (x.D.length : Int) ∨ 2048 < (x.C.length : Int) ∨ 1024 < (x.R.length : Int) ∨ 1024 < (x.Q.length : Int) ∨ 256 < (x.S.length : Int)) = false := by
    rw [decide_eq_false_iff_not]; unfold manyB at hm; have := of_decide_eq_false hm; omega
  have Hm := hid hm'
  have hne : ((x.M.length : Int) != (x.C.length : Int)) = false := by simp; omega
  have hMl := of_decide_eq_false hm
  have HP := hid (And.intro hf (And.intro hl (show x.Q.length ≤ 1024 by omega)))
  clear h he hm hm' hl hO hf hMl
  go_enter Tryz.func42, Tryz.ntmps42
  go_upto_region 1 with (fail)
  generalize w.alloc (.cells #[.slice pd x.D.length cd, .slice pc x.C.length cc, .slice pm x.M.length cm, .slice p2 x.R.length c2, .slice p3 x.Q.length c3, .slice p4 x.S.length c4] 27) = w1 at HX ⊢
  go_wp2_with (first
    | (refine wpList_load_rw rfl 27 _ rfl rfl HX.out.box rfl Tryz.underlying27 info_object ?_)
    | fail)
  refine (sizes_any HX.out.o).mono ?_
  rintro e w2 ⟨rfl, hg⟩
  have HX2 := hid (HX.out.kept0 hg)
  clear hg HX
  go_wp2_with fail
  refine (many_any _ _ _ _ _ _ false Hm.out).mono ?_
  rintro e w3 ⟨rfl, hg⟩
  have HX3 := hid (HX2.out.kept0 hg)
  clear hg HX2
  have f1 := HX3.out.box.cell 1 rfl
  have f2 := HX3.out.box.cell 2 rfl
  go_upto_region 5 with (fail)
  go_upto_region 6 with (first
    | (refine wpList_load_rw rfl 27 _ rfl rfl HX3.out.box rfl Tryz.underlying27 info_object ?_)
    | (refine wpList_store_rw rfl 136 _ _ rfl rfl rfl (RwAt.new _ _ _) info_object' rfl (by simp [Value.oneCell']) ?_; rw [World.setRow_alloc_new])
    | fail)
  obtain ⟨B5, hB5⟩ : ∃ B, w3.heap.size = B := ⟨_, rfl⟩
  have HX5 := hid (HX3.out.alloc (.cells #[.slice pd x.D.length cd, .slice pc x.C.length cc, .slice pm x.M.length cm, .slice p2 x.R.length c2, .slice p3 x.Q.length c3, .slice p4 x.S.length c4] 136))
  have HZ := hid (RwAt.new w3 136 #[.slice pd x.D.length cd, .slice pc x.C.length cc, .slice pm x.M.length cm, .slice p2 x.R.length c2, .slice p3 x.Q.length c3, .slice p4 x.S.length c4])
  rw [hB5] at HZ ⊢
  clear HX3 f1 f2 hB5
  generalize w3.alloc (.cells #[.slice pd x.D.length cd, .slice pc x.C.length cc, .slice pm x.M.length cm, .slice p2 x.R.length c2, .slice p3 x.Q.length c3, .slice p4 x.S.length c4] 136) = w4 at HX5 HZ ⊢
  have f1 := HX5.out.box.cell 1 rfl
  have f3 := HX5.out.box.cell 3 rfl
  have f4 := HX5.out.box.cell 4 rfl
  have f5 := HX5.out.box.cell 5 rfl
  go_wp2_with (first
    | (refine wpList_load_rw rfl 136 _ rfl rfl HZ.out rfl Tryz.underlying136 info_object' ?_)
    | fail)
  obtain ⟨OB, HOB⟩ : ∃ OB, Hid (OB = Value.agg #[.slice pd x.D.length cd, .slice pc x.C.length cc, .slice pm x.M.length cm, .slice p2 x.R.length c2, .slice p3 x.Q.length c3, .slice p4 x.S.length c4]) := ⟨_, hid rfl⟩
  rw [← HOB.out]
  obtain ⟨N0, HN0⟩ : ∃ N, Hid (x.C.length = N) := ⟨_, hid rfl⟩
  obtain ⟨N1, HN1⟩ : ∃ N, Hid (x.S.length = N) := ⟨_, hid rfl⟩
  obtain ⟨N2, HN2⟩ : ∃ N, Hid (x.R.length = N) := ⟨_, hid rfl⟩
  obtain ⟨N3, HN3⟩ : ∃ N, Hid (x.Q.length = N) := ⟨_, hid rfl⟩
  have HV : Hid (VR w w4.heap.size x.C.length x.S.length x.R.length x.Q.length OB ⟨.slice pd x.D.length cd, .slice pc x.C.length cc, .slice pm x.M.length cm, .slice p2 x.R.length c2, .slice p3 x.Q.length c3, .slice p4 x.S.length c4⟩ x A (w4.alloc (.cells #[.int .i64 x.C.length, .func (.func 74) #[OB] #[], .int .i64 x.S.length, .func (.func 75) #[OB] #[], .int .i64 x.R.length, .func (.func 76) #[OB] #[], .int .i64 x.Q.length, .func (.func 77) #[OB] #[], .int .i64 x.C.length, .func (.func 78) #[OB] #[]] 138))) :=
    hid ⟨RwAt.new w4 _ _, (HX5.out.alloc _).o, (HX5.out.alloc _).e, (HX5.out.alloc _).g⟩
  clear HX5 HZ f1 f3 f4 f5 Hm hne
  generalize w4.alloc (.cells #[.int .i64 x.C.length, .func (.func 74) #[OB] #[], .int .i64 x.S.length, .func (.func 75) #[OB] #[], .int .i64 x.R.length, .func (.func 76) #[OB] #[], .int .i64 x.Q.length, .func (.func 77) #[OB] #[], .int .i64 x.C.length, .func (.func 78) #[OB] #[]] 138) = w5 at HV ⊢
  obtain ⟨G, hG⟩ : ∃ G, w4.heap.size = G := ⟨_, rfl⟩
  rw [hG] at HV ⊢
  clear hG
  have kC : (x.C.length : Int) ≤ 9223372036854775807 := by have := HP.out.1.l.2.1; unfold maxLen at this; omega
  have kS : (x.S.length : Int) ≤ 9223372036854775807 := by have := HP.out.1.l.2.2.2.2.2; unfold maxLen at this; omega
  have kR : (x.R.length : Int) ≤ 9223372036854775807 := by have := HP.out.1.l.2.2.2.1; unfold maxLen at this; omega
  have kQ : (x.Q.length : Int) ≤ 9223372036854775807 := by have := HP.out.1.l.2.2.2.2.1; unfold maxLen at this; omega
  go_loopw [53] (fun i wr => ∃ k : Nat, k ≤ 5 ∧ i = .int .i64 k ∧ Hid (VR w G x.C.length x.S.length x.R.length x.Q.length OB ⟨.slice pd x.D.length cd, .slice pc x.C.length cc, .slice pm x.M.length cm, .slice p2 x.R.length c2, .slice p3 x.Q.length c3, .slice p4 x.S.length c4⟩ x A wr ∧ ∀ k', k' < k → ∀ j, j < lN x k' → fN x k' j = none)) (fun i _ => 5 - (intOf i).toNat)
  case atStart => exact ⟨0, Nat.zero_le _, rfl, hid ⟨HV.out, fun k' h => by omega⟩⟩
  case round =>
    obtain ⟨k, hk, rfl, HR⟩ := hrel
    rcases (show k = 0 ∨ k = 1 ∨ k = 2 ∨ k = 3 ∨ k = 4 ∨ k = 5 by omega) with rfl | rfl | rfl | rfl | rfl | rfl
    · have g0 := HR.out.1.row.cell 0 rfl
      have g1 := HR.out.1.row.cell 1 rfl
      have HA : Hid (VR w G x.C.length x.S.length x.R.length x.Q.length OB ⟨.slice pd x.D.length cd, .slice pc x.C.length cc, .slice pm x.M.length cm, .slice p2 x.R.length c2, .slice p3 x.Q.length c3, .slice p4 x.S.length c4⟩ x A (wr.alloc (.cells #[.int .i64 x.C.length, .func (.func 74) #[OB] #[]] 138)) ∧ RwAt (wr.alloc (.cells #[.int .i64 x.C.length, .func (.func 74) #[OB] #[]] 138)) wr.heap.size 138 #[.int .i64 x.C.length, .func (.func 74) #[OB] #[]]) := hid ⟨HR.out.1.kept0 (World.grownBy_alloc _ _ _), RwAt.new _ _ _⟩
      go_upto_region 9 with (first | (refine wpList_store_rw rfl 138 _ _ rfl rfl rfl (RwAt.new _ _ _) info_72 rfl (by simp [Value.oneCell']) ?_; rw [World.setRow_alloc_new]) | fail)
      clear g0 g1
      generalize wr.alloc (.cells #[.int .i64 x.C.length, .func (.func 74) #[OB] #[]] 138) = w6 at HA ⊢
      obtain ⟨B6, hB6⟩ : ∃ B, wr.heap.size = B := ⟨_, rfl⟩
      rw [hB6] at HA ⊢
      have q0 := HA.out.2.cell 0 rfl
      go_wp2
      go_loopw [59] (fun i w7 => ∃ t : Nat, t ≤ x.C.length ∧ i = .int .i64 t ∧ Hid (VR w G x.C.length x.S.length x.R.length x.Q.length OB ⟨.slice pd x.D.length cd, .slice pc x.C.length cc, .slice pm x.M.length cm, .slice p2 x.R.length c2, .slice p3 x.Q.length c3, .slice p4 x.S.length c4⟩ x A w7 ∧ RwAt w7 B6 138 #[.int .i64 x.C.length, .func (.func 74) #[OB] #[]] ∧ ∀ j, j < t → fN x 0 j = none)) (fun i _ => x.C.length - (intOf i).toNat)
      case atStart => exact ⟨0, Nat.zero_le _, rfl, hid ⟨HA.out.1, HA.out.2, fun j h => by omega⟩⟩
      case round =>
        obtain ⟨t, ht, rfl, HI⟩ := hrel
        have t0 : (0 : Int) ≤ (t : Int) := by omega
        by_cases hlt : t < x.C.length
        · have tl : (t : Int) < (x.C.length : Int) := by omega
          have r1 := HI.out.2.1.cell 1 rfl
          have Hc := hid (word_any9 HI.out.1.o HI.out.1.e HP.out.1 HP.out.2.1 t hlt)
          obtain ⟨y, hy⟩ : ∃ y, wordF x t = y := ⟨_, rfl⟩
          rw [hy] at Hc
          have Hy : Hid (fN x 0 t = y) := hid hy
          have HL := hid hlt
          clear hy hlt q0
          unfold OV.agg at Hc
          simp only at Hc
          rw [← HOB.out] at Hc
          cases y with
          | none =>
            go_wp2_with fail
            refine Hc.out.mono ?_
            rintro e w8 ⟨rfl, hg⟩
            have HI2 : Hid (_ ∧ _ ∧ _) := hid ⟨HI.out.1.kept0 hg, HI.out.2.1.kept0 hg, HI.out.2.2⟩
            clear hg Hc r1
            unfold evV
            go_wp2
            go_roundw
            case rel =>
              refine ⟨t + 1, by omega, by go_num, hid ⟨HI2.out.1, HI2.out.2.1, fun j hj => ?_⟩⟩
              by_cases e : j = t
              · rw [e]; exact Hy.out
              · exact HI2.out.2.2 j (by omega)
            case measure => simp [intOf]; omega
          | some c =>
            go_wp2_with fail
            refine Hc.out.mono ?_
            rintro e w8 ⟨rfl, hg⟩
            have HG8 := hid (grown_trans HI.out.1.g hg)
            clear hg Hc r1
            have hneq := fun W => run_err_neq_nil (A c) W
            unfold evV
            unfold errV at hneq ⊢
            go_wp2
            go_ret
            rw [from_some (show 0 < 5 by omega) HR.out.2 HL.out HI.out.2.2 Hy.out]
            exact ⟨_, rfl, ⟨w8.heap.size, rfl, RwAt.new w8 _ _⟩, grown_alloc HG8.out _⟩
        · obtain rfl : t = x.C.length := by omega
          clear hlt q0
          go_wp2
          go_roundw
          case rel =>
            refine ⟨1, by omega, by go_num, hid ⟨HI.out.1, fun k' hk' j hj => ?_⟩⟩
            by_cases e : k' = 0
            · subst e; exact HI.out.2.2 j hj
            · exact HR.out.2 k' (by omega) j hj
          case measure => simp [intOf]
    · have g0 := HR.out.1.row.cell 2 rfl
      have g1 := HR.out.1.row.cell 3 rfl
      have HA : Hid (VR w G x.C.length x.S.length x.R.length x.Q.length OB ⟨.slice pd x.D.length cd, .slice pc x.C.length cc, .slice pm x.M.length cm, .slice p2 x.R.length c2, .slice p3 x.Q.length c3, .slice p4 x.S.length c4⟩ x A (wr.alloc (.cells #[.int .i64 x.S.length, .func (.func 75) #[OB] #[]] 138)) ∧ RwAt (wr.alloc (.cells #[.int .i64 x.S.length, .func (.func 75) #[OB] #[]] 138)) wr.heap.size 138 #[.int .i64 x.S.length, .func (.func 75) #[OB] #[]]) := hid ⟨HR.out.1.kept0 (World.grownBy_alloc _ _ _), RwAt.new _ _ _⟩
      go_upto_region 9 with (first | (refine wpList_store_rw rfl 138 _ _ rfl rfl rfl (RwAt.new _ _ _) info_72 rfl (by simp [Value.oneCell']) ?_; rw [World.setRow_alloc_new]) | fail)
      clear g0 g1
      generalize wr.alloc (.cells #[.int .i64 x.S.length, .func (.func 75) #[OB] #[]] 138) = w6 at HA ⊢
      obtain ⟨B6, hB6⟩ : ∃ B, wr.heap.size = B := ⟨_, rfl⟩
      rw [hB6] at HA ⊢
      have q0 := HA.out.2.cell 0 rfl
      go_wp2
      go_loopw [59] (fun i w7 => ∃ t : Nat, t ≤ x.S.length ∧ i = .int .i64 t ∧ Hid (VR w G x.C.length x.S.length x.R.length x.Q.length OB ⟨.slice pd x.D.length cd, .slice pc x.C.length cc, .slice pm x.M.length cm, .slice p2 x.R.length c2, .slice p3 x.Q.length c3, .slice p4 x.S.length c4⟩ x A w7 ∧ RwAt w7 B6 138 #[.int .i64 x.S.length, .func (.func 75) #[OB] #[]] ∧ ∀ j, j < t → fN x 1 j = none)) (fun i _ => x.S.length - (intOf i).toNat)
      case atStart => exact ⟨0, Nat.zero_le _, rfl, hid ⟨HA.out.1, HA.out.2, fun j h => by omega⟩⟩
      case round =>
        obtain ⟨t, ht, rfl, HI⟩ := hrel
        have t0 : (0 : Int) ≤ (t : Int) := by omega
        by_cases hlt : t < x.S.length
        · have tl : (t : Int) < (x.S.length : Int) := by omega
          have r1 := HI.out.2.1.cell 1 rfl
          have Hc := hid (symbol_any HI.out.1.o HI.out.1.e HP.out.1 HP.out.2.1 t hlt _ rfl)
          obtain ⟨y, hy⟩ : ∃ y, symF x t = y := ⟨_, rfl⟩
          rw [hy] at Hc
          have Hy : Hid (fN x 1 t = y) := hid hy
          have HL := hid hlt
          clear hy hlt q0
          unfold OV.agg at Hc
          simp only at Hc
          rw [← HOB.out] at Hc
          cases y with
          | none =>
            go_wp2_with fail
            refine Hc.out.mono ?_
            rintro e w8 ⟨rfl, hg⟩
            have HI2 : Hid (_ ∧ _ ∧ _) := hid ⟨HI.out.1.kept0 hg, HI.out.2.1.kept0 hg, HI.out.2.2⟩
            clear hg Hc r1
            unfold evV
            go_wp2
            go_roundw
            case rel =>
              refine ⟨t + 1, by omega, by go_num, hid ⟨HI2.out.1, HI2.out.2.1, fun j hj => ?_⟩⟩
              by_cases e : j = t
              · rw [e]; exact Hy.out
              · exact HI2.out.2.2 j (by omega)
            case measure => simp [intOf]; omega
          | some c =>
            go_wp2_with fail
            refine Hc.out.mono ?_
            rintro e w8 ⟨rfl, hg⟩
            have HG8 := hid (grown_trans HI.out.1.g hg)
            clear hg Hc r1
            have hneq := fun W => run_err_neq_nil (A c) W
            unfold evV
            unfold errV at hneq ⊢
            go_wp2
            go_ret
            rw [from_some (show 1 < 5 by omega) HR.out.2 HL.out HI.out.2.2 Hy.out]
            exact ⟨_, rfl, ⟨w8.heap.size, rfl, RwAt.new w8 _ _⟩, grown_alloc HG8.out _⟩
        · obtain rfl : t = x.S.length := by omega
          clear hlt q0
          go_wp2
          go_roundw
          case rel =>
            refine ⟨2, by omega, by go_num, hid ⟨HI.out.1, fun k' hk' j hj => ?_⟩⟩
            by_cases e : k' = 1
            · subst e; exact HI.out.2.2 j hj
            · exact HR.out.2 k' (by omega) j hj
          case measure => simp [intOf]
    · have g0 := HR.out.1.row.cell 4 rfl
      have g1 := HR.out.1.row.cell 5 rfl
      have HA : Hid (VR w G x.C.length x.S.length x.R.length x.Q.length OB ⟨.slice pd x.D.length cd, .slice pc x.C.length cc, .slice pm x.M.length cm, .slice p2 x.R.length c2, .slice p3 x.Q.length c3, .slice p4 x.S.length c4⟩ x A (wr.alloc (.cells #[.int .i64 x.R.length, .func (.func 76) #[OB] #[]] 138)) ∧ RwAt (wr.alloc (.cells #[.int .i64 x.R.length, .func (.func 76) #[OB] #[]] 138)) wr.heap.size 138 #[.int .i64 x.R.length, .func (.func 76) #[OB] #[]]) := hid ⟨HR.out.1.kept0 (World.grownBy_alloc _ _ _), RwAt.new _ _ _⟩
      go_upto_region 9 with (first | (refine wpList_store_rw rfl 138 _ _ rfl rfl rfl (RwAt.new _ _ _) info_72 rfl (by simp [Value.oneCell']) ?_; rw [World.setRow_alloc_new]) | fail)
      clear g0 g1
      generalize wr.alloc (.cells #[.int .i64 x.R.length, .func (.func 76) #[OB] #[]] 138) = w6 at HA ⊢
      obtain ⟨B6, hB6⟩ : ∃ B, wr.heap.size = B := ⟨_, rfl⟩
      rw [hB6] at HA ⊢
      have q0 := HA.out.2.cell 0 rfl
      go_wp2
      go_loopw [59] (fun i w7 => ∃ t : Nat, t ≤ x.R.length ∧ i = .int .i64 t ∧ Hid (VR w G x.C.length x.S.length x.R.length x.Q.length OB ⟨.slice pd x.D.length cd, .slice pc x.C.length cc, .slice pm x.M.length cm, .slice p2 x.R.length c2, .slice p3 x.Q.length c3, .slice p4 x.S.length c4⟩ x A w7 ∧ RwAt w7 B6 138 #[.int .i64 x.R.length, .func (.func 76) #[OB] #[]] ∧ ∀ j, j < t → fN x 2 j = none)) (fun i _ => x.R.length - (intOf i).toNat)
      case atStart => exact ⟨0, Nat.zero_le _, rfl, hid ⟨HA.out.1, HA.out.2, fun j h => by omega⟩⟩
      case round =>
        obtain ⟨t, ht, rfl, HI⟩ := hrel
        have t0 : (0 : Int) ≤ (t : Int) := by omega
        by_cases hlt : t < x.R.length
        · have tl : (t : Int) < (x.R.length : Int) := by omega
          have r1 := HI.out.2.1.cell 1 rfl
          have Hc := hid (dataReloc_any HI.out.1.o HI.out.1.e HP.out.1 HP.out.2.1 t hlt _ rfl)
          obtain ⟨y, hy⟩ : ∃ y, dataF x t = y := ⟨_, rfl⟩
          rw [hy] at Hc
          have Hy : Hid (fN x 2 t = y) := hid hy
          have HL := hid hlt
          clear hy hlt q0
          unfold OV.agg at Hc
          simp only at Hc
          rw [← HOB.out] at Hc
          cases y with
          | none =>
            go_wp2_with fail
            refine Hc.out.mono ?_
            rintro e w8 ⟨rfl, hg⟩
            have HI2 : Hid (_ ∧ _ ∧ _) := hid ⟨HI.out.1.kept0 hg, HI.out.2.1.kept0 hg, HI.out.2.2⟩
            clear hg Hc r1
            unfold evV
            go_wp2
            go_roundw
            case rel =>
              refine ⟨t + 1, by omega, by go_num, hid ⟨HI2.out.1, HI2.out.2.1, fun j hj => ?_⟩⟩
              by_cases e : j = t
              · rw [e]; exact Hy.out
              · exact HI2.out.2.2 j (by omega)
            case measure => simp [intOf]; omega
          | some c =>
            go_wp2_with fail
            refine Hc.out.mono ?_
            rintro e w8 ⟨rfl, hg⟩
            have HG8 := hid (grown_trans HI.out.1.g hg)
            clear hg Hc r1
            have hneq := fun W => run_err_neq_nil (A c) W
            unfold evV
            unfold errV at hneq ⊢
            go_wp2
            go_ret
            rw [from_some (show 2 < 5 by omega) HR.out.2 HL.out HI.out.2.2 Hy.out]
            exact ⟨_, rfl, ⟨w8.heap.size, rfl, RwAt.new w8 _ _⟩, grown_alloc HG8.out _⟩
        · obtain rfl : t = x.R.length := by omega
          clear hlt q0
          go_wp2
          go_roundw
          case rel =>
            refine ⟨3, by omega, by go_num, hid ⟨HI.out.1, fun k' hk' j hj => ?_⟩⟩
            by_cases e : k' = 2
            · subst e; exact HI.out.2.2 j hj
            · exact HR.out.2 k' (by omega) j hj
          case measure => simp [intOf]
    · have g0 := HR.out.1.row.cell 6 rfl
      have g1 := HR.out.1.row.cell 7 rfl
      have HA : Hid (VR w G x.C.length x.S.length x.R.length x.Q.length OB ⟨.slice pd x.D.length cd, .slice pc x.C.length cc, .slice pm x.M.length cm, .slice p2 x.R.length c2, .slice p3 x.Q.length c3, .slice p4 x.S.length c4⟩ x A (wr.alloc (.cells #[.int .i64 x.Q.length, .func (.func 77) #[OB] #[]] 138)) ∧ RwAt (wr.alloc (.cells #[.int .i64 x.Q.length, .func (.func 77) #[OB] #[]] 138)) wr.heap.size 138 #[.int .i64 x.Q.length, .func (.func 77) #[OB] #[]]) := hid ⟨HR.out.1.kept0 (World.grownBy_alloc _ _ _), RwAt.new _ _ _⟩
      go_upto_region 9 with (first | (refine wpList_store_rw rfl 138 _ _ rfl rfl rfl (RwAt.new _ _ _) info_72 rfl (by simp [Value.oneCell']) ?_; rw [World.setRow_alloc_new]) | fail)
      clear g0 g1
      generalize wr.alloc (.cells #[.int .i64 x.Q.length, .func (.func 77) #[OB] #[]] 138) = w6 at HA ⊢
      obtain ⟨B6, hB6⟩ : ∃ B, wr.heap.size = B := ⟨_, rfl⟩
      rw [hB6] at HA ⊢
      have q0 := HA.out.2.cell 0 rfl
      go_wp2
      go_loopw [59] (fun i w7 => ∃ t : Nat, t ≤ x.Q.length ∧ i = .int .i64 t ∧ Hid (VR w G x.C.length x.S.length x.R.length x.Q.length OB ⟨.slice pd x.D.length cd, .slice pc x.C.length cc, .slice pm x.M.length cm, .slice p2 x.R.length c2, .slice p3 x.Q.length c3, .slice p4 x.S.length c4⟩ x A w7 ∧ RwAt w7 B6 138 #[.int .i64 x.Q.length, .func (.func 77) #[OB] #[]] ∧ ∀ j, j < t → fN x 3 j = none)) (fun i _ => x.Q.length - (intOf i).toNat)
      case atStart => exact ⟨0, Nat.zero_le _, rfl, hid ⟨HA.out.1, HA.out.2, fun j h => by omega⟩⟩
      case round =>
        obtain ⟨t, ht, rfl, HI⟩ := hrel
        have t0 : (0 : Int) ≤ (t : Int) := by omega
        by_cases hlt : t < x.Q.length
        · have tl : (t : Int) < (x.Q.length : Int) := by omega
          have r1 := HI.out.2.1.cell 1 rfl
          have Hc := hid (codeReloc_any HI.out.1.o HI.out.1.e HP.out.1 HP.out.2.1 t hlt _ rfl)
          obtain ⟨y, hy⟩ : ∃ y, codeF x t = y := ⟨_, rfl⟩
          rw [hy] at Hc
          have Hy : Hid (fN x 3 t = y) := hid hy
          have HL := hid hlt
          clear hy hlt q0
          unfold OV.agg at Hc
          simp only at Hc
          rw [← HOB.out] at Hc
          cases y with
          | none =>
            go_wp2_with fail
            refine Hc.out.mono ?_
            rintro e w8 ⟨rfl, hg⟩
            have HI2 : Hid (_ ∧ _ ∧ _) := hid ⟨HI.out.1.kept0 hg, HI.out.2.1.kept0 hg, HI.out.2.2⟩
            clear hg Hc r1
            unfold evV
            go_wp2
            go_roundw
            case rel =>
              refine ⟨t + 1, by omega, by go_num, hid ⟨HI2.out.1, HI2.out.2.1, fun j hj => ?_⟩⟩
              by_cases e : j = t
              · rw [e]; exact Hy.out
              · exact HI2.out.2.2 j (by omega)
            case measure => simp [intOf]; omega
          | some c =>
            go_wp2_with fail
            refine Hc.out.mono ?_
            rintro e w8 ⟨rfl, hg⟩
            have HG8 := hid (grown_trans HI.out.1.g hg)
            clear hg Hc r1
            have hneq := fun W => run_err_neq_nil (A c) W
            unfold evV
            unfold errV at hneq ⊢
            go_wp2
            go_ret
            rw [from_some (show 3 < 5 by omega) HR.out.2 HL.out HI.out.2.2 Hy.out]
            exact ⟨_, rfl, ⟨w8.heap.size, rfl, RwAt.new w8 _ _⟩, grown_alloc HG8.out _⟩
        · obtain rfl : t = x.Q.length := by omega
          clear hlt q0
          go_wp2
          go_roundw
          case rel =>
            refine ⟨4, by omega, by go_num, hid ⟨HI.out.1, fun k' hk' j hj => ?_⟩⟩
            by_cases e : k' = 3
            · subst e; exact HI.out.2.2 j hj
            · exact HR.out.2 k' (by omega) j hj
          case measure => simp [intOf]
    · have g0 := HR.out.1.row.cell 8 rfl
      have g1 := HR.out.1.row.cell 9 rfl
      have HA : Hid (VR w G x.C.length x.S.length x.R.length x.Q.length OB ⟨.slice pd x.D.length cd, .slice pc x.C.length cc, .slice pm x.M.length cm, .slice p2 x.R.length c2, .slice p3 x.Q.length c3, .slice p4 x.S.length c4⟩ x A (wr.alloc (.cells #[.int .i64 x.C.length, .func (.func 78) #[OB] #[]] 138)) ∧ RwAt (wr.alloc (.cells #[.int .i64 x.C.length, .func (.func 78) #[OB] #[]] 138)) wr.heap.size 138 #[.int .i64 x.C.length, .func (.func 78) #[OB] #[]]) := hid ⟨HR.out.1.kept0 (World.grownBy_alloc _ _ _), RwAt.new _ _ _⟩
      go_upto_region 9 with (first | (refine wpList_store_rw rfl 138 _ _ rfl rfl rfl (RwAt.new _ _ _) info_72 rfl (by simp [Value.oneCell']) ?_; rw [World.setRow_alloc_new]) | fail)
      clear g0 g1
      generalize wr.alloc (.cells #[.int .i64 x.C.length, .func (.func 78) #[OB] #[]] 138) = w6 at HA ⊢
      obtain ⟨B6, hB6⟩ : ∃ B, wr.heap.size = B := ⟨_, rfl⟩
      rw [hB6] at HA ⊢
      have q0 := HA.out.2.cell 0 rfl
      go_wp2
      go_loopw [59] (fun i w7 => ∃ t : Nat, t ≤ x.C.length ∧ i = .int .i64 t ∧ Hid (VR w G x.C.length x.S.length x.R.length x.Q.length OB ⟨.slice pd x.D.length cd, .slice pc x.C.length cc, .slice pm x.M.length cm, .slice p2 x.R.length c2, .slice p3 x.Q.length c3, .slice p4 x.S.length c4⟩ x A w7 ∧ RwAt w7 B6 138 #[.int .i64 x.C.length, .func (.func 78) #[OB] #[]] ∧ ∀ j, j < t → fN x 4 j = none)) (fun i _ => x.C.length - (intOf i).toNat)
      case atStart => exact ⟨0, Nat.zero_le _, rfl, hid ⟨HA.out.1, HA.out.2, fun j h => by omega⟩⟩
      case round =>
        obtain ⟨t, ht, rfl, HI⟩ := hrel
        have t0 : (0 : Int) ≤ (t : Int) := by omega
        by_cases hlt : t < x.C.length
        · have tl : (t : Int) < (x.C.length : Int) := by omega
          have r1 := HI.out.2.1.cell 1 rfl
          have Hc := hid (unrep_any HI.out.1.o HI.out.1.e HP.out.1 HP.out.2.1 HP.out.2.2 (rising_of (HR.out.2 3 (by omega))) t hlt _ rfl)
          obtain ⟨y, hy⟩ : ∃ y, unrF x t = y := ⟨_, rfl⟩
          rw [hy] at Hc
          have Hy : Hid (fN x 4 t = y) := hid hy
          have HL := hid hlt
          clear hy hlt q0
          unfold OV.agg at Hc
          simp only at Hc
          rw [← HOB.out] at Hc
          cases y with
          | none =>
            go_wp2_with fail
            refine Hc.out.mono ?_
            rintro e w8 ⟨rfl, hg⟩
            have HI2 : Hid (_ ∧ _ ∧ _) := hid ⟨HI.out.1.kept0 hg, HI.out.2.1.kept0 hg, HI.out.2.2⟩
            clear hg Hc r1
            unfold evV
            go_wp2
            go_roundw
            case rel =>
              refine ⟨t + 1, by omega, by go_num, hid ⟨HI2.out.1, HI2.out.2.1, fun j hj => ?_⟩⟩
              by_cases e : j = t
              · rw [e]; exact Hy.out
              · exact HI2.out.2.2 j (by omega)
            case measure => simp [intOf]; omega
          | some c =>
            go_wp2_with fail
            refine Hc.out.mono ?_
            rintro e w8 ⟨rfl, hg⟩
            have HG8 := hid (grown_trans HI.out.1.g hg)
            clear hg Hc r1
            have hneq := fun W => run_err_neq_nil (A c) W
            unfold evV
            unfold errV at hneq ⊢
            go_wp2
            go_ret
            rw [from_some (show 4 < 5 by omega) HR.out.2 HL.out HI.out.2.2 Hy.out]
            exact ⟨_, rfl, ⟨w8.heap.size, rfl, RwAt.new w8 _ _⟩, grown_alloc HG8.out _⟩
        · obtain rfl : t = x.C.length := by omega
          clear hlt q0
          go_wp2
          go_roundw
          case rel =>
            refine ⟨5, by omega, by go_num, hid ⟨HI.out.1, fun k' hk' j hj => ?_⟩⟩
            by_cases e : k' = 4
            · subst e; exact HI.out.2.2 j hj
            · exact HR.out.2 k' (by omega) j hj
          case measure => simp [intOf]
    · go_wp2
      go_ret
      rw [from_none HR.out.2]
      exact ⟨_, rfl, rfl, HR.out.1.g⟩
theorem valid_any (h : OAt w V x) (he : ErrC w A) (hf : OFit x) : Calls Tryz.prog 42 #[V.agg] w (SaysAt w A (validP x)) := by
  cases hm : manyB x
  · by_cases hl : x.M.length = x.C.length
    · exact valid_scan h he hf hm hl
    · exact valid_map h he hm hl
  · exact valid_many h he hm
end
end Go.Proofs.YtgahbpfmiibpeaaGreatDoor
