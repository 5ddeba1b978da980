/- How many there are, and whether these are too many (package obj): contracts. (Made by gobj12.py.) -/
import Derived.Test.YtnpnafidhcnkhaaGreatDoorYObj5
import Derived.Test.YtnpnafidhcnkhaaGreatDoorYBase
import Derived.Lib.AppendStr
import Derived.Test.YtnpnafidhcnkhaaGreatDoorYIsa2
import Derived.BigQuiet
import Derived.Deep.QuietTactic
import Derived.Laws.StructEq
import Derived.Laws.MakeOwn
import Derived.Lib.SliceRun
import Derived.Deep.RegionHeld3
namespace Go.Proofs.YtnpnafidhcnkhaaGreatDoor
open Go.RowKit
abbrev five (a b c d e : Int) : Value := .agg #[.int .i64 a, .int .i64 b, .int .i64 c, .int .i64 d, .int .i64 e]
def lenV (x : PO) : Value := five x.D.length x.C.length x.R.length x.Q.length x.S.length
section
variable {w : World} {V : OV} {x : PO}
theorem sizes_any (h : OAt w V x) : Calls Tryz.prog 92 #[V.agg] w fun e w' => e = .returned (lenV x) ∧ w.grownBy w' none := by
  obtain ⟨d, c, m, r, q, sv⟩ := V
  obtain ⟨p0, c0, h0⟩ := h.d.len'
  obtain ⟨p1, c1, h1⟩ := h.c.len'
  obtain ⟨p2, c2, h2⟩ := h.r.len
  obtain ⟨p3, c3, h3⟩ := h.q.len
  obtain ⟨p4, c4, h4⟩ := h.s.len
  obtain rfl : d = _ := h0
  obtain rfl : c = _ := h1
  obtain rfl : r = _ := h2
  obtain rfl : q = _ := h3
  obtain rfl : sv = _ := h4
  clear h
  unfold lenV
  have HG := hid (grown_alloc (World.grownBy_alloc w (.cells #[.slice p0 x.D.length c0, .slice p1 x.C.length c1, m, .slice p2 x.R.length c2, .slice p3 x.Q.length c3, .slice p4 x.S.length c4] 41) none) (.cells #[.int .i64 0, .int .i64 0, .int .i64 0, .int .i64 0, .int .i64 0] 174))
  have HX := hid ((RwAt.new w 41 #[.slice p0 x.D.length c0, .slice p1 x.C.length c1, m, .slice p2 x.R.length c2, .slice p3 x.Q.length c3, .slice p4 x.S.length c4]).alloc (.cells #[.int .i64 0, .int .i64 0, .int .i64 0, .int .i64 0, .int .i64 0] 174))
  have HY := hid (RwAt.new2 w (.cells #[.slice p0 x.D.length c0, .slice p1 x.C.length c1, m, .slice p2 x.R.length c2, .slice p3 x.Q.length c3, .slice p4 x.S.length c4] 41) 174 #[.int .i64 0, .int .i64 0, .int .i64 0, .int .i64 0, .int .i64 0])
  go_enter Tryz.func92, Tryz.ntmps92
  go_upto_region 1 with (fail)
  generalize (w.alloc (.cells #[.slice p0 x.D.length c0, .slice p1 x.C.length c1, m, .slice p2 x.R.length c2, .slice p3 x.Q.length c3, .slice p4 x.S.length c4] 41)).alloc (.cells #[.int .i64 0, .int .i64 0, .int .i64 0, .int .i64 0, .int .i64 0] 174) = w1 at HG HX HY ⊢
  obtain ⟨B, hB⟩ : ∃ B, w.heap.size + 1 = B := ⟨_, rfl⟩
  have HB : Hid (w.heap.size ≤ B) := hid (by omega)
  rw [hB] at HY ⊢
  have e0 := HX.out.cell 0 rfl
  have e1 := HX.out.cell 1 rfl
  have e3 := HX.out.cell 3 rfl
  have e4 := HX.out.cell 4 rfl
  have e5 := HX.out.cell 5 rfl
  have E1 := hid (HY.out.row #[.int .i64 x.D.length, .int .i64 x.C.length, .int .i64 x.R.length, .int .i64 x.Q.length, .int .i64 x.S.length])
  have EG := hid (grown_setRow HG.out HB.out #[.int .i64 x.D.length, .int .i64 x.C.length, .int .i64 x.R.length, .int .i64 x.Q.length, .int .i64 x.S.length])
  clear hB
  go_wp2_with (first
    | (refine wpList_store_rw rfl 174 _ _ rfl rfl rfl HY.out (by kernel_rfl) rfl (by simp [Value.oneCell']) ?_)
    | fail)
  refine bodyPost_ret (results_cell_row Tryz.results92 _ _ B _ _ _ _ rfl E1.out.blk Tryz.underlying174 rfl (by kernel_rfl)) rfl ?_
  exact ⟨rfl, EG.out⟩
end
section
variable {ops : Array Oper} {rest : List Oper} {o : Oper} {A : Act} {w : World} {Q : Exit → Act → World → Prop}
/-- an operation that only yields a value, into this slot -/
theorem wpList_yield (k : Nat) (hgd : o.guard = none) (_hk : o.dst = some k) (v : Value) (hr : (execOp A.eval o).run Tryz.prog w = .ok (.value v) w) (h : wpList Tryz.prog ops Q rest (A.put o.dst v) w) : wpList Tryz.prog ops Q (o :: rest) A w := by
  refine wpList_plain hgd fun K hK => ?_
  unfold Oper.wp
  simp [hr, Oper.upon]
  exact hK _ _ h
end
set_option maxRecDepth 100000 in
set_option maxHeartbeats 2000000 in
theorem many_any (a b c d e : Int) (w : World) (z : Bool) (hz : decide (2048 < a ∨ 2048 < b ∨ 1024 < c ∨ 1024 < d ∨ 256 < e) = z) :
    Calls Tryz.prog 93 #[five a b c d e] w fun e w' => e = .returned (.bool z) ∧ w.grownBy w' none := by
  have Hz := hid hz
  have HG := hid (World.grownBy_alloc w (.cells #[.int .i64 a, .int .i64 b, .int .i64 c, .int .i64 d, .int .i64 e] 174) none)
  have HX := hid (RwAt.new w 174 #[.int .i64 a, .int .i64 b, .int .i64 c, .int .i64 d, .int .i64 e])
  clear hz
  go_enter Tryz.func93, Tryz.ntmps93
  go_upto_region 1 with (fail)
  generalize w.alloc (.cells #[.int .i64 a, .int .i64 b, .int .i64 c, .int .i64 d, .int .i64 e] 174) = w1 at HG HX ⊢
  have e0 := HX.out.cell 0 rfl
  have e1 := HX.out.cell 1 rfl
  have e2 := HX.out.cell 2 rfl
  have e3 := HX.out.cell 3 rfl
  have e4 := HX.out.cell 4 rfl
  go_wp2
  go_loopw [6] (fun i wr => ∃ k : Nat, k ≤ 5 ∧ i = .int .i64 k ∧ wr = w1 ∧ Hid ((0 < k → a ≤ 2048) ∧ (1 < k → b ≤ 2048) ∧ (2 < k → c ≤ 1024) ∧ (3 < k → d ≤ 1024) ∧ (4 < k → e ≤ 256))) (fun i _ => 5 - (intOf i).toNat)
  case atStart => exact ⟨0, Nat.zero_le _, rfl, rfl, hid ⟨by omega, by omega, by omega, by omega, by omega⟩⟩
  case round =>
    obtain ⟨k, hk, rfl, rfl, HR⟩ := hrel
    rcases (show k = 0 ∨ k = 1 ∨ k = 2 ∨ k = 3 ∨ k = 4 ∨ k = 5 by omega) with rfl | rfl | rfl | rfl | rfl | rfl
    · by_cases hb : a > 2048
      · have HB := hid hb
        go_wp2_with (first | (refine wpList_yield 9 rfl rfl (.int .i64 2048) (by kernel_rfl) ?_) | fail)
        go_ret
        refine ⟨ret_b ?_, HG.out⟩
        rw [← Hz.out, eq_comm, decide_eq_true_eq]
        have := HB.out
        omega
      · have HB := hid hb
        go_wp2_with (first | (refine wpList_yield 9 rfl rfl (.int .i64 2048) (by kernel_rfl) ?_) | fail)
        go_roundw
        case rel =>
          refine ⟨1, by omega, by go_num, by first | rfl | trivial, hid ?_⟩
          have h1 := HB.out
          have h2 := HR.out
          omega
        case measure => simp [intOf]
    · by_cases hb : b > 2048
      · have HB := hid hb
        go_wp2_with (first | (refine wpList_yield 9 rfl rfl (.int .i64 2048) (by kernel_rfl) ?_) | fail)
        go_ret
        refine ⟨ret_b ?_, HG.out⟩
        rw [← Hz.out, eq_comm, decide_eq_true_eq]
        have := HB.out
        omega
      · have HB := hid hb
        go_wp2_with (first | (refine wpList_yield 9 rfl rfl (.int .i64 2048) (by kernel_rfl) ?_) | fail)
        go_roundw
        case rel =>
          refine ⟨2, by omega, by go_num, by first | rfl | trivial, hid ?_⟩
          have h1 := HB.out
          have h2 := HR.out
          omega
        case measure => simp [intOf]
    · by_cases hb : c > 1024
      · have HB := hid hb
        go_wp2_with (first | (refine wpList_yield 9 rfl rfl (.int .i64 1024) (by kernel_rfl) ?_) | fail)
        go_ret
        refine ⟨ret_b ?_, HG.out⟩
        rw [← Hz.out, eq_comm, decide_eq_true_eq]
        have := HB.out
        omega
      · have HB := hid hb
        go_wp2_with (first | (refine wpList_yield 9 rfl rfl (.int .i64 1024) (by kernel_rfl) ?_) | fail)
        go_roundw
        case rel =>
          refine ⟨3, by omega, by go_num, by first | rfl | trivial, hid ?_⟩
          have h1 := HB.out
          have h2 := HR.out
          omega
        case measure => simp [intOf]
    · by_cases hb : d > 1024
      · have HB := hid hb
        go_wp2_with (first | (refine wpList_yield 9 rfl rfl (.int .i64 1024) (by kernel_rfl) ?_) | fail)
        go_ret
        refine ⟨ret_b ?_, HG.out⟩
        rw [← Hz.out, eq_comm, decide_eq_true_eq]
        have := HB.out
        omega
      · have HB := hid hb
        go_wp2_with (first | (refine wpList_yield 9 rfl rfl (.int .i64 1024) (by kernel_rfl) ?_) | fail)
        go_roundw
        case rel =>
          refine ⟨4, by omega, by go_num, by first | rfl | trivial, hid ?_⟩
          have h1 := HB.out
          have h2 := HR.out
          omega
        case measure => simp [intOf]
    · by_cases hb : e > 256
      · have HB := hid hb
        go_wp2_with (first | (refine wpList_yield 9 rfl rfl (.int .i64 256) (by kernel_rfl) ?_) | fail)
        go_ret
        refine ⟨ret_b ?_, HG.out⟩
        rw [← Hz.out, eq_comm, decide_eq_true_eq]
        have := HB.out
        omega
      · have HB := hid hb
        go_wp2_with (first | (refine wpList_yield 9 rfl rfl (.int .i64 256) (by kernel_rfl) ?_) | fail)
        go_roundw
        case rel =>
          refine ⟨5, by omega, by go_num, by first | rfl | trivial, hid ?_⟩
          have h1 := HB.out
          have h2 := HR.out
          omega
        case measure => simp [intOf]
    · go_wp2
      go_ret
      refine ⟨ret_b ?_, HG.out⟩
      rw [← Hz.out, eq_comm, decide_eq_false_iff_not]
      have := HR.out
      omega
end Go.Proofs.YtnpnafidhcnkhaaGreatDoor
namespace Go.Proofs.YtnpnafidhcnkhaaGreatDoor
open Go.RowKit
theorem run_err_neq_nil (a : Addr) (w : World) : (binOp .neq 47 (errV a) .nilIface).run Tryz.prog w = .ok (.bool true) w := by
  have h : ∀ d : Nat, (Op.equalIn (d + 1) 47 (errV a) .nilIface).run Tryz.prog w = .ok false w := fun d => by simp [errV, Op.equalIn, run_underlying Tryz.underlying47]
  simp only [binOp]
  simp [Op.equal, Op.maxDepth, h 9999]
theorem info_72 : (Tryz.prog.info? 178).map (·.size) = some 2 := by kernel_rfl
abbrev atV (B : Nat) : Value := .iface 89 (.pointer (some ⟨B, 0, none⟩))
/-- a value that says this -/
def FltAt (A : Nat → Addr) (w : World) (v : Value) : Fl → Prop
  | none => v = .nilIface
  | some (c, none) => v = errV (A c)
  | some (c, some p) => ∃ B, v = atV B ∧ RwAt w B 91 #[.int .i64 p, errV (A c)]
theorem FltAt.kept0 {A : Nat → Addr} {w w1 : World} {v : Value} {y : Fl} (h : FltAt A w v y) (hg : w.grownBy w1 none) : FltAt A w1 v y := by
  match y, h with
  | none, h => exact h
  | some (c, none), h => exact h
  | some (c, some p), ⟨B, hv, hb⟩ => exact ⟨B, hv, hb.kept0 hg⟩
def SaysAt (w : World) (A : Nat → Addr) (y : Fl) (e : Ending) (w' : World) : Prop := ∃ v, e = .returned v ∧ FltAt A w' v y ∧ w.grownBy w' none
def fN (x : PO) (k : Nat) : Nat → Option Nat := if k = 0 then wordF x else if k = 1 then symF x else if k = 2 then dataF x else if k = 3 then codeF x else unrF x
def lN (x : PO) (k : Nat) : Nat := if k = 0 then x.C.length else if k = 1 then x.S.length else if k = 2 then x.R.length else if k = 3 then x.Q.length else x.C.length
/-- from the k-th of the five on -/
def fromF (x : PO) : Nat → Fl
  | 0 => none
  | n + 1 => scanF (fN x (4 - n)) (lN x (4 - n)) (fromF x n)
theorem from_none {x : PO} (h : ∀ k, k < 5 → ∀ j, j < lN x k → fN x k j = none) : fromF x 5 = none := by
  have key : ∀ n, n ≤ 5 → fromF x n = none := by
    intro n
    induction n with
    | zero => intro _; rfl
    | succ n ih => intro hn; rw [fromF, scanF_none (h (4 - n) (by omega)), ih (by omega)]
  exact key 5 (Nat.le_refl _)
theorem from_some {x : PO} {k t c : Nat} (hk : k < 5) (h : ∀ k', k' < k → ∀ j, j < lN x k' → fN x k' j = none) (ht : t < lN x k) (hj : ∀ j, j < t → fN x k j = none) (hc : fN x k t = some c) : fromF x 5 = some (c, some t) := by
  have key : ∀ n, n ≤ 5 → 5 - n ≤ k → fromF x n = some (c, some t) := by
    intro n
    induction n with
    | zero => intro _ _; omega
    | succ n ih =>
      intro hn hle
      by_cases e : 4 - n = k
      · rw [fromF, e, scanF_some hc hj ht]
      · rw [fromF, scanF_none (h (4 - n) (by omega)), ih (by omega) (by omega)]
  exact key 5 (Nat.le_refl _) (by omega)
theorem valid_from {x : PO} (h : manyB x = false) (hl : x.M.length = x.C.length) : validP x = fromF x 5 := by
  unfold validP
  rw [if_neg (by simp [h]), if_neg (by simp [hl])]
  rfl
theorem rising_of {x : PO} (h : ∀ k, k < x.Q.length → codeF x k = none) : Rising x.Q := by
  have step : ∀ k, k + 1 < x.Q.length → (rlN x.Q k).a < (rlN x.Q (k + 1)).a := by
    intro k hk
    have := h (k + 1) hk
    unfold codeF at this
    have hi : inB x x.Q (k + 1) x.C.length = true := by
      cases hb : inB x x.Q (k + 1) x.C.length
      · rw [if_pos (.inl hb)] at this; cases this
      · rfl
    unfold inB at hi
    have hi := of_decide_eq_true hi
    have h1 := hi.1
    simp only [Nat.add_sub_cancel] at h1
    omega
  intro i j hij
  induction j with
  | zero => omega
  | succ j ih =>
    intro hj
    by_cases e : i = j
    · subst e; exact step i hj
    · exact Int.lt_trans (ih (by omega) (by omega)) (step j hj)
section
variable {w : World} {V : OV} {x : PO} {A : Nat → Addr}
theorem valid_many (h : OAt w V x) (he : ErrC w A) (hm : manyB x = true) : Calls Tryz.prog 74 #[V.agg] w (SaysAt w A (validP x)) := by
  obtain ⟨d, c, m, r, q, sv⟩ := V
  have HX := hid (Bx.new h he 41 #[d, c, m, r, q, sv])
  have hm' : decide (2048 < (x.D.length : Int) ∨ 2048 < (x.C.length : Int) ∨ 1024 < (x.R.length : Int) ∨ 1024 < (x.Q.length : Int) ∨ 256 < (x.S.length : Int)) = true := by
    rw [decide_eq_true_eq]; unfold manyB at hm; have := of_decide_eq_true hm; omega
  have Hm := hid hm'
  have HV : Hid (validP x = some (3, none)) := hid (by unfold validP; rw [if_pos hm])
  rw [HV.out]
  clear h he hm hm'
  go_enter Tryz.func74, Tryz.ntmps74
  go_upto_region 1 with (fail)
  generalize w.alloc (.cells #[d, c, m, r, q, sv] 41) = w1 at HX ⊢
  go_wp2_with (first
    | (refine wpList_load_rw rfl 41 _ rfl rfl HX.out.box rfl Tryz.underlying41 info_object ?_)
    | fail)
  refine (sizes_any HX.out.o).mono ?_
  rintro e w2 ⟨rfl, hg⟩
  have HX2 := hid (HX.out.kept0 hg)
  clear hg HX
  go_wp2_with fail
  refine (many_any _ _ _ _ _ _ true Hm.out).mono ?_
  rintro e w3 ⟨rfl, hg⟩
  have HX3 := hid (HX2.out.kept0 hg)
  clear hg HX2
  have e3 := HX3.out.e.c3
  unfold errV at e3
  go_wp2
  go_ret
  exact ⟨_, rfl, rfl, HX3.out.g⟩
theorem valid_map (h : OAt w V x) (he : ErrC w A) (hm : manyB x = false) (hl : x.M.length ≠ x.C.length) : Calls Tryz.prog 74 #[V.agg] w (SaysAt w A (validP x)) := by
  obtain ⟨d, c, m, r, q, sv⟩ := V
  obtain ⟨pc, cc, hc⟩ := h.c.len'
  obtain rfl : c = _ := hc
  obtain ⟨pm, cm, hmm⟩ := h.m.len'
  obtain rfl : m = _ := hmm
  have HX := hid (Bx.new h he 41 #[d, .slice pc x.C.length cc, .slice pm x.M.length cm, r, q, sv])
  have hm' : decide (2048 < (x.D.length : Int) ∨ 2048 < (x.C.length : Int) ∨ 1024 < (x.R.length : Int) ∨ 1024 < (x.Q.length : Int) ∨ 256 < (x.S.length : Int)) = false := by
    rw [decide_eq_false_iff_not]; unfold manyB at hm; have := of_decide_eq_false hm; omega
  have Hm := hid hm'
  have HV : Hid (validP x = some (8, none)) := hid (by unfold validP; rw [if_neg (by simp [hm]), if_pos hl])
  have hne : ((x.M.length : Int) != (x.C.length : Int)) = true := by simp; omega
  rw [HV.out]
  clear h he hm hm' hl
  go_enter Tryz.func74, Tryz.ntmps74
  go_upto_region 1 with (fail)
  generalize w.alloc (.cells #[d, .slice pc x.C.length cc, .slice pm x.M.length cm, r, q, sv] 41) = w1 at HX ⊢
  go_wp2_with (first
    | (refine wpList_load_rw rfl 41 _ rfl rfl HX.out.box rfl Tryz.underlying41 info_object ?_)
    | fail)
  refine (sizes_any HX.out.o).mono ?_
  rintro e w2 ⟨rfl, hg⟩
  have HX2 := hid (HX.out.kept0 hg)
  clear hg HX
  go_wp2_with fail
  refine (many_any _ _ _ _ _ _ false Hm.out).mono ?_
  rintro e w3 ⟨rfl, hg⟩
  have HX3 := hid (HX2.out.kept0 hg)
  clear hg HX2
  have e8 := HX3.out.e.c8
  unfold errV at e8
  have f1 := HX3.out.box.cell 1 rfl
  have f2 := HX3.out.box.cell 2 rfl
  go_wp2
  go_ret
  exact ⟨_, rfl, rfl, HX3.out.g⟩
/-- what stands at the head of the rounds -/
structure VR (w0 : World) (G : Nat) (n0 n1 n2 n3 : Nat) (OB : Value) (V : OV) (x : PO) (A : Nat → Addr) (w : World) : Prop where
  row : RwAt w G 178 #[.int .i64 n0, .func (.func 94) #[OB] #[], .int .i64 n1, .func (.func 95) #[OB] #[], .int .i64 n2, .func (.func 96) #[OB] #[], .int .i64 n3, .func (.func 97) #[OB] #[], .int .i64 n0, .func (.func 98) #[OB] #[]]
  o : OAt w V x
  e : ErrC w A
  g : w0.grownBy w none
theorem VR.kept0 {w0 w w1 : World} {G n0 n1 n2 n3 : Nat} {OB : Value} (h : VR w0 G n0 n1 n2 n3 OB V x A w) (hg : w.grownBy w1 none) : VR w0 G n0 n1 n2 n3 OB V x A w1 := ⟨h.row.kept0 hg, h.o.kept0 hg, h.e.kept0 hg, grown_trans h.g hg⟩
set_option maxRecDepth 100000 in
set_option maxHeartbeats 4000000 in
theorem valid_scan (h : OAt w V x) (he : ErrC w A) (hf : OFit x) (hm : manyB x = false) (hl : x.M.length = x.C.length) : Calls Tryz.prog 74 #[V.agg] w (SaysAt w A (validP x)) := by
  rw [valid_from hm hl]
  obtain ⟨d, c, m, r, q, sv⟩ := V
  have hO := hid h
  obtain ⟨pd, cd, hd⟩ := h.d.len'
  obtain rfl : d = _ := hd
  obtain ⟨pc, cc, hc⟩ := h.c.len'
  obtain rfl : c = _ := hc
  obtain ⟨pm, cm, hmm⟩ := h.m.len'
  obtain rfl : m = _ := hmm
  obtain ⟨p2, c2, h2⟩ := h.r.len
  obtain ⟨p3, c3, h3⟩ := h.q.len
  obtain ⟨p4, c4, h4⟩ := h.s.len
  obtain rfl : r = _ := h2
  obtain rfl : q = _ := h3
  obtain rfl : sv = _ := h4
  have HX := hid (Bx.new h he 41 #[.slice pd x.D.length cd, .slice pc x.C.length cc, .slice pm x.M.length cm, .slice p2 x.R.length c2, .slice p3 x.Q.length c3, .slice p4 x.S.length c4])
  have hm' : decide (2048 < (x.D.length : Int) ∨ 2048 < (x.C.length : Int) ∨ 1024 < (x.R.length : Int) ∨ 1024 < (x.Q.length : Int) ∨ 256 < (x.S.length : Int)) = false := by
    rw [decide_eq_false_iff_not]; unfold manyB at hm; have := of_decide_eq_false hm; omega
  have Hm := hid hm'
  have hne : ((x.M.length : Int) != (x.C.length : Int)) = false := by simp; omega
  have hMl := of_decide_eq_false hm
  have HP := hid (And.intro hf (And.intro hl (show x.Q.length ≤ 1024 by omega)))
  clear h he hm hm' hl hO hf hMl
  go_enter Tryz.func74, Tryz.ntmps74
  go_upto_region 1 with (fail)
  generalize w.alloc (.cells #[.slice pd x.D.length cd, .slice pc x.C.length cc, .slice pm x.M.length cm, .slice p2 x.R.length c2, .slice p3 x.Q.length c3, .slice p4 x.S.length c4] 41) = w1 at HX ⊢
  go_wp2_with (first
    | (refine wpList_load_rw rfl 41 _ rfl rfl HX.out.box rfl Tryz.underlying41 info_object ?_)
    | fail)
  refine (sizes_any HX.out.o).mono ?_
  rintro e w2 ⟨rfl, hg⟩
  have HX2 := hid (HX.out.kept0 hg)
  clear hg HX
  go_wp2_with fail
  refine (many_any _ _ _ _ _ _ false Hm.out).mono ?_
  rintro e w3 ⟨rfl, hg⟩
  have HX3 := hid (HX2.out.kept0 hg)
  clear hg HX2
  have f1 := HX3.out.box.cell 1 rfl
  have f2 := HX3.out.box.cell 2 rfl
  go_upto_region 5 with (fail)
  go_upto_region 6 with (first
    | (refine wpList_load_rw rfl 41 _ rfl rfl HX3.out.box rfl Tryz.underlying41 info_object ?_)
    | (refine wpList_store_rw rfl 176 _ _ rfl rfl rfl (RwAt.new _ _ _) info_object' rfl (by simp [Value.oneCell']) ?_; rw [World.setRow_alloc_new])
    | fail)
  obtain ⟨B5, hB5⟩ : ∃ B, w3.heap.size = B := ⟨_, rfl⟩
  have HX5 := hid (HX3.out.alloc (.cells #[.slice pd x.D.length cd, .slice pc x.C.length cc, .slice pm x.M.length cm, .slice p2 x.R.length c2, .slice p3 x.Q.length c3, .slice p4 x.S.length c4] 176))
  have HZ := hid (RwAt.new w3 176 #[.slice pd x.D.length cd, .slice pc x.C.length cc, .slice pm x.M.length cm, .slice p2 x.R.length c2, .slice p3 x.Q.length c3, .slice p4 x.S.length c4])
  rw [hB5] at HZ ⊢
  clear HX3 f1 f2 hB5
  generalize w3.alloc (.cells #[.slice pd x.D.length cd, .slice pc x.C.length cc, .slice pm x.M.length cm, .slice p2 x.R.length c2, .slice p3 x.Q.length c3, .slice p4 x.S.length c4] 176) = w4 at HX5 HZ ⊢
  have f1 := HX5.out.box.cell 1 rfl
  have f3 := HX5.out.box.cell 3 rfl
  have f4 := HX5.out.box.cell 4 rfl
  have f5 := HX5.out.box.cell 5 rfl
  go_wp2_with (first
    | (refine wpList_load_rw rfl 176 _ rfl rfl HZ.out rfl Tryz.underlying176 info_object' ?_)
    | fail)
  obtain ⟨OB, HOB⟩ : ∃ OB, Hid (OB = Value.agg #[.slice pd x.D.length cd, .slice pc x.C.length cc, .slice pm x.M.length cm, .slice p2 x.R.length c2, .slice p3 x.Q.length c3, .slice p4 x.S.length c4]) := ⟨_, hid rfl⟩
  rw [← HOB.out]
  obtain ⟨N0, HN0⟩ : ∃ N, Hid (x.C.length = N) := ⟨_, hid rfl⟩
  obtain ⟨N1, HN1⟩ : ∃ N, Hid (x.S.length = N) := ⟨_, hid rfl⟩
  obtain ⟨N2, HN2⟩ : ∃ N, Hid (x.R.length = N) := ⟨_, hid rfl⟩
  obtain ⟨N3, HN3⟩ : ∃ N, Hid (x.Q.length = N) := ⟨_, hid rfl⟩
  have HV : Hid (VR w w4.heap.size x.C.length x.S.length x.R.length x.Q.length OB ⟨.slice pd x.D.length cd, .slice pc x.C.length cc, .slice pm x.M.length cm, .slice p2 x.R.length c2, .slice p3 x.Q.length c3, .slice p4 x.S.length c4⟩ x A (w4.alloc (.cells #[.int .i64 x.C.length, .func (.func 94) #[OB] #[], .int .i64 x.S.length, .func (.func 95) #[OB] #[], .int .i64 x.R.length, .func (.func 96) #[OB] #[], .int .i64 x.Q.length, .func (.func 97) #[OB] #[], .int .i64 x.C.length, .func (.func 98) #[OB] #[]] 178))) :=
    hid ⟨RwAt.new w4 _ _, (HX5.out.alloc _).o, (HX5.out.alloc _).e, (HX5.out.alloc _).g⟩
  clear HX5 HZ f1 f3 f4 f5 Hm hne
  generalize w4.alloc (.cells #[.int .i64 x.C.length, .func (.func 94) #[OB] #[], .int .i64 x.S.length, .func (.func 95) #[OB] #[], .int .i64 x.R.length, .func (.func 96) #[OB] #[], .int .i64 x.Q.length, .func (.func 97) #[OB] #[], .int .i64 x.C.length, .func (.func 98) #[OB] #[]] 178) = w5 at HV ⊢
  obtain ⟨G, hG⟩ : ∃ G, w4.heap.size = G := ⟨_, rfl⟩
  rw [hG] at HV ⊢
  clear hG
  have kC : (x.C.length : Int) ≤ 9223372036854775807 := by have := HP.out.1.l.2.1; unfold maxLen at this; omega
  have kS : (x.S.length : Int) ≤ 9223372036854775807 := by have := HP.out.1.l.2.2.2.2.2; unfold maxLen at this; omega
  have kR : (x.R.length : Int) ≤ 9223372036854775807 := by have := HP.out.1.l.2.2.2.1; unfold maxLen at this; omega
  have kQ : (x.Q.length : Int) ≤ 9223372036854775807 := by have := HP.out.1.l.2.2.2.2.1; unfold maxLen at this; omega
  go_loopw [53] (fun i wr => ∃ k : Nat, k ≤ 5 ∧ i = .int .i64 k ∧ Hid (VR w G x.C.length x.S.length x.R.length x.Q.length OB ⟨.slice pd x.D.length cd, .slice pc x.C.length cc, .slice pm x.M.length cm, .slice p2 x.R.length c2, .slice p3 x.Q.length c3, .slice p4 x.S.length c4⟩ x A wr ∧ ∀ k', k' < k → ∀ j, j < lN x k' → fN x k' j = none)) (fun i _ => 5 - (intOf i).toNat)
  case atStart => exact ⟨0, Nat.zero_le _, rfl, hid ⟨HV.out, fun k' h => by omega⟩⟩
  case round =>
    obtain ⟨k, hk, rfl, HR⟩ := hrel
    rcases (show k = 0 ∨ k = 1 ∨ k = 2 ∨ k = 3 ∨ k = 4 ∨ k = 5 by omega) with rfl | rfl | rfl | rfl | rfl | rfl
    · have g0 := HR.out.1.row.cell 0 rfl
      have g1 := HR.out.1.row.cell 1 rfl
      have HA : Hid (VR w G x.C.length x.S.length x.R.length x.Q.length OB ⟨.slice pd x.D.length cd, .slice pc x.C.length cc, .slice pm x.M.length cm, .slice p2 x.R.length c2, .slice p3 x.Q.length c3, .slice p4 x.S.length c4⟩ x A (wr.alloc (.cells #[.int .i64 x.C.length, .func (.func 94) #[OB] #[]] 178)) ∧ RwAt (wr.alloc (.cells #[.int .i64 x.C.length, .func (.func 94) #[OB] #[]] 178)) wr.heap.size 178 #[.int .i64 x.C.length, .func (.func 94) #[OB] #[]]) := hid ⟨HR.out.1.kept0 (World.grownBy_alloc _ _ _), RwAt.new _ _ _⟩
      go_upto_region 9 with (first | (refine wpList_store_rw rfl 178 _ _ rfl rfl rfl (RwAt.new _ _ _) info_72 rfl (by simp [Value.oneCell']) ?_; rw [World.setRow_alloc_new]) | fail)
      clear g0 g1
      generalize wr.alloc (.cells #[.int .i64 x.C.length, .func (.func 94) #[OB] #[]] 178) = w6 at HA ⊢
      obtain ⟨B6, hB6⟩ : ∃ B, wr.heap.size = B := ⟨_, rfl⟩
      rw [hB6] at HA ⊢
      have q0 := HA.out.2.cell 0 rfl
      go_wp2
      go_loopw [59] (fun i w7 => ∃ t : Nat, t ≤ x.C.length ∧ i = .int .i64 t ∧ Hid (VR w G x.C.length x.S.length x.R.length x.Q.length OB ⟨.slice pd x.D.length cd, .slice pc x.C.length cc, .slice pm x.M.length cm, .slice p2 x.R.length c2, .slice p3 x.Q.length c3, .slice p4 x.S.length c4⟩ x A w7 ∧ RwAt w7 B6 178 #[.int .i64 x.C.length, .func (.func 94) #[OB] #[]] ∧ ∀ j, j < t → fN x 0 j = none)) (fun i _ => x.C.length - (intOf i).toNat)
      case atStart => exact ⟨0, Nat.zero_le _, rfl, hid ⟨HA.out.1, HA.out.2, fun j h => by omega⟩⟩
      case round =>
        obtain ⟨t, ht, rfl, HI⟩ := hrel
        have t0 : (0 : Int) ≤ (t : Int) := by omega
        by_cases hlt : t < x.C.length
        · have tl : (t : Int) < (x.C.length : Int) := by omega
          have r1 := HI.out.2.1.cell 1 rfl
          have Hc := hid (word_any9 HI.out.1.o HI.out.1.e HP.out.1 HP.out.2.1 t hlt)
          obtain ⟨y, hy⟩ : ∃ y, wordF x t = y := ⟨_, rfl⟩
          rw [hy] at Hc
          have Hy : Hid (fN x 0 t = y) := hid hy
          have HL := hid hlt
          clear hy hlt q0
          unfold OV.agg at Hc
          simp only at Hc
          rw [← HOB.out] at Hc
          cases y with
          | none =>
            go_wp2_with fail
            refine Hc.out.mono ?_
            rintro e w8 ⟨rfl, hg⟩
            have HI2 : Hid (_ ∧ _ ∧ _) := hid ⟨HI.out.1.kept0 hg, HI.out.2.1.kept0 hg, HI.out.2.2⟩
            clear hg Hc r1
            unfold evV
            go_wp2
            go_roundw
            case rel =>
              refine ⟨t + 1, by omega, by go_num, hid ⟨HI2.out.1, HI2.out.2.1, fun j hj => ?_⟩⟩
              by_cases e : j = t
              · rw [e]; exact Hy.out
              · exact HI2.out.2.2 j (by omega)
            case measure => simp [intOf]; omega
          | some c =>
            go_wp2_with fail
            refine Hc.out.mono ?_
            rintro e w8 ⟨rfl, hg⟩
            have HG8 := hid (grown_trans HI.out.1.g hg)
            clear hg Hc r1
            have hneq := fun W => run_err_neq_nil (A c) W
            unfold evV
            unfold errV at hneq ⊢
            go_wp2
            go_ret
            rw [from_some (show 0 < 5 by omega) HR.out.2 HL.out HI.out.2.2 Hy.out]
            exact ⟨_, rfl, ⟨w8.heap.size, rfl, RwAt.new w8 _ _⟩, grown_alloc HG8.out _⟩
        · obtain rfl : t = x.C.length := by omega
          clear hlt q0
          go_wp2
          go_roundw
          case rel =>
            refine ⟨1, by omega, by go_num, hid ⟨HI.out.1, fun k' hk' j hj => ?_⟩⟩
            by_cases e : k' = 0
            · subst e; exact HI.out.2.2 j hj
            · exact HR.out.2 k' (by omega) j hj
          case measure => simp [intOf]
    · have g0 := HR.out.1.row.cell 2 rfl
      have g1 := HR.out.1.row.cell 3 rfl
      have HA : Hid (VR w G x.C.length x.S.length x.R.length x.Q.length OB ⟨.slice pd x.D.length cd, .slice pc x.C.length cc, .slice pm x.M.length cm, .slice p2 x.R.length c2, .slice p3 x.Q.length c3, .slice p4 x.S.length c4⟩ x A (wr.alloc (.cells #[.int .i64 x.S.length, .func (.func 95) #[OB] #[]] 178)) ∧ RwAt (wr.alloc (.cells #[.int .i64 x.S.length, .func (.func 95) #[OB] #[]] 178)) wr.heap.size 178 #[.int .i64 x.S.length, .func (.func 95) #[OB] #[]]) := hid ⟨HR.out.1.kept0 (World.grownBy_alloc _ _ _), RwAt.new _ _ _⟩
      go_upto_region 9 with (first | (refine wpList_store_rw rfl 178 _ _ rfl rfl rfl (RwAt.new _ _ _) info_72 rfl (by simp [Value.oneCell']) ?_; rw [World.setRow_alloc_new]) | fail)
      clear g0 g1
      generalize wr.alloc (.cells #[.int .i64 x.S.length, .func (.func 95) #[OB] #[]] 178) = w6 at HA ⊢
      obtain ⟨B6, hB6⟩ : ∃ B, wr.heap.size = B := ⟨_, rfl⟩
      rw [hB6] at HA ⊢
      have q0 := HA.out.2.cell 0 rfl
      go_wp2
      go_loopw [59] (fun i w7 => ∃ t : Nat, t ≤ x.S.length ∧ i = .int .i64 t ∧ Hid (VR w G x.C.length x.S.length x.R.length x.Q.length OB ⟨.slice pd x.D.length cd, .slice pc x.C.length cc, .slice pm x.M.length cm, .slice p2 x.R.length c2, .slice p3 x.Q.length c3, .slice p4 x.S.length c4⟩ x A w7 ∧ RwAt w7 B6 178 #[.int .i64 x.S.length, .func (.func 95) #[OB] #[]] ∧ ∀ j, j < t → fN x 1 j = none)) (fun i _ => x.S.length - (intOf i).toNat)
      case atStart => exact ⟨0, Nat.zero_le _, rfl, hid ⟨HA.out.1, HA.out.2, fun j h => by omega⟩⟩
      case round =>
        obtain ⟨t, ht, rfl, HI⟩ := hrel
        have t0 : (0 : Int) ≤ (t : Int) := by omega
        by_cases hlt : t < x.S.length
        · have tl : (t : Int) < (x.S.length : Int) := by omega
          have r1 := HI.out.2.1.cell 1 rfl
          have Hc := hid (symbol_any HI.out.1.o HI.out.1.e HP.out.1 HP.out.2.1 t hlt _ rfl)
          obtain ⟨y, hy⟩ : ∃ y, symF x t = y := ⟨_, rfl⟩
          rw [hy] at Hc
          have Hy : Hid (fN x 1 t = y) := hid hy
          have HL := hid hlt
          clear hy hlt q0
          unfold OV.agg at Hc
          simp only at Hc
          rw [← HOB.out] at Hc
          cases y with
          | none =>
            go_wp2_with fail
            refine Hc.out.mono ?_
            rintro e w8 ⟨rfl, hg⟩
            have HI2 : Hid (_ ∧ _ ∧ _) := hid ⟨HI.out.1.kept0 hg, HI.out.2.1.kept0 hg, HI.out.2.2⟩
            clear hg Hc r1
            unfold evV
            go_wp2
            go_roundw
            case rel =>
              refine ⟨t + 1, by omega, by go_num, hid ⟨HI2.out.1, HI2.out.2.1, fun j hj => ?_⟩⟩
              by_cases e : j = t
              · rw [e]; exact Hy.out
              · exact HI2.out.2.2 j (by omega)
            case measure => simp [intOf]; omega
          | some c =>
            go_wp2_with fail
            refine Hc.out.mono ?_
            rintro e w8 ⟨rfl, hg⟩
            have HG8 := hid (grown_trans HI.out.1.g hg)
            clear hg Hc r1
            have hneq := fun W => run_err_neq_nil (A c) W
            unfold evV
            unfold errV at hneq ⊢
            go_wp2
            go_ret
            rw [from_some (show 1 < 5 by omega) HR.out.2 HL.out HI.out.2.2 Hy.out]
            exact ⟨_, rfl, ⟨w8.heap.size, rfl, RwAt.new w8 _ _⟩, grown_alloc HG8.out _⟩
        · obtain rfl : t = x.S.length := by omega
          clear hlt q0
          go_wp2
          go_roundw
          case rel =>
            refine ⟨2, by omega, by go_num, hid ⟨HI.out.1, fun k' hk' j hj => ?_⟩⟩
            by_cases e : k' = 1
            · subst e; exact HI.out.2.2 j hj
            · exact HR.out.2 k' (by omega) j hj
          case measure => simp [intOf]
    · have g0 := HR.out.1.row.cell 4 rfl
      have g1 := HR.out.1.row.cell 5 rfl
      have HA : Hid (VR w G x.C.length x.S.length x.R.length x.Q.length OB ⟨.slice pd x.D.length cd, .slice pc x.C.length cc, .slice pm x.M.length cm, .slice p2 x.R.length c2, .slice p3 x.Q.length c3, .slice p4 x.S.length c4⟩ x A (wr.alloc (.cells #[.int .i64 x.R.length, .func (.func 96) #[OB] #[]] 178)) ∧ RwAt (wr.alloc (.cells #[.int .i64 x.R.length, .func (.func 96) #[OB] #[]] 178)) wr.heap.size 178 #[.int .i64 x.R.length, .func (.func 96) #[OB] #[]]) := hid ⟨HR.out.1.kept0 (World.grownBy_alloc _ _ _), RwAt.new _ _ _⟩
      go_upto_region 9 with (first | (refine wpList_store_rw rfl 178 _ _ rfl rfl rfl (RwAt.new _ _ _) info_72 rfl (by simp [Value.oneCell']) ?_; rw [World.setRow_alloc_new]) | fail)
      clear g0 g1
      generalize wr.alloc (.cells #[.int .i64 x.R.length, .func (.func 96) #[OB] #[]] 178) = w6 at HA ⊢
      obtain ⟨B6, hB6⟩ : ∃ B, wr.heap.size = B := ⟨_, rfl⟩
      rw [hB6] at HA ⊢
      have q0 := HA.out.2.cell 0 rfl
      go_wp2
      go_loopw [59] (fun i w7 => ∃ t : Nat, t ≤ x.R.length ∧ i = .int .i64 t ∧ Hid (VR w G x.C.length x.S.length x.R.length x.Q.length OB ⟨.slice pd x.D.length cd, .slice pc x.C.length cc, .slice pm x.M.length cm, .slice p2 x.R.length c2, .slice p3 x.Q.length c3, .slice p4 x.S.length c4⟩ x A w7 ∧ RwAt w7 B6 178 #[.int .i64 x.R.length, .func (.func 96) #[OB] #[]] ∧ ∀ j, j < t → fN x 2 j = none)) (fun i _ => x.R.length - (intOf i).toNat)
      case atStart => exact ⟨0, Nat.zero_le _, rfl, hid ⟨HA.out.1, HA.out.2, fun j h => by omega⟩⟩
      case round =>
        obtain ⟨t, ht, rfl, HI⟩ := hrel
        have t0 : (0 : Int) ≤ (t : Int) := by omega
        by_cases hlt : t < x.R.length
        · have tl : (t : Int) < (x.R.length : Int) := by omega
          have r1 := HI.out.2.1.cell 1 rfl
          have Hc := hid (dataReloc_any HI.out.1.o HI.out.1.e HP.out.1 HP.out.2.1 t hlt _ rfl)
          obtain ⟨y, hy⟩ : ∃ y, dataF x t = y := ⟨_, rfl⟩
          rw [hy] at Hc
          have Hy : Hid (fN x 2 t = y) := hid hy
          have HL := hid hlt
          clear hy hlt q0
          unfold OV.agg at Hc
          simp only at Hc
          rw [← HOB.out] at Hc
          cases y with
          | none =>
            go_wp2_with fail
            refine Hc.out.mono ?_
            rintro e w8 ⟨rfl, hg⟩
            have HI2 : Hid (_ ∧ _ ∧ _) := hid ⟨HI.out.1.kept0 hg, HI.out.2.1.kept0 hg, HI.out.2.2⟩
            clear hg Hc r1
            unfold evV
            go_wp2
            go_roundw
            case rel =>
              refine ⟨t + 1, by omega, by go_num, hid ⟨HI2.out.1, HI2.out.2.1, fun j hj => ?_⟩⟩
              by_cases e : j = t
              · rw [e]; exact Hy.out
              · exact HI2.out.2.2 j (by omega)
            case measure => simp [intOf]; omega
          | some c =>
            go_wp2_with fail
            refine Hc.out.mono ?_
            rintro e w8 ⟨rfl, hg⟩
            have HG8 := hid (grown_trans HI.out.1.g hg)
            clear hg Hc r1
            have hneq := fun W => run_err_neq_nil (A c) W
            unfold evV
            unfold errV at hneq ⊢
            go_wp2
            go_ret
            rw [from_some (show 2 < 5 by omega) HR.out.2 HL.out HI.out.2.2 Hy.out]
            exact ⟨_, rfl, ⟨w8.heap.size, rfl, RwAt.new w8 _ _⟩, grown_alloc HG8.out _⟩
        · obtain rfl : t = x.R.length := by omega
          clear hlt q0
          go_wp2
          go_roundw
          case rel =>
            refine ⟨3, by omega, by go_num, hid ⟨HI.out.1, fun k' hk' j hj => ?_⟩⟩
            by_cases e : k' = 2
            · subst e; exact HI.out.2.2 j hj
            · exact HR.out.2 k' (by omega) j hj
          case measure => simp [intOf]
    · have g0 := HR.out.1.row.cell 6 rfl
      have g1 := HR.out.1.row.cell 7 rfl
      have HA : Hid (VR w G x.C.length x.S.length x.R.length x.Q.length OB ⟨.slice pd x.D.length cd, .slice pc x.C.length cc, .slice pm x.M.length cm, .slice p2 x.R.length c2, .slice p3 x.Q.length c3, .slice p4 x.S.length c4⟩ x A (wr.alloc (.cells #[.int .i64 x.Q.length, .func (.func 97) #[OB] #[]] 178)) ∧ RwAt (wr.alloc (.cells #[.int .i64 x.Q.length, .func (.func 97) #[OB] #[]] 178)) wr.heap.size 178 #[.int .i64 x.Q.length, .func (.func 97) #[OB] #[]]) := hid ⟨HR.out.1.kept0 (World.grownBy_alloc _ _ _), RwAt.new _ _ _⟩
      go_upto_region 9 with (first | (refine wpList_store_rw rfl 178 _ _ rfl rfl rfl (RwAt.new _ _ _) info_72 rfl (by simp [Value.oneCell']) ?_; rw [World.setRow_alloc_new]) | fail)
      clear g0 g1
      generalize wr.alloc (.cells #[.int .i64 x.Q.length, .func (.func 97) #[OB] #[]] 178) = w6 at HA ⊢
      obtain ⟨B6, hB6⟩ : ∃ B, wr.heap.size = B := ⟨_, rfl⟩
      rw [hB6] at HA ⊢
      have q0 := HA.out.2.cell 0 rfl
      go_wp2
      go_loopw [59] (fun i w7 => ∃ t : Nat, t ≤ x.Q.length ∧ i = .int .i64 t ∧ Hid (VR w G x.C.length x.S.length x.R.length x.Q.length OB ⟨.slice pd x.D.length cd, .slice pc x.C.length cc, .slice pm x.M.length cm, .slice p2 x.R.length c2, .slice p3 x.Q.length c3, .slice p4 x.S.length c4⟩ x A w7 ∧ RwAt w7 B6 178 #[.int .i64 x.Q.length, .func (.func 97) #[OB] #[]] ∧ ∀ j, j < t → fN x 3 j = none)) (fun i _ => x.Q.length - (intOf i).toNat)
      case atStart => exact ⟨0, Nat.zero_le _, rfl, hid ⟨HA.out.1, HA.out.2, fun j h => by omega⟩⟩
      case round =>
        obtain ⟨t, ht, rfl, HI⟩ := hrel
        have t0 : (0 : Int) ≤ (t : Int) := by omega
        by_cases hlt : t < x.Q.length
        · have tl : (t : Int) < (x.Q.length : Int) := by omega
          have r1 := HI.out.2.1.cell 1 rfl
          have Hc := hid (codeReloc_any HI.out.1.o HI.out.1.e HP.out.1 HP.out.2.1 t hlt _ rfl)
          obtain ⟨y, hy⟩ : ∃ y, codeF x t = y := ⟨_, rfl⟩
          rw [hy] at Hc
          have Hy : Hid (fN x 3 t = y) := hid hy
          have HL := hid hlt
          clear hy hlt q0
          unfold OV.agg at Hc
          simp only at Hc
          rw [← HOB.out] at Hc
          cases y with
          | none =>
            go_wp2_with fail
            refine Hc.out.mono ?_
            rintro e w8 ⟨rfl, hg⟩
            have HI2 : Hid (_ ∧ _ ∧ _) := hid ⟨HI.out.1.kept0 hg, HI.out.2.1.kept0 hg, HI.out.2.2⟩
            clear hg Hc r1
            unfold evV
            go_wp2
            go_roundw
            case rel =>
              refine ⟨t + 1, by omega, by go_num, hid ⟨HI2.out.1, HI2.out.2.1, fun j hj => ?_⟩⟩
              by_cases e : j = t
              · rw [e]; exact Hy.out
              · exact HI2.out.2.2 j (by omega)
            case measure => simp [intOf]; omega
          | some c =>
            go_wp2_with fail
            refine Hc.out.mono ?_
            rintro e w8 ⟨rfl, hg⟩
            have HG8 := hid (grown_trans HI.out.1.g hg)
            clear hg Hc r1
            have hneq := fun W => run_err_neq_nil (A c) W
            unfold evV
            unfold errV at hneq ⊢
            go_wp2
            go_ret
            rw [from_some (show 3 < 5 by omega) HR.out.2 HL.out HI.out.2.2 Hy.out]
            exact ⟨_, rfl, ⟨w8.heap.size, rfl, RwAt.new w8 _ _⟩, grown_alloc HG8.out _⟩
        · obtain rfl : t = x.Q.length := by omega
          clear hlt q0
          go_wp2
          go_roundw
          case rel =>
            refine ⟨4, by omega, by go_num, hid ⟨HI.out.1, fun k' hk' j hj => ?_⟩⟩
            by_cases e : k' = 3
            · subst e; exact HI.out.2.2 j hj
            · exact HR.out.2 k' (by omega) j hj
          case measure => simp [intOf]
    · have g0 := HR.out.1.row.cell 8 rfl
      have g1 := HR.out.1.row.cell 9 rfl
      have HA : Hid (VR w G x.C.length x.S.length x.R.length x.Q.length OB ⟨.slice pd x.D.length cd, .slice pc x.C.length cc, .slice pm x.M.length cm, .slice p2 x.R.length c2, .slice p3 x.Q.length c3, .slice p4 x.S.length c4⟩ x A (wr.alloc (.cells #[.int .i64 x.C.length, .func (.func 98) #[OB] #[]] 178)) ∧ RwAt (wr.alloc (.cells #[.int .i64 x.C.length, .func (.func 98) #[OB] #[]] 178)) wr.heap.size 178 #[.int .i64 x.C.length, .func (.func 98) #[OB] #[]]) := hid ⟨HR.out.1.kept0 (World.grownBy_alloc _ _ _), RwAt.new _ _ _⟩
      go_upto_region 9 with (first | (refine wpList_store_rw rfl 178 _ _ rfl rfl rfl (RwAt.new _ _ _) info_72 rfl (by simp [Value.oneCell']) ?_; rw [World.setRow_alloc_new]) | fail)
      clear g0 g1
      generalize wr.alloc (.cells #[.int .i64 x.C.length, .func (.func 98) #[OB] #[]] 178) = w6 at HA ⊢
      obtain ⟨B6, hB6⟩ : ∃ B, wr.heap.size = B := ⟨_, rfl⟩
      rw [hB6] at HA ⊢
      have q0 := HA.out.2.cell 0 rfl
      go_wp2
      go_loopw [59] (fun i w7 => ∃ t : Nat, t ≤ x.C.length ∧ i = .int .i64 t ∧ Hid (VR w G x.C.length x.S.length x.R.length x.Q.length OB ⟨.slice pd x.D.length cd, .slice pc x.C.length cc, .slice pm x.M.length cm, .slice p2 x.R.length c2, .slice p3 x.Q.length c3, .slice p4 x.S.length c4⟩ x A w7 ∧ RwAt w7 B6 178 #[.int .i64 x.C.length, .func (.func 98) #[OB] #[]] ∧ ∀ j, j < t → fN x 4 j = none)) (fun i _ => x.C.length - (intOf i).toNat)
      case atStart => exact ⟨0, Nat.zero_le _, rfl, hid ⟨HA.out.1, HA.out.2, fun j h => by omega⟩⟩
      case round =>
        obtain ⟨t, ht, rfl, HI⟩ := hrel
        have t0 : (0 : Int) ≤ (t : Int) := by omega
        by_cases hlt : t < x.C.length
        · have tl : (t : Int) < (x.C.length : Int) := by omega
          have r1 := HI.out.2.1.cell 1 rfl
          have Hc := hid (unrep_any HI.out.1.o HI.out.1.e HP.out.1 HP.out.2.1 HP.out.2.2 (rising_of (HR.out.2 3 (by omega))) t hlt _ rfl)
          obtain ⟨y, hy⟩ : ∃ y, unrF x t = y := ⟨_, rfl⟩
          rw [hy] at Hc
          have Hy : Hid (fN x 4 t = y) := hid hy
          have HL := hid hlt
          clear hy hlt q0
          unfold OV.agg at Hc
          simp only at Hc
          rw [← HOB.out] at Hc
          cases y with
          | none =>
            go_wp2_with fail
            refine Hc.out.mono ?_
            rintro e w8 ⟨rfl, hg⟩
            have HI2 : Hid (_ ∧ _ ∧ _) := hid ⟨HI.out.1.kept0 hg, HI.out.2.1.kept0 hg, HI.out.2.2⟩
            clear hg Hc r1
            unfold evV
            go_wp2
            go_roundw
            case rel =>
              refine ⟨t + 1, by omega, by go_num, hid ⟨HI2.out.1, HI2.out.2.1, fun j hj => ?_⟩⟩
              by_cases e : j = t
              · rw [e]; exact Hy.out
              · exact HI2.out.2.2 j (by omega)
            case measure => simp [intOf]; omega
          | some c =>
            go_wp2_with fail
            refine Hc.out.mono ?_
            rintro e w8 ⟨rfl, hg⟩
            have HG8 := hid (grown_trans HI.out.1.g hg)
            clear hg Hc r1
            have hneq := fun W => run_err_neq_nil (A c) W
            unfold evV
            unfold errV at hneq ⊢
            go_wp2
            go_ret
            rw [from_some (show 4 < 5 by omega) HR.out.2 HL.out HI.out.2.2 Hy.out]
            exact ⟨_, rfl, ⟨w8.heap.size, rfl, RwAt.new w8 _ _⟩, grown_alloc HG8.out _⟩
        · obtain rfl : t = x.C.length := by omega
          clear hlt q0
          go_wp2
          go_roundw
          case rel =>
            refine ⟨5, by omega, by go_num, hid ⟨HI.out.1, fun k' hk' j hj => ?_⟩⟩
            by_cases e : k' = 4
            · subst e; exact HI.out.2.2 j hj
            · exact HR.out.2 k' (by omega) j hj
          case measure => simp [intOf]
    · go_wp2
      go_ret
      rw [from_none HR.out.2]
      exact ⟨_, rfl, rfl, HR.out.1.g⟩
theorem valid_any (h : OAt w V x) (he : ErrC w A) (hf : OFit x) : Calls Tryz.prog 74 #[V.agg] w (SaysAt w A (validP x)) := by
  cases hm : manyB x
  · by_cases hl : x.M.length = x.C.length
    · exact valid_scan h he hf hm hl
    · exact valid_map h he hm hl
  · exact valid_many h he hm
end
end Go.Proofs.YtnpnafidhcnkhaaGreatDoor
namespace Go.Proofs.YtnpnafidhcnkhaaGreatDoor
/-- a word, the lowest byte first -/
def w4 (n : Int) : List Int := [n % 256, n / 256 % 256, n / 65536 % 256, n / 16777216 % 256]
def lensI (x : PO) : List Int := [x.D.length, x.C.length, x.R.length, x.Q.length, x.S.length]
end Go.Proofs.YtnpnafidhcnkhaaGreatDoor
namespace Go.Proofs.YtnpnafidhcnkhaaGreatDoor
open Go.RowKit
/-- bytes of a call's own, at B and above -/
structure By (B : Nat) (w : World) (v : Value) (bs : List Int) : Prop where
  own : w.ownsRow B 5 1 v bs.length (bs.map (Value.int .u8))
  le : B ≤ w.heap.size
/-- only its own block was written, or new ones -/
structure Gw (w : World) (v : Value) (w1 : World) (v1 : Value) : Prop where
  grow : w.grownBy w1 v.ownBlock
  mine : Mine w v v1
theorem Gw.refl (w : World) (v : Value) : Gw w v w v := ⟨grown_refl _ _, .inl rfl⟩
theorem Gw.trans {w w1 w2 : World} {v v1 v2 : Value} (h : Gw w v w1 v1) (k : Gw w1 v1 w2 v2) : Gw w v w2 v2 := by
  have hg := h.grow
  have kg := k.grow
  refine ⟨⟨kg.os.trans hg.os, kg.tape.trans hg.tape, kg.output.trans hg.output, Nat.le_trans hg.size kg.size, fun i hi hr => ?_⟩, ?_⟩
  · refine (kg.block i (Nat.lt_of_lt_of_le hi hg.size) (fun e => ?_)).trans (hg.block i hi hr)
    rcases h.mine with m | m
    · exact hr (e.trans m)
    · have := m i e.symm; omega
  · rcases k.mine with m | m
    · rcases h.mine with m' | m'
      · exact .inl (m.trans m')
      · exact .inr (fun g hg' => m' g (m.symm.trans hg'))
    · exact .inr (fun g hg' => Nat.le_trans hg.size (m g hg'))
theorem By.below_of {B : Nat} {w w1 : World} {v : Value} {bs : List Int} (h : By B w v bs) (hg : w.grownBy w1 v.ownBlock) : Below B w w1 := by
  refine ⟨hg.os, hg.tape, hg.output, hg.size, fun k hk => hg.block k (Nat.lt_of_lt_of_le hk h.le) (fun e => ?_)⟩
  have := (h.own.lt k e.symm).1
  omega
theorem By.kept0 {B : Nat} {w w1 : World} {v : Value} {bs : List Int} (h : By B w v bs) (hg : w.grownBy w1 none) : By B w1 v bs := ⟨h.own.kept hg (by cases v.ownBlock <;> simp), Nat.le_trans h.le hg.size⟩
theorem By.nil (B : Nat) (w : World) (h : B ≤ w.heap.size) : By B w (.slice none 0 0) [] := ⟨World.ownsRow_nil _ _ _ _, h⟩
/-- the slice that is walked lies elsewhere -/
def Else (lv v : Value) : Prop := (∃ p c, lv = .slice p 0 c) ∨ ∀ g, lv.ownBlock = some g → v.ownBlock ≠ some g
theorem Else.of {p : Option Addr} {n c : Nat} {v : Value} (h : Else (.slice p n c) v) (hn : 0 < n) : ∀ g, (Value.slice p n c).ownBlock = some g → v.ownBlock ≠ some g := by
  rcases h with ⟨q, d, h⟩ | h
  · simp only [Value.slice.injEq] at h; omega
  · exact h
end Go.Proofs.YtnpnafidhcnkhaaGreatDoor
namespace Go.Proofs.YtnpnafidhcnkhaaGreatDoor
open Go.RowKit
theorem CsAt.below {B : Nat} {w0 w : World} {v : Value} {n : Nat} {cs : List Value} (h : CsAt w0 v n cs) (hB : w0.heap.size ≤ B) (hb : Below B w0 w) : CsAt w v n cs := by
  rcases h with h | ⟨b, o, c, rfl, hn, hlt, hc⟩
  · exact .inl h
  · exact .inr ⟨b, o, c, rfl, hn, Nat.lt_of_lt_of_le hlt hb.size, fun j u hu => (hb.cell (Nat.lt_of_lt_of_le hlt hB)).trans (hc j u hu)⟩
theorem SlAt.below {B : Nat} {w0 w : World} {v : Value} {k : IntKind} {xs : List Int} (h : SlAt w0 k v xs) (hB : w0.heap.size ≤ B) (hb : Below B w0 w) : SlAt w k v xs := by
  rcases h with h | ⟨b, o, c, rfl, hlt, hc⟩
  · exact .inl h
  · exact .inr ⟨b, o, c, rfl, Nat.lt_of_lt_of_le hlt hb.size, fun j u hu => (hb.cell (Nat.lt_of_lt_of_le hlt hB)).trans (hc j u hu)⟩
theorem Gw.below {B : Nat} {w w1 : World} {v v1 : Value} {bs : List Int} (h : Gw w v w1 v1) (hb : By B w v bs) : Below B w w1 := hb.below_of h.grow
theorem By.ne {B : Nat} {w : World} {v : Value} {bs : List Int} (h : By B w v bs) {g : Nat} (hg : w.heap.size ≤ g) : v.ownBlock ≠ some g := fun e => by have := (h.own.lt g e).2; omega
end Go.Proofs.YtnpnafidhcnkhaaGreatDoor
namespace Go.Proofs.YtnpnafidhcnkhaaGreatDoor
open Go.RowKit
theorem run_at_neq_nil (B : Nat) (w : World) : (binOp .neq 47 (atV B) .nilIface).run Tryz.prog w = .ok (.bool true) w := by
  have h : ∀ d : Nat, (Op.equalIn (d + 1) 47 (atV B) .nilIface).run Tryz.prog w = .ok false w := fun d => by simp [Op.equalIn, run_underlying Tryz.underlying47]
  simp only [binOp]
  simp [Op.equal, Op.maxDepth, h 9999]
section
variable {w : World} {V : OV} {x : PO} {A : Nat → Addr}
end
end Go.Proofs.YtnpnafidhcnkhaaGreatDoor
namespace Go.Proofs.YtnpnafidhcnkhaaGreatDoor
open Go.RowKit
/-- on the way: the object's box G, its sizes S, bytes of the call's own, all above w4 -/
structure BW (w4 : World) (G S : Nat) (V : OV) (x : PO) (bs : List Int) (v : Value) (w : World) : Prop where
  box4 : RwAt w4 G 41 V.cells
  sz4 : RwAt w4 S 174 #[.int .i64 x.D.length, .int .i64 x.C.length, .int .i64 x.R.length, .int .i64 x.Q.length, .int .i64 x.S.length]
  o4 : OAt w4 V x
  by_ : By w4.heap.size w v bs
  below : Below w4.heap.size w4 w
section
variable {w4 w w1 : World} {G S : Nat} {V : OV} {x : PO} {bs bs1 : List Int} {v v1 : Value}
theorem BW.box (h : BW w4 G S V x bs v w) : RwAt w G 41 V.cells := ⟨(h.below.block _ h.box4.lt).trans h.box4.blk⟩
theorem BW.sz (h : BW w4 G S V x bs v w) : SlAt w .i64 (.slice (some ⟨S, 0, none⟩) 5 5) (lensI x) :=
  SlAt.below (B := w4.heap.size) (SlAt.whole (b := S) (c := 5) (k := .i64) (xs := lensI x) (t := 174) (by exact h.sz4.blk)) (Nat.le_refl _) h.below
theorem BW.sl (h : BW w4 G S V x bs v w) {k : IntKind} {lv : Value} {xs : List Int} (hl : SlAt w4 k lv xs) : SlAt w k lv xs := SlAt.below hl (Nat.le_refl _) h.below
end
/-! ### an empty object -/
end Go.Proofs.YtnpnafidhcnkhaaGreatDoor
namespace Go.Proofs.YtnpnafidhcnkhaaGreatDoor
open Go.RowKit
/-- behind a copy: a row of the call's own with these cells -/
def CpAt (w : World) (t : TypeId) (size n : Nat) (cs : List Value) (e : Ending) (w' : World) : Prop :=
  ∃ v, e = .returned v ∧ w'.ownsRow w.heap.size t size v n cs ∧ w.grownBy w' none
theorem info_u32 : ∃ i : TypeInfo, Tryz.prog.info? 27 = some i ∧ i.zero = some (.int .u32 0) ∧ i.size = 1 ∧ i.bytes = 4 := info_parts (P := Tryz.prog) (e := 27) (z := .int .u32 0) (size := 1) (bytes := 4) (by kernel_rfl)
theorem info_reloc : ∃ i : TypeInfo, Tryz.prog.info? 65 = some i ∧ i.zero = some (.agg #[.int .i64 0, .int .i64 0, .int .i64 0, .int .i64 0]) ∧ i.size = 4 ∧ i.bytes = 32 := info_parts (P := Tryz.prog) (e := 65) (z := .agg #[.int .i64 0, .int .i64 0, .int .i64 0, .int .i64 0]) (size := 4) (bytes := 32) (by kernel_rfl)
theorem info_symb : ∃ i : TypeInfo, Tryz.prog.info? 63 = some i ∧ i.zero = some (.agg #[.string ⟨#[]⟩, .int .i64 0, .int .i64 0, .bool false]) ∧ i.size = 4 ∧ i.bytes = 40 := info_parts (P := Tryz.prog) (e := 63) (z := .agg #[.string ⟨#[]⟩, .int .i64 0, .int .i64 0, .bool false]) (size := 4) (bytes := 40) (by kernel_rfl)
theorem ints_one (k : IntKind) (xs : List Int) : ∀ v ∈ xs.map (Value.int k), v.oneCell' = true := by
  intro v hv
  obtain ⟨x, _, rfl⟩ := List.mem_map.1 hv
  rfl
set_option maxHeartbeats 1000000 in
theorem clone_u32 {w : World} {v : Value} {l : List Int} (h : SlAt w .u32 v l) (hl : l.length ≤ 1000000) :
    Calls Tryz.prog 56 #[v] w (CpAt w 27 1 l.length (l.map (Value.int .u32))) := by
  have hnil := @Lib.run_eql_slice_nil Tryz.prog
  have key : ∀ (a : Addr) (c : Nat), v = .slice (some a) l.length c → (∀ j u, (l.map (Value.int .u32))[j]? = some u → w.cell? (a.add j) = some u) → Calls Tryz.prog 56 #[v] w (CpAt w 27 1 l.length (l.map (Value.int .u32))) := by
    intro a c hv hcl
    subst hv
    obtain ⟨i, hi, hz0, hz1, hz2⟩ := info_u32
    have Hi := hid hi
    have Hz0 := hid hz0
    have Hz1 := hid hz1
    have Hz2 := hid hz2
    have Hnew : Hid (∀ j u, (l.map (Value.int .u32))[j]? = some u → (w.alloc (.cells #[] 27)).cell? (a.add j) = some u) := hid (by
      intro j u hu
      have := hcl j u hu
      rw [World.cell?_alloc_lt _ _ _ (World.block_lt_of_cell? w _ this)]
      exact this)
    have Hl : Hid ((l.map (Value.int .u32)).length = l.length * 1) := hid (by simp)
    have H1 : Hid (∀ v ∈ (l.map (Value.int .u32)), v.oneCell' = true) := hid (ints_one _ _)
    have Hown : Hid ((w.alloc (.cells #[] 27)).ownsRow w.heap.size 27 1 (.slice (some ⟨w.heap.size, 0, none⟩) 0 0) 0 []) :=
      hid (World.ownsRow_lit w #[] 0 (Nat.le_refl _) (by unfold maxLen; omega) rfl)
    have Hb : Hid ((0 + l.length) * 4 ≤ 140737488355328) := hid (by omega)
    have Hx : Hid (0 + l.length ≤ maxLen) := hid (by unfold maxLen; omega)
    clear hi hz0 hz1 hz2 hcl hl h
    go_enter Tryz.func56, Tryz.ntmps56
    go_wp2_with (refine wpList_append_own _ rfl _ _ 36 rfl w.heap.size 27 i _ 1 4 Tryz.underlying36 Hi.out Hz0.out Hz1.out Hz2.out rfl (by decide) (.slice (some ⟨w.heap.size, 0, none⟩) 0 0) 0 [] rfl Hown.out a l.length c (l.map (Value.int .u32)) rfl Hl.out Hnew.out H1.out Hx.out Hb.out (by simp) ?_; intro v' w2 hown2 hgrow2 _; have HO := hid hown2; have HG := hid hgrow2; clear hown2 hgrow2)
    go_ret
    refine ⟨v', rfl, ?_, ?_⟩
    · have := HO.out; rwa [Nat.zero_add, List.nil_append] at this
    · exact grown_new' (grown_trans (World.grownBy_alloc _ _ _) HG.out) (fun k hk => by simp [Value.ownBlock] at hk; omega)
  rcases h with ⟨⟨p, c, rfl⟩, rfl⟩ | ⟨b, o, c, rfl, _, hc⟩
  · cases p with
    | none =>
      clear hl key
      go_enter Tryz.func56, Tryz.ntmps56
      go_wp2
      go_ret
      exact ⟨_, rfl, World.ownsRow_nil _ _ _ _, grown_refl _ _⟩
    | some a => exact key a c rfl (by simp)
  · exact key ⟨b, o, none⟩ c rfl (fun j u hu => by
      rw [List.getElem?_map, Option.map_eq_some_iff] at hu
      obtain ⟨z, hz, rfl⟩ := hu
      rw [Addr.add_mid]
      exact hc j z hz)
set_option maxHeartbeats 1000000 in
theorem clone_rl {w : World} {v : Value} {l : List Rl} (h : CsAt w v l.length (rlsC l)) (hl : l.length ≤ 1000000) :
    Calls Tryz.prog 58 #[v] w (CpAt w 65 4 l.length (rlsC l)) := by
  have hnil := @Lib.run_eql_slice_nil Tryz.prog
  have key : ∀ (a : Addr) (c : Nat), v = .slice (some a) l.length c → (∀ j u, (rlsC l)[j]? = some u → w.cell? (a.add j) = some u) → Calls Tryz.prog 58 #[v] w (CpAt w 65 4 l.length (rlsC l)) := by
    intro a c hv hcl
    subst hv
    obtain ⟨i, hi, hz0, hz1, hz2⟩ := info_reloc
    have Hi := hid hi
    have Hz0 := hid hz0
    have Hz1 := hid hz1
    have Hz2 := hid hz2
    have Hnew : Hid (∀ j u, (rlsC l)[j]? = some u → (w.alloc (.cells #[] 65)).cell? (a.add j) = some u) := hid (by
      intro j u hu
      have := hcl j u hu
      rw [World.cell?_alloc_lt _ _ _ (World.block_lt_of_cell? w _ this)]
      exact this)
    have Hl : Hid ((rlsC l).length = l.length * 4) := hid (rlsC_length l)
    have H1 : Hid (∀ v ∈ (rlsC l), v.oneCell' = true) := hid (rlsC_one l)
    have Hown : Hid ((w.alloc (.cells #[] 65)).ownsRow w.heap.size 65 4 (.slice (some ⟨w.heap.size, 0, none⟩) 0 0) 0 []) :=
      hid (World.ownsRow_lit w #[] 0 (Nat.le_refl _) (by unfold maxLen; omega) rfl)
    have Hb : Hid ((0 + l.length) * 32 ≤ 140737488355328) := hid (by omega)
    have Hx : Hid (0 + l.length ≤ maxLen) := hid (by unfold maxLen; omega)
    clear hi hz0 hz1 hz2 hcl hl h
    go_enter Tryz.func58, Tryz.ntmps58
    go_wp2_with (refine wpList_append_own _ rfl _ _ 38 rfl w.heap.size 65 i _ 4 32 Tryz.underlying38 Hi.out Hz0.out Hz1.out Hz2.out rfl (by decide) (.slice (some ⟨w.heap.size, 0, none⟩) 0 0) 0 [] rfl Hown.out a l.length c (rlsC l) rfl Hl.out Hnew.out H1.out Hx.out Hb.out (by simp) ?_; intro v' w2 hown2 hgrow2 _; have HO := hid hown2; have HG := hid hgrow2; clear hown2 hgrow2)
    go_ret
    refine ⟨v', rfl, ?_, ?_⟩
    · have := HO.out; rwa [Nat.zero_add, List.nil_append] at this
    · exact grown_new' (grown_trans (World.grownBy_alloc _ _ _) HG.out) (fun k hk => by simp [Value.ownBlock] at hk; omega)
  rcases h with ⟨⟨p, c, rfl⟩, h0, hcs⟩ | ⟨b, o, c, rfl, _, _, hc⟩
  · obtain rfl := List.eq_nil_of_length_eq_zero h0
    cases p with
    | none =>
      clear hl key
      go_enter Tryz.func58, Tryz.ntmps58
      go_wp2
      go_ret
      exact ⟨_, rfl, World.ownsRow_nil _ _ _ _, grown_refl _ _⟩
    | some a => exact key a c rfl (by simp [rlsC])
  · exact key ⟨b, o, none⟩ c rfl (fun j u hu => by
      rw [Addr.add_mid]
      exact hc j u hu)
/-! ### an object copied -/
/-- an object's box, and what is known beside it -/
structure Bo (w0 w : World) (G : Nat) (V : OV) (x : PO) : Prop where
  box : RwAt w G 41 #[V.d, V.c, V.m, V.r, V.q, V.s]
  o : OAt w V x
  g : w0.grownBy w none
section
variable {w0 w w1 : World} {G : Nat} {V : OV} {x : PO}
theorem Bo.kept0 (h : Bo w0 w G V x) (hg : w.grownBy w1 none) : Bo w0 w1 G V x := ⟨h.box.kept0 hg, h.o.kept0 hg, grown_trans h.g hg⟩
theorem Bo.alloc (h : Bo w0 w G V x) (o : Obj) : Bo w0 (w.alloc o) G V x := h.kept0 (World.grownBy_alloc _ _ _)
theorem Bo.new (h : OAt w V x) : Bo w (w.alloc (.cells #[V.d, V.c, V.m, V.r, V.q, V.s] 41)) w.heap.size V x :=
  ⟨RwAt.new w _ _, h.kept0 (World.grownBy_alloc _ _ _), World.grownBy_alloc _ _ _⟩
end
def Ap (u v : Value) : Prop := u.ownBlock = none ∨ u.ownBlock ≠ v.ownBlock
/-- an object of the call's own: six rows, none of them another -/
structure OwnO (B : Nat) (w : World) (V : OV) (x : PO) : Prop where
  d : w.ownsRow B 27 1 V.d x.D.length (x.D.map (Value.int .u32))
  c : w.ownsRow B 27 1 V.c x.C.length (x.C.map (Value.int .u32))
  m : w.ownsRow B 5 1 V.m x.M.length (x.M.map (Value.int .u8))
  r : w.ownsRow B 65 4 V.r x.R.length (rlsC x.R)
  q : w.ownsRow B 65 4 V.q x.Q.length (rlsC x.Q)
  s : w.ownsRow B 63 4 V.s x.S.length (sysC x.S)
  ap : [V.d, V.c, V.m, V.r, V.q, V.s].Pairwise Ap
theorem OwnO.at_ {B : Nat} {w : World} {V : OV} {x : PO} (h : OwnO B w V x) : OAt w V x := ⟨SlAt.own h.d, SlAt.own h.c, SlAt.own h.m, CsAt.own h.r, CsAt.own h.q, CsAt.own h.s⟩
theorem OwnO.kept0 {B : Nat} {w w1 : World} {V : OV} {x : PO} (h : OwnO B w V x) (hg : w.grownBy w1 none) : OwnO B w1 V x :=
  ⟨h.d.kept hg (by cases V.d.ownBlock <;> simp), h.c.kept hg (by cases V.c.ownBlock <;> simp), h.m.kept hg (by cases V.m.ownBlock <;> simp), h.r.kept hg (by cases V.r.ownBlock <;> simp), h.q.kept hg (by cases V.q.ownBlock <;> simp), h.s.kept hg (by cases V.s.ownBlock <;> simp), h.ap⟩
theorem zero_obj (w : World) : (zeroValue 41).run Tryz.prog w = .ok (.agg #[.slice none 0 0, .slice none 0 0, .slice none 0 0, .slice none 0 0, .slice none 0 0, .slice none 0 0]) w := by kernel_rfl
theorem own_slice {w : World} {B size n : Nat} {t : TypeId} {v : Value} {cs : List Value} (h : w.ownsRow B t size v n cs) : ∃ p c, v = .slice p n c := by
  rcases h.2 with ⟨rfl, h0⟩ | ⟨g, cap, cur, rfl, _⟩
  · subst h0; exact ⟨_, _, rfl⟩
  · exact ⟨_, _, rfl⟩
theorem own_apart {w : World} {B B' size n size' n' : Nat} {t t' : TypeId} {v v' : Value} {cs cs' : List Value} {w' : World} (h : w.ownsRow B t size v n cs) (h' : w'.ownsRow B' t' size' v' n' cs') (hB : w.heap.size ≤ B') : Ap v v' := by
  unfold Ap
  cases hv : v.ownBlock with
  | none => exact .inl rfl
  | some g =>
    right
    intro e
    have h1 := (h.lt g hv).2
    have h2 := (h'.lt g e.symm).1
    omega
end Go.Proofs.YtnpnafidhcnkhaaGreatDoor
namespace Go.Proofs.YtnpnafidhcnkhaaGreatDoor
open Go.RowKit
/-- two objects' boxes -/
structure Bd (w0 w : World) (G1 G2 : Nat) (V V' : OV) (x x' : PO) : Prop where
  a : RwAt w G1 41 #[V.d, V.c, V.m, V.r, V.q, V.s]
  b : RwAt w G2 41 #[V'.d, V'.c, V'.m, V'.r, V'.q, V'.s]
  o : OAt w V x
  p : OAt w V' x'
  g : w0.grownBy w none
theorem Bd.kept0 {w0 w w1 : World} {G1 G2 : Nat} {V V' : OV} {x x' : PO} (h : Bd w0 w G1 G2 V V' x x') (hg : w.grownBy w1 none) : Bd w0 w1 G1 G2 V V' x x' := ⟨h.a.kept0 hg, h.b.kept0 hg, h.o.kept0 hg, h.p.kept0 hg, grown_trans h.g hg⟩
theorem Bd.new {w : World} {V V' : OV} {x x' : PO} (h : OAt w V x) (h' : OAt w V' x') :
    Bd w ((w.alloc (.cells #[V.d, V.c, V.m, V.r, V.q, V.s] 41)).alloc (.cells #[V'.d, V'.c, V'.m, V'.r, V'.q, V'.s] 41)) w.heap.size (w.heap.size + 1) V V' x x' := by
  have hg := grown_alloc (World.grownBy_alloc w (.cells #[V.d, V.c, V.m, V.r, V.q, V.s] 41) none) (.cells #[V'.d, V'.c, V'.m, V'.r, V'.q, V'.s] 41)
  exact ⟨(RwAt.new w _ _).alloc _, RwAt.new2 w _ _ _, h.kept0 hg, h'.kept0 hg, hg⟩
end Go.Proofs.YtnpnafidhcnkhaaGreatDoor
