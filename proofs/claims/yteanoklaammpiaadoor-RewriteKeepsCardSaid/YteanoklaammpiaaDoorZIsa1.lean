/- What the calls of package isa do: contracts. -/
import Derived.Test.YteanoklaammpiaaDoorRows
import Derived.WalkKit
import Derived.WalkSpells
import Derived.WalkLawsBesides
import Derived.Handy
import Derived.Test.YteanoklaammpiaaDoorZIsaP
import Derived.Test.YteanoklaammpiaaDoorZGMem
namespace Go.Proofs.YteanoklaammpiaaDoor
open Go.RowKit
theorem ret_3 {k : IntKind} {a b c a' b' c' : Int} (h : a = a') (h1 : b = b') (h2 : c = c') : Ending.returned (.agg #[.int k a, .int k b, .int k c]) = .returned (.agg #[.int k a', .int k b', .int k c']) := by rw [h, h1, h2]
theorem bcell {W w1 : World} (hb : Below W.heap.size W w1) : (∀ b o, b < W.heap.size → w1.cell? ⟨b, o, none⟩ = W.cell? ⟨b, o, none⟩) ∧ (∀ b o, b < W.heap.size → w1.frozen? ⟨b, o, none⟩ = W.frozen? ⟨b, o, none⟩) :=
  ⟨fun b o h => hb.cell (p := ⟨b, o, none⟩) h, fun b o h => hb.frozen (p := ⟨b, o, none⟩) h⟩

set_option maxHeartbeats 400000 in
theorem class_any (op : Int) (w : World) :
    Calls Tryd.prog 57 #[.agg #[], .int .i64 op] w fun e w' => e = .returned (.int .i64 (clsI op)) ∧ w' = w.alloc (.cells #[] 104) := by
  go_enter Tryd.func57, Tryd.ntmps57
  go_wp2
  all_goals
    go_ret
    refine ⟨ret_i ?_, rfl⟩
    try simp only [beq_iff_eq, beq_eq_false_iff_ne, ne_eq] at *
    unfold clsI
    repeat' split
    all_goals omega

set_option maxHeartbeats 400000 in
theorem two_any (op : Int) (w : World) :
    Calls Tryd.prog 72 #[.agg #[], .int .i64 op] w fun e w' => e = .returned (.bool (twoB op)) ∧ w' = w.alloc (.cells #[] 104) := by
  go_enter Tryd.func72, Tryd.ntmps72
  go_wp2
  all_goals
    go_ret
    refine ⟨ret_b ?_, rfl⟩
    try simp only [beq_iff_eq, beq_eq_false_iff_ne, ne_eq] at *
    unfold twoB
    simp only [true_eq_decide_iff, false_eq_decide_iff]
    omega

set_option maxHeartbeats 400000 in
theorem jumps_any (op : Int) (w : World) :
    Calls Tryd.prog 111 #[.agg #[], .int .i64 op] w fun e w' => e = .returned (.bool (jmpB op)) ∧ w' = w.alloc (.cells #[] 104) := by
  go_enter Tryd.func111, Tryd.ntmps111
  go_wp2
  all_goals
    go_ret
    refine ⟨ret_b ?_, rfl⟩
    try simp only [beq_iff_eq, beq_eq_false_iff_ne, ne_eq] at *
    unfold jmpB
    simp only [true_eq_decide_iff, false_eq_decide_iff]
    omega

set_option maxHeartbeats 400000 in
theorem allows_any (k n : Int) (w : World) :
    Calls Tryd.prog 107 #[.int .i64 k, .int .i64 n] w fun e w' => e = .returned (.bool (alwB k n)) ∧ w = w' := by
  go_enter Tryd.func107, Tryd.ntmps107
  go_wp2
  all_goals
    go_ret
    refine ⟨ret_b ?_, rfl⟩
    try simp only [beq_iff_eq, beq_eq_false_iff_ne, ne_eq] at *
    unfold alwB
    repeat' split
    all_goals first | omega | (symm; rw [decide_eq_false_iff_not]; omega) | (rw [Bool.eq_iff_iff]; simp only [decide_eq_true_eq, beq_iff_eq]; omega) | (rw [Bool.eq_iff_iff]; simp only [decide_eq_true_eq, beq_iff_eq])

set_option maxHeartbeats 400000 in
theorem tables_any (w : World) :
    Calls Tryd.prog 56 #[] w fun e w' => e = .returned (.agg #[]) ∧ w' = w.alloc (.cells #[] 104) := by
  go_enter Tryd.func56, Tryd.ntmps56
  go_wp2
  go_returns
  refine ⟨rfl, rfl⟩

set_option maxHeartbeats 400000 in
theorem askc_any (op : Int) (w : World) :
    Calls Tryd.prog 105 #[.func (.func 57) #[] #[], .int .i64 op] w fun e w' => e = .returned (.int .i64 (clsI op)) ∧ w' = (w.alloc (.cells #[] 104)).alloc (.cells #[] 104) := by
  go_enter Tryd.func105, Tryd.ntmps105
  go_wp2_with (first | (go_at_call 56; refine (tables_any _).mono ?_; rintro e w' ⟨rfl, rfl⟩) | (go_at_call 57; refine (class_any _ _).mono ?_; rintro e w' ⟨rfl, rfl⟩))
  go_ret
  exact ⟨rfl, rfl⟩
set_option maxHeartbeats 400000 in
theorem askt_any (op : Int) (w : World) :
    Calls Tryd.prog 85 #[.func (.func 72) #[] #[], .int .i64 op] w fun e w' => e = .returned (.bool (twoB op)) ∧ w' = (w.alloc (.cells #[] 104)).alloc (.cells #[] 104) := by
  go_enter Tryd.func85, Tryd.ntmps85
  go_wp2_with (first | (go_at_call 56; refine (tables_any _).mono ?_; rintro e w' ⟨rfl, rfl⟩) | (go_at_call 72; refine (two_any _ _).mono ?_; rintro e w' ⟨rfl, rfl⟩))
  go_ret
  exact ⟨rfl, rfl⟩
set_option maxHeartbeats 400000 in
theorem askj_any (op : Int) (w : World) :
    Calls Tryd.prog 85 #[.func (.func 111) #[] #[], .int .i64 op] w fun e w' => e = .returned (.bool (jmpB op)) ∧ w' = (w.alloc (.cells #[] 104)).alloc (.cells #[] 104) := by
  go_enter Tryd.func85, Tryd.ntmps85
  go_wp2_with (first | (go_at_call 56; refine (tables_any _).mono ?_; rintro e w' ⟨rfl, rfl⟩) | (go_at_call 111; refine (jumps_any _ _).mono ?_; rintro e w' ⟨rfl, rfl⟩))
  go_ret
  exact ⟨rfl, rfl⟩

set_option maxHeartbeats 400000 in
theorem third_any (op : Int) (w : World) :
    Calls Tryd.prog 110 #[.int .i64 op] w fun e w' => e = .returned (.int .i64 (thirdI op)) ∧ w' = (w.alloc (.cells #[] 104)).alloc (.cells #[] 104) := by
  by_cases hj : jmpB op = true
  · go_enter Tryd.func110, Tryd.ntmps110
    go_wp2_with (go_at_call 85; refine (askj_any _ _).mono ?_; rintro e w' ⟨rfl, rfl⟩)
    go_ret
    refine ⟨ret_i ?_, rfl⟩
    unfold jmpB at hj; have := of_decide_eq_true hj
    unfold thirdI; rw [if_pos (by omega)]
  · have hj' : jmpB op = false := by simpa using hj
    clear hj
    go_enter Tryd.func110, Tryd.ntmps110
    go_wp2_with (go_at_call 85; refine (askj_any _ _).mono ?_; rintro e w' ⟨rfl, rfl⟩)
    all_goals
      go_ret
      refine ⟨ret_i ?_, rfl⟩
      unfold jmpB at hj'; have := of_decide_eq_false hj'
      try simp only [beq_iff_eq, beq_eq_false_iff_ne, ne_eq] at *
      unfold thirdI
      split <;> omega

set_option maxHeartbeats 1000000 in
theorem operands_any (op : Int) (w : World) :
    Calls Tryd.prog 106 #[.int .i64 op] w fun e w' => e = .returned (.agg #[.int .i64 (hasA op), .int .i64 (hasB op), .int .i64 (hasC op)]) ∧ Below w.heap.size w w' := by
  go_enter Tryd.func106, Tryd.ntmps106
  go_wp2_with (go_at_call 110; refine (third_any _ _).mono ?_; rintro e w' ⟨rfl, rfl⟩)
  all_goals
    go_returns
    simp only [beq_iff_eq, beq_eq_false_iff_ne, ne_eq] at *
    refine ⟨ret_3 ?_ ?_ ?_, by go_grown⟩
    · unfold hasA; split <;> omega
    · unfold hasB; split <;> omega
    · unfold hasC; try unfold thirdI
      repeat' split
      all_goals omega
end Go.Proofs.YteanoklaammpiaaDoor
