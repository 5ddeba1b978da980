/- The word of any instruction; the document's own answers to what an instruction is: contracts. -/
import Derived.Test.YtniahejdddoopaaIsa2
namespace Go.Proofs.Ytniahejdddoopaa
open Go.RowKit

def wordV (op a b c imm : Int) : Int := if insB op a b c imm = true then wrdI op a b c else 0
theorem wordV_yes {op a b c imm : Int} (h : insB op a b c imm = true) : wordV op a b c imm = wrdI op a b c := by unfold wordV; rw [if_pos h]
theorem wordV_no {op a b c imm : Int} (h : insB op a b c imm = false) : wordV op a b c imm = 0 := by unfold wordV; rw [if_neg (by simp [h])]
theorem word_any (op a b c imm : Int) (w : World) :
    Calls Try.prog 24 #[.agg #[.int .i64 op, .int .i64 a, .int .i64 b, .int .i64 c, .int .u32 imm]] w fun e w' => e = .returned (.tuple #[.int .u32 (wordV op a b c imm), .bool (insB op a b c imm)]) ∧ Below w.heap.size w w' := by
  cases h : insB op a b c imm
  · rw [wordV_no h]; exact word_no op a b c imm w h
  · rw [wordV_yes h]; exact word_yes op a b c imm w h


set_option maxHeartbeats 400000 in
theorem rclass_any (op : Int) (w : World) :
    Calls Try.prog 39 #[.int .i64 op] w fun e w' => e = .returned (.int .i64 (clsI op)) ∧ w = w' := by
  go_enter Try.func39, Try.ntmps39
  go_wp2
  all_goals
    go_ret
    refine ⟨ret_i ?_, rfl⟩
    try simp only [beq_iff_eq, beq_eq_false_iff_ne, ne_eq] at *
    unfold clsI
    repeat' split
    all_goals omega

def rA (op : Int) : Bool := decide (¬ (op = 1 ∨ op = 34 ∨ op = 42 ∨ op = 64 ∨ op = 65 ∨ op = 19 ∨ op = 22 ∨ op = 96 ∨ op = 16))
def rB (op : Int) : Bool := decide (op = 2 ∨ op = 37 ∨ op = 38 ∨ op = 41 ∨ (3 ≤ op ∧ op ≤ 13) ∨ op = 24)
def rC (op : Int) : Bool := decide (op = 16 ∨ op = 17 ∨ op = 18 ∨ (3 ≤ op ∧ op ≤ 13) ∨ op = 24)
def rN (op : Int) : Bool := decide (op = 16 ∨ op = 17 ∨ op = 18 ∨ op = 12 ∨ op = 13)
theorem rA_has {op : Int} (h : clsI op ≠ 0) : hasA op = if rA op = true then 1 else 0 := by
  unfold rA hasA; unfold clsI at h; simp only [decide_eq_true_eq]
  repeat' split at h
  all_goals (repeat' split) <;> omega
theorem rB_has (op : Int) : hasB op = if rB op = true then 1 else 0 := by
  unfold rB hasB; simp only [decide_eq_true_eq]
theorem rC_has (op : Int) : hasC op = if rC op = true then (if rN op = true then 2 else 1) else 0 := by
  unfold rC rN hasC; simp only [decide_eq_true_eq]
  (repeat' split) <;> omega
theorem ret_4b {a b c d a' b' c' d' : Bool} (h : a = a') (h1 : b = b') (h2 : c = c') (h3 : d = d') :
    Ending.returned (.tuple #[.bool a, .bool b, .bool c, .bool d]) = .returned (.tuple #[.bool a', .bool b', .bool c', .bool d']) := by rw [h, h1, h2, h3]

set_option maxHeartbeats 1000000 in
theorem uses_any (op : Int) (w : World) :
    Calls Try.prog 38 #[.int .i64 op] w fun e w' => e = .returned (.tuple #[.bool (rA op), .bool (rB op), .bool (rC op), .bool (rN op)]) ∧ w = w' := by
  go_enter Try.func38, Try.ntmps38
  go_wp2
  all_goals
    refine bodyPost_ret (by simp [results, Try.results38, go_sem]; try rfl) rfl ?_
    refine ⟨ret_4b ?_ ?_ ?_ ?_, rfl⟩
    all_goals simp only [beq_iff_eq, beq_eq_false_iff_ne, ne_eq] at *
    all_goals first | unfold rA | unfold rB | unfold rC | unfold rN
    all_goals simp only [true_eq_decide_iff, false_eq_decide_iff]
    all_goals omega
end Go.Proofs.Ytniahejdddoopaa
