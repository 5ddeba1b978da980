/- The document's own answers: second words, jumps, operands, distances, words: contracts. -/
import Derived.Test.YtniahejdddoopaaIsa5
import Derived.Test.YtniahejdddoopaaBase
import Derived.BigGuardPart
namespace Go.Proofs.Ytniahejdddoopaa
open Go.RowKit

set_option maxHeartbeats 1000000 in
theorem rtwo_any (op : Int) (w : World) :
    Calls Try.prog 41 #[.int .i64 op] w fun e w' => e = .returned (.bool (twoB op)) ∧ w = w' := by
  go_enter Try.func41, Try.ntmps41
  go_wp2
  all_goals
    go_ret
    refine ⟨ret_b ?_, rfl⟩
    rw [Bool.eq_iff_iff]
    unfold twoB
    simp only [beq_iff_eq, beq_eq_false_iff_ne, ne_eq, decide_eq_true_eq] at *
    first | omega | (simp_all; done) | (simp_all; omega)

set_option maxHeartbeats 1000000 in
theorem rjumps_any (op : Int) (w : World) :
    Calls Try.prog 23 #[.int .i64 op] w fun e w' => e = .returned (.bool (jmpB op)) ∧ w = w' := by
  go_enter Try.func23, Try.ntmps23
  go_wp2
  all_goals
    go_ret
    refine ⟨ret_b ?_, rfl⟩
    rw [Bool.eq_iff_iff]
    unfold jmpB
    simp only [decide_eq_true_eq]
    first | omega | (simp; omega)

def regB (n : Int) (has : Bool) : Bool := decide (n = 0) || has && decide (0 < n) && decide (n < 16)
set_option maxHeartbeats 1000000 in
theorem reg_any (n : Int) (has : Bool) (w : World) :
    Calls Try.prog 40 #[.int .i64 n, .bool has] w fun e w' => e = .returned (.bool (regB n has)) ∧ w = w' := by
  by_cases h0 : n = 0
  · subst h0
    go_enter Try.func40, Try.ntmps40
    go_wp2
    go_ret
    exact ⟨ret_b (by simp [regB]), rfl⟩
  · have e0 : (n == 0) = false := by simpa using h0
    have H0 := hid h0
    clear h0
    cases has
    · go_enter Try.func40, Try.ntmps40
      go_wp2
      go_ret
      exact ⟨ret_b (by simp [regB, H0.out]), rfl⟩
    · by_cases h1 : 0 < n
      · go_enter Try.func40, Try.ntmps40
        go_wp2
        go_ret
        exact ⟨ret_b (by simp [regB, H0.out, h1]), rfl⟩
      · go_enter Try.func40, Try.ntmps40
        go_wp2
        go_ret
        exact ⟨ret_b (by simp [regB, H0.out]; try omega), rfl⟩


theorem alw_reg (x : Bool) (n : Int) : alwB (if x = true then 1 else 0) n = regB n x := by
  unfold alwB regB
  cases x
  · simp
  · rw [Bool.eq_iff_iff]; simp; omega
theorem ins_ref (op a b c imm : Int) : insB op a b c imm = (decide (clsI op ≠ 0) && regB a (rA op) && regB b (rB op) && (twoB op || decide (imm = 0)) && (if rN op = true then decide (0 ≤ c ∧ c ≤ 255) else regB c (rC op))) := by
  unfold insB
  by_cases h : clsI op = 0
  · simp [h]
  · rw [rA_has h, rB_has, alw_reg, alw_reg]
    have hC : alwB (hasC op) c = (if rN op = true then decide (0 ≤ c ∧ c ≤ 255) else regB c (rC op)) := by
      rw [rC_has]
      cases hn : rN op
      · simp only [Bool.false_eq_true, if_false]
        exact alw_reg _ _
      · have hc : rC op = true := by
          unfold rN at hn; have := of_decide_eq_true hn
          unfold rC; exact decide_eq_true (by omega)
        rw [hc]; unfold alwB; simp
    rw [hC]
    cases regB a (rA op) <;> cases regB b (rB op) <;> cases twoB op <;> simp [h, Bool.and_comm]
end Go.Proofs.Ytniahejdddoopaa
