/- Plain facts on operands: which ways an operand can be right or wrong. -/
import Derived.Test.YtniahejdddoopaaIsa3
namespace Go.Proofs.Ytniahejdddoopaa
theorem alw_ways (x : Bool) (top : Int) (is : Bool) (n : Int) (h : is = (decide (n = 0) || x && decide (0 < n) && decide (n ≤ top))) :
    ((n == 0) = true ∧ is = true) ∨ ((n == 0) = false ∧ x = false ∧ is = false) ∨ ((n == 0) = false ∧ x = true ∧ n ≤ 0 ∧ is = false) ∨
    ((n == 0) = false ∧ x = true ∧ 0 < n ∧ n ≤ top ∧ is = true) ∨ ((n == 0) = false ∧ x = true ∧ 0 < n ∧ top < n ∧ is = false) := by
  subst h
  by_cases h0 : n = 0
  · left; simp [h0]
  · right
    cases x
    · left; simp [h0]
    · right
      by_cases h1 : 0 < n
      · right
        by_cases h2 : n ≤ top
        · left; simp [h0, h1, h2]
        · right; simp [h0, h1, h2]; omega
      · left; simp [h0, h1]; omega
theorem alw_conds (x : Bool) (top : Int) (is : Bool) (n : Int) (h : is = (decide (n = 0) || x && decide (0 < n) && decide (n ≤ top))) :
    ((n == 0) = true → is = true) ∧ ((n == 0) = false → x = false → is = false) ∧ ((n == 0) = false → x = true → n ≤ 0 → is = false) ∧
    ((n == 0) = false → x = true → 0 < n → is = decide (n ≤ top)) := by
  subst h
  refine ⟨fun h => ?_, fun h h1 => ?_, fun h h1 h2 => ?_, fun h h1 h2 => ?_⟩
  · simp at h; simp [h]
  · simp at h; simp [h, h1]
  · simp at h; simp [h, h1]; omega
  · simp at h; simp [h, h1, h2]
theorem alw_is {x : Bool} {k : Int} (hk : k = if x = true then 1 else 0) (n : Int) : alwB k n = (decide (n = 0) || x && decide (0 < n) && decide (n ≤ 15)) := by
  unfold alwB; subst hk
  cases x
  · simp
  · rw [Bool.eq_iff_iff]; simp; omega
theorem alw_is2 {x : Bool} {k : Int} (hk : k = if x = true then 2 else 0) (n : Int) : alwB k n = (decide (n = 0) || x && decide (0 < n) && decide (n ≤ 255)) := by
  unfold alwB; subst hk
  cases x
  · simp
  · rw [Bool.eq_iff_iff]; simp; omega
theorem alw_zero (k : Int) : alwB k 0 = true := by
  unfold alwB; repeat' split
  all_goals simp
theorem insA_is {op : Int} (h : clsI op ≠ 0) (n : Int) : insB op n 0 0 0 = (decide (n = 0) || rA op && decide (0 < n) && decide (n ≤ 15)) := by
  rw [← alw_is (rA_has h) n]; unfold insB; simp [h, alw_zero]
theorem insBs_is {op : Int} (h : clsI op ≠ 0) (n : Int) : insB op 0 n 0 0 = (decide (n = 0) || rB op && decide (0 < n) && decide (n ≤ 15)) := by
  rw [← alw_is (rB_has op) n]; unfold insB; simp [h, alw_zero]
theorem insC_is {op : Int} (h : clsI op ≠ 0) (hn : rN op = false) (n : Int) : insB op 0 0 n 0 = (decide (n = 0) || rC op && decide (0 < n) && decide (n ≤ 15)) := by
  rw [← alw_is (k := hasC op) (by rw [rC_has op, hn]; simp) n]; unfold insB; simp [h, alw_zero]
theorem insC_is' {op : Int} (h : clsI op ≠ 0) (hn : rN op = true) (n : Int) : insB op 0 0 n 0 = (decide (n = 0) || rC op && decide (0 < n) && decide (n ≤ 255)) := by
  rw [← alw_is2 (k := hasC op) (by rw [rC_has op, hn]; simp) n]; unfold insB; simp [h, alw_zero]
end Go.Proofs.Ytniahejdddoopaa
