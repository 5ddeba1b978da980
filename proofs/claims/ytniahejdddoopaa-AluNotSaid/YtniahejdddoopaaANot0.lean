/- Plain facts for the law AluNot. -/
import Derived.Test.YtniahejdddoopaaASays
import Derived.Deep.Cut
namespace Go.Proofs.Ytniahejdddoopaa
open Go.RowKit
theorem not_ways {op a b c imm : Int} {b1 t2 : Bool} (hB : aluB op a b c imm = b1) (hT : askB op a b c imm = t2) :
    (1 ≤ op ∧ op ≤ 11 ∧ t2 = false) ∨ (op = 14 ∧ t2 = false) ∨ (op = 15 ∧ t2 = false) ∨ (op = 24 ∧ t2 = false) ∨ (op < 1 ∧ b1 = false ∧ t2 = false) ∨
    (11 < op ∧ (op == 14) = false ∧ (op == 15) = false ∧ (op == 24) = false ∧ b1 = false ∧ t2 = false) ∨
    (16 ≤ op ∧ op ≤ 23 ∧ b1 = false ∧ t2 = true) := by
  subst hB; subst hT
  have hj : jmpB op = true → 16 ≤ op ∧ op ≤ 23 := fun h => by unfold jmpB at h; have := of_decide_eq_true h; omega
  have hn : ¬ (16 ≤ op ∧ op ≤ 23) → askB op a b c imm = false := fun h => by
    unfold askB
    cases hq : jmpB op
    · rw [Bool.and_false]
    · exact absurd (hj hq) h
  have hr : reckB op = false → aluB op a b c imm = false := fun h => by unfold aluB; rw [h, Bool.and_false]
  by_cases c1 : 1 ≤ op ∧ op ≤ 11
  · exact .inl ⟨c1.1, c1.2, hn (by omega)⟩
  · by_cases c2 : op = 14
    · exact .inr (.inl ⟨c2, hn (by omega)⟩)
    · by_cases c3 : op = 15
      · exact .inr (.inr (.inl ⟨c3, hn (by omega)⟩))
      · by_cases c4 : op = 24
        · exact .inr (.inr (.inr (.inl ⟨c4, hn (by omega)⟩)))
        · have hf : reckB op = false := decide_eq_false (by omega)
          by_cases c5 : op < 1
          · exact .inr (.inr (.inr (.inr (.inl ⟨c5, hr hf, hn (by omega)⟩))))
          · cases hq : askB op a b c imm
            · exact .inr (.inr (.inr (.inr (.inr (.inl ⟨by omega, by simpa using c2, by simpa using c3, by simpa using c4, hr hf, rfl⟩)))))
            · refine .inr (.inr (.inr (.inr (.inr (.inr ⟨?_, ?_, hr hf, rfl⟩)))))
              · have : jmpB op = true := by unfold askB at hq; exact ((Bool.and_eq_true _ _).mp hq).2
                exact (hj this).1
              · have : jmpB op = true := by unfold askB at hq; exact ((Bool.and_eq_true _ _).mp hq).2
                exact (hj this).2
theorem brz_any {l : List Int} {A : Int} (a0 : 0 ≤ A) (a1 : A < 16) : askB 17 A 0 0 0 = true ∧ takenB 17 A 0 0 0 l = (regI l A == 0) ∧ askB 18 A 0 0 0 = true ∧ takenB 18 A 0 0 0 l = !(regI l A == 0) := by
  have h : ∀ k : Int, (k = 17 ∨ k = 18) → askB k A 0 0 0 = true := fun k hk => by
    have e : alwB 1 A = true := by unfold alwB; simp; omega
    rcases hk with rfl | rfl
    all_goals
      unfold askB insB
      rw [show hasA _ = 1 by decide, e]
      decide
  refine ⟨h 17 (.inl rfl), ?_, h 18 (.inr rfl), ?_⟩
  · unfold takenB; rw [h 17 (.inl rfl)]; rfl
  · unfold takenB; rw [h 18 (.inr rfl)]; rfl
end Go.Proofs.Ytniahejdddoopaa
