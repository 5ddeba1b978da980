/- The document's own word of an instruction, and back: contracts. -/
import Derived.Test.YtniahejdddoopaaRef1
namespace Go.Proofs.Ytniahejdddoopaa
open Go.RowKit

theorem rins_yes {op a b c imm : Int} (h : insB op a b c imm = true) :
    (clsI op != 0) = true ∧ regB a (rA op) = true ∧ regB b (rB op) = true ∧ (twoB op = true ∨ twoB op = false ∧ (imm == 0) = true) ∧ (rN op = true ∨ rN op = false ∧ regB c (rC op) = true) := by
  rw [ins_ref] at h
  simp only [Bool.and_eq_true, Bool.or_eq_true, decide_eq_true_eq] at h
  obtain ⟨⟨⟨⟨h1, h2⟩, h3⟩, h4⟩, h5⟩ := h
  refine ⟨by simpa using h1, h2, h3, ?_, ?_⟩
  · cases ht : twoB op
    · right; simp [ht] at h4; simp [h4]
    · left; rfl
  · cases hn : rN op
    · right; simp [hn] at h5; simp [h5]
    · left; rfl
theorem rins_no {op a b c imm : Int} (h : insB op a b c imm = false) :
    ((clsI op != 0) = false ∧ rN op = rN op) ∨
    ((clsI op != 0) = true ∧ regB a (rA op) = false) ∨
    ((clsI op != 0) = true ∧ regB a (rA op) = true ∧ regB b (rB op) = false) ∨
    ((clsI op != 0) = true ∧ regB a (rA op) = true ∧ regB b (rB op) = true ∧ twoB op = false ∧ (imm == 0) = false) ∨
    ((clsI op != 0) = true ∧ regB a (rA op) = true ∧ regB b (rB op) = true ∧ twoB op = true ∧ rN op = true ∧ c < 0) ∨
    ((clsI op != 0) = true ∧ regB a (rA op) = true ∧ regB b (rB op) = true ∧ twoB op = true ∧ rN op = true ∧ 0 ≤ c ∧ decide (c ≤ 255) = false) ∨
    ((clsI op != 0) = true ∧ regB a (rA op) = true ∧ regB b (rB op) = true ∧ twoB op = true ∧ rN op = false ∧ regB c (rC op) = false) ∨
    ((clsI op != 0) = true ∧ regB a (rA op) = true ∧ regB b (rB op) = true ∧ twoB op = false ∧ (imm == 0) = true ∧ rN op = true ∧ c < 0) ∨
    ((clsI op != 0) = true ∧ regB a (rA op) = true ∧ regB b (rB op) = true ∧ twoB op = false ∧ (imm == 0) = true ∧ rN op = true ∧ 0 ≤ c ∧ decide (c ≤ 255) = false) ∨
    ((clsI op != 0) = true ∧ regB a (rA op) = true ∧ regB b (rB op) = true ∧ twoB op = false ∧ (imm == 0) = true ∧ rN op = false ∧ regB c (rC op) = false) := by
  rw [ins_ref] at h
  by_cases h1 : clsI op = 0
  · left; simp [h1]
  · right
    have e1 : (clsI op != 0) = true := by simpa using h1
    cases h2 : regB a (rA op)
    · left; simp [e1]
    · right
      cases h3 : regB b (rB op)
      · left; simp [e1]
      · right
        cases ht : twoB op
        · by_cases hi : imm = 0
          · right; right; right; right
            cases hn : rN op
            · right; right
              simp [h1, h2, h3, ht, hi, hn] at h; simp [e1, hi, h]
            · simp [h1, h2, h3, ht, hi, hn] at h
              by_cases hc : c < 0
              · left; simp [e1, hi, hc]
              · right; left; simp [e1, hi]; omega
          · left; simp [e1, hi]
        · right
          cases hn : rN op
          · right; right; left
            simp [h1, h2, h3, ht, hn] at h; simp [e1, h]
          · simp [h1, h2, h3, ht, hn] at h
            by_cases hc : c < 0
            · left; simp [e1, hc]
            · right; left; simp [e1]; omega

set_option maxHeartbeats 2000000 in
theorem rword_yes (op a b c imm : Int) (w : World) (h : insB op a b c imm = true) :
    Calls Try.prog 18 #[.agg #[.int .i64 op, .int .i64 a, .int .i64 b, .int .i64 c, .int .u32 imm]] w fun e w' => e = .returned (.tuple #[.int .u32 (wrdI op a b c), .bool true]) ∧ Below w.heap.size w w' := by
  obtain ⟨⟨o1, o2⟩, ⟨a1, a2⟩, ⟨b1, b2⟩, ⟨c1, c2⟩⟩ := ins_bd h
  have H : Hid (bits BinOp.or IntKind.u32 (bits BinOp.or IntKind.u32 (bits BinOp.or IntKind.u32 (op * 16777216) (a * 65536)) (b * 256)) c = wrdI op a b c) := wrd_or op a b c ⟨by omega, by omega⟩ ⟨a1, a2⟩ ⟨b1, b2⟩ ⟨c1, c2⟩
  obtain ⟨h1, h2, h3, h4, h5⟩ := rins_yes h
  clear h
  rcases h4 with h4 | ⟨h4, h6⟩ <;> rcases h5 with h5 | ⟨h5, h7⟩
  all_goals
    go_enter Try.func18, Try.ntmps18
    go_wp2_with (first | (go_at_call 38; refine (uses_any _ _).mono ?_; rintro e w' ⟨rfl, rfl⟩) | (go_at_call 39; refine (rclass_any _ _).mono ?_; rintro e w' ⟨rfl, rfl⟩) | (go_at_call 40; refine (reg_any _ _ _).mono ?_; rintro e w' ⟨rfl, rfl⟩) | (go_at_call 41; refine (rtwo_any _ _).mono ?_; rintro e w' ⟨rfl, rfl⟩))
    go_ret2
    exact ⟨ret_wb H.out, by go_grown⟩
set_option maxHeartbeats 4000000 in
theorem rword_no (op a b c imm : Int) (w : World) (h : insB op a b c imm = false) :
    Calls Try.prog 18 #[.agg #[.int .i64 op, .int .i64 a, .int .i64 b, .int .i64 c, .int .u32 imm]] w fun e w' => e = .returned (.tuple #[.int .u32 0, .bool false]) ∧ Below w.heap.size w w' := by
  have h' := rins_no h
  clear h
  rcases h' with ⟨h1, _⟩ | ⟨h1, h2⟩ | ⟨h1, h2, h3⟩ | ⟨h1, h2, h3, h4, h5⟩ | ⟨h1, h2, h3, h4, h5, h6⟩ | ⟨h1, h2, h3, h4, h5, h6, h7⟩ | ⟨h1, h2, h3, h4, h5, h6⟩ | ⟨h1, h2, h3, h4, h5, h6, h7⟩ | ⟨h1, h2, h3, h4, h5, h6, h7, h8⟩ | ⟨h1, h2, h3, h4, h5, h6, h7⟩
  all_goals
    go_enter Try.func18, Try.ntmps18
    go_wp2_with (first | (go_at_call 38; refine (uses_any _ _).mono ?_; rintro e w' ⟨rfl, rfl⟩) | (go_at_call 39; refine (rclass_any _ _).mono ?_; rintro e w' ⟨rfl, rfl⟩) | (go_at_call 40; refine (reg_any _ _ _).mono ?_; rintro e w' ⟨rfl, rfl⟩) | (go_at_call 41; refine (rtwo_any _ _).mono ?_; rintro e w' ⟨rfl, rfl⟩))
    all_goals
      go_ret2
      exact ⟨rfl, by go_grown⟩
theorem rword_any (op a b c imm : Int) (w : World) :
    Calls Try.prog 18 #[.agg #[.int .i64 op, .int .i64 a, .int .i64 b, .int .i64 c, .int .u32 imm]] w fun e w' => e = .returned (.tuple #[.int .u32 (wordV op a b c imm), .bool (insB op a b c imm)]) ∧ Below w.heap.size w w' := by
  cases h : insB op a b c imm
  · rw [wordV_no h]; exact rword_no op a b c imm w h
  · rw [wordV_yes h]; exact rword_yes op a b c imm w h


end Go.Proofs.Ytniahejdddoopaa
