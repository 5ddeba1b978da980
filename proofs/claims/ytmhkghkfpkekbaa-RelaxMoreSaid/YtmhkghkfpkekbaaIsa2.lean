/- What the calls of package isa do: mayBe, Word, Of, Disp: contracts. -/
import Derived.Test.YtmhkghkfpkekbaaIsa1
namespace Go.Proofs.Ytmhkghkfpkekbaa
open Go.RowKit

theorem ret_wb {k : IntKind} {a b : Int} {c : Bool} (h : a = b) : Ending.returned (.tuple #[.int k a, .bool c]) = .returned (.tuple #[.int k b, .bool c]) := by rw [h]

theorem ins_ways (op a b c imm : Int) :
    ((clsI op == 0) = true ∧ Hid (insB op a b c imm = false)) ∨
    ((clsI op == 0) = false ∧ alwB (hasA op) a = false ∧ Hid (insB op a b c imm = false)) ∨
    ((clsI op == 0) = false ∧ alwB (hasA op) a = true ∧ alwB (hasB op) b = false ∧ Hid (insB op a b c imm = false)) ∨
    ((clsI op == 0) = false ∧ alwB (hasA op) a = true ∧ alwB (hasB op) b = true ∧ alwB (hasC op) c = false ∧ Hid (insB op a b c imm = false)) ∨
    ((clsI op == 0) = false ∧ alwB (hasA op) a = true ∧ alwB (hasB op) b = true ∧ alwB (hasC op) c = true ∧ (imm == 0) = true ∧ Hid (insB op a b c imm = true)) ∨
    ((clsI op == 0) = false ∧ alwB (hasA op) a = true ∧ alwB (hasB op) b = true ∧ alwB (hasC op) c = true ∧ (imm == 0) = false ∧ Hid (insB op a b c imm = twoB op)) := by
  unfold Hid
  unfold insB
  by_cases h0 : clsI op = 0
  · left; simp [h0]
  · right
    cases h1 : alwB (hasA op) a
    · left; simp [h0]
    · right
      cases h2 : alwB (hasB op) b
      · left; simp [h0]
      · right
        cases h3 : alwB (hasC op) c
        · left; simp [h0]
        · right
          by_cases h4 : imm = 0
          · left; simp [h0, h4]
          · right; simp [h0, h4]


/-- the four bytes of a word -/
theorem wrd_or (op a b c : Int) (h0 : 0 ≤ op ∧ op ≤ 255) (h1 : 0 ≤ a ∧ a ≤ 255) (h2 : 0 ≤ b ∧ b ≤ 255) (h3 : 0 ≤ c ∧ c ≤ 255) :
    bits BinOp.or IntKind.u32 (bits BinOp.or IntKind.u32 (bits BinOp.or IntKind.u32 (op * 16777216) (a * 65536)) (b * 256)) c = wrdI op a b c := by
  obtain ⟨n0, rfl⟩ := Int.eq_ofNat_of_zero_le h0.1
  obtain ⟨n1, rfl⟩ := Int.eq_ofNat_of_zero_le h1.1
  obtain ⟨n2, rfl⟩ := Int.eq_ofNat_of_zero_le h2.1
  obtain ⟨n3, rfl⟩ := Int.eq_ofNat_of_zero_le h3.1
  have q1 : n0 * 16777216 ||| n1 * 65536 = n0 * 16777216 + n1 * 65536 := nat_join 24 _ _ (by omega) (by omega)
  have q2 : (n0 * 16777216 + n1 * 65536) ||| n2 * 256 = n0 * 16777216 + n1 * 65536 + n2 * 256 := nat_join 16 _ _ (by omega) (by omega)
  have q3 : (n0 * 16777216 + n1 * 65536 + n2 * 256) ||| n3 = n0 * 16777216 + n1 * 65536 + n2 * 256 + n3 := nat_join 8 _ _ (by omega) (by omega)
  have e0 : ((n0 : Int) * 16777216) = ((n0 * 16777216 : Nat) : Int) := by omega
  have e1 : ((n1 : Int) * 65536) = ((n1 * 65536 : Nat) : Int) := by omega
  have e2 : ((n2 : Int) * 256) = ((n2 * 256 : Nat) : Int) := by omega
  unfold wrdI
  rw [e0, e1, e2, u32_or_nat (n0 * 16777216) (n1 * 65536) (by omega) (by omega), q1, u32_or_nat _ (n2 * 256) (by omega) (by omega), q2, u32_or_nat _ n3 (by omega) (by omega), q3]
  omega
theorem and_255 (x : Int) (h : 0 ≤ x) (h' : x < 4294967296) : bits BinOp.and IntKind.u32 x 255 = x % 256 := by
  obtain ⟨n, rfl⟩ := Int.eq_ofNat_of_zero_le h
  rw [show (255 : Int) = ((255 : Nat) : Int) from rfl, u32_and_nat n 255 (by omega) (by decide), nat_mask8]
  omega


def wantImm (op imm : Int) : Int := if twoB op = true then imm else 0
theorem wantImm_yes {op imm : Int} (h : twoB op = true) : wantImm op imm = imm := by unfold wantImm; rw [if_pos h]
theorem wantImm_no {op imm : Int} (h : twoB op = false) : wantImm op imm = 0 := by unfold wantImm; rw [if_neg (by simp [h])]
theorem ret_of {op a b c i op' a' b' c' i' : Int} {t : Bool} (h0 : op = op') (h1 : a = a') (h2 : b = b') (h3 : c = c') (h4 : i = i') :
    Ending.returned (.tuple #[.agg #[.int .i64 op, .int .i64 a, .int .i64 b, .int .i64 c, .int .u32 i], .bool t]) = .returned (.tuple #[.agg #[.int .i64 op', .int .i64 a', .int .i64 b', .int .i64 c', .int .u32 i'], .bool t]) := by rw [h0, h1, h2, h3, h4]


end Go.Proofs.Ytmhkghkfpkekbaa
