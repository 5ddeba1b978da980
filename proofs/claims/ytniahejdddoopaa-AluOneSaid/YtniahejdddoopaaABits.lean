/- Plain facts on words: shifts, bits, sums; no program is named here. -/
import Derived.Laws.BitsAllLaws
namespace Go.Proofs.Ytniahejdddoopaa
theorem and_or_both (x y : Nat) : (x ||| y) + (x &&& y) = x + y ∧ (x ^^^ y) + (x &&& y) = (x ||| y) := by
  have h : ∀ k : Nat, ∀ x y : Nat, x < 2 ^ k → y < 2 ^ k → (x ||| y) + (x &&& y) = x + y ∧ (x ^^^ y) + (x &&& y) = (x ||| y) := by
    intro k
    induction k with
    | zero =>
      intro x y hx hy
      obtain rfl : x = 0 := by omega
      obtain rfl : y = 0 := by omega
      exact ⟨rfl, rfl⟩
    | succ k ih =>
      intro x y hx hy
      rw [Nat.pow_succ] at hx hy
      have h2 := ih (x / 2) (y / 2) (by omega) (by omega)
      have o1 : (x ||| y) / 2 = x / 2 ||| y / 2 := Nat.or_div_two
      have a1 : (x &&& y) / 2 = x / 2 &&& y / 2 := Nat.and_div_two
      have e1 : (x ^^^ y) / 2 = x / 2 ^^^ y / 2 := Nat.xor_div_two
      have o2 := @Nat.or_mod_two_eq_one x y
      have a2 := @Nat.and_mod_two_eq_one x y
      have e2 := @Nat.xor_mod_two_eq_one x y
      rw [← o1, ← a1, ← e1] at h2
      generalize x ||| y = p at *
      generalize x &&& y = q at *
      generalize x ^^^ y = r at *
      clear o1 a1 e1 ih hx hy
      rcases Nat.mod_two_eq_zero_or_one x with hx | hx <;> rcases Nat.mod_two_eq_zero_or_one y with hy | hy <;> simp [hx, hy] at o2 a2 e2 <;> omega
  have hx : x < 2 ^ (x + y) := Nat.lt_of_lt_of_le Nat.lt_two_pow_self (Nat.pow_le_pow_right (by decide) (by omega))
  have hy : y < 2 ^ (x + y) := Nat.lt_of_lt_of_le Nat.lt_two_pow_self (Nat.pow_le_pow_right (by decide) (by omega))
  exact h (x + y) x y hx hy
theorem ones_div {n : Nat} (h : n < 32) : 4294967295 / 2 ^ n = 2 ^ (32 - n) - 1 := by
  have e : 2 ^ (32 - n) * 2 ^ n = 4294967296 := by rw [← Nat.pow_add, show 32 - n + n = 32 by omega]
  have hp : 0 < 2 ^ n := Nat.pow_pos (by decide)
  have hq : 0 < 2 ^ (32 - n) := Nat.pow_pos (by decide)
  rw [Nat.div_eq_iff hp]
  generalize 2 ^ (32 - n) = q at *
  generalize 2 ^ n = p at *
  obtain ⟨q', rfl⟩ : ∃ q', q = q' + 1 := ⟨q - 1, by omega⟩
  rw [Nat.add_mul] at e
  simp only [Nat.add_sub_cancel]
  omega
theorem shl_back {x n : Nat} (h : n < 32) : x * 2 ^ n % 4294967296 / 2 ^ n = x &&& 4294967295 / 2 ^ n := by
  have e : 4294967296 = 2 ^ (32 - n) * 2 ^ n := by rw [← Nat.pow_add, show 32 - n + n = 32 by omega]
  have hp : 0 < 2 ^ n := Nat.pow_pos (by decide)
  rw [ones_div h, Nat.and_two_pow_sub_one_eq_mod, e, Nat.mul_mod_mul_right, Nat.mul_div_cancel _ hp]
theorem ones_mul {n : Nat} (h : n < 32) : 4294967295 * 2 ^ n % 4294967296 = 2 ^ n * (2 ^ (32 - n) - 1) := by
  have e : 2 ^ n * 2 ^ (32 - n) = 4294967296 := by rw [← Nat.pow_add, show n + (32 - n) = 32 by omega]
  have hp : 0 < 2 ^ n := Nat.pow_pos (by decide)
  have hq : 0 < 2 ^ (32 - n) := Nat.pow_pos (by decide)
  generalize 2 ^ (32 - n) = q at *
  generalize 2 ^ n = p at *
  obtain ⟨q', rfl⟩ : ∃ q', q = q' + 1 := ⟨q - 1, by omega⟩
  rw [Nat.mul_add] at e
  simp only [Nat.add_sub_cancel]
  omega
theorem shr_back {x n : Nat} (h : n < 32) (hx : x < 4294967296) : x / 2 ^ n * 2 ^ n % 4294967296 = x &&& 4294967295 * 2 ^ n % 4294967296 := by
  have hp : 0 < 2 ^ n := Nat.pow_pos (by decide)
  rw [Nat.mod_eq_of_lt (Nat.lt_of_le_of_lt (Nat.div_mul_le_self x (2 ^ n)) hx), ones_mul h]
  apply Nat.eq_of_testBit_eq
  intro i
  rw [Nat.mul_comm, Nat.testBit_two_pow_mul, Nat.testBit_and, Nat.testBit_two_pow_mul, Nat.testBit_two_pow_sub_one]
  by_cases hi : n ≤ i
  · rw [Nat.testBit_div_two_pow, show i - n + n = i by omega]
    by_cases h2 : i < 32
    · simp [hi, show i - n < 32 - n by omega]
    · have : x.testBit i = false := Nat.testBit_lt_two_pow (Nat.lt_of_lt_of_le hx (by rw [show 4294967296 = 2 ^ 32 by decide]; exact Nat.pow_le_pow_right (by decide) (by omega)))
      simp [this]
  · simp [hi]
theorem pow_cast (n : Nat) : ((2 : Int) ^ n) = ((2 ^ n : Nat) : Int) := by simp
/-- shifted twice -/
theorem shl_shl (w : Int) (n m : Nat) : w * 2 ^ n % 4294967296 * 2 ^ m % 4294967296 = w * 2 ^ (n + m) % 4294967296 := by
  rw [Int.mul_emod (w * 2 ^ n % 4294967296) (2 ^ m), Int.emod_emod, ← Int.mul_emod, Int.pow_add, Int.mul_assoc]
theorem shr_shr (w : Int) (n m : Nat) : w / 2 ^ n / 2 ^ m = w / 2 ^ (n + m) := by
  have hp : (0 : Int) < 2 ^ n := Int.pow_pos (by decide)
  rw [Int.pow_add, Int.ediv_ediv, if_neg (fun h => by have := h.1; omega), Int.sub_zero]
theorem shl_one (w : Int) : w * 2 ^ (1 : Nat) % 4294967296 = (w + w) % 4294967296 := by
  rw [show (2 : Int) ^ (1 : Nat) = 2 by decide]; congr 1; omega
theorem nat_pow_lt {n : Nat} (h : n < 32) : 2 ^ n < 4294967296 := by
  rw [show 4294967296 = 2 ^ 32 by decide]; exact Nat.pow_lt_pow_right (by decide) h
/-- the bits of two words, as sums -/
theorem word_sums {X Y : Int} (x0 : 0 ≤ X) (x1 : X < 4294967296) (y0 : 0 ≤ Y) (y1 : Y < 4294967296) :
    (bits BinOp.or IntKind.u32 X Y + bits BinOp.and IntKind.u32 X Y) % 4294967296 = (X + Y) % 4294967296 ∧
    (bits BinOp.or IntKind.u32 X Y - bits BinOp.and IntKind.u32 X Y) % 4294967296 = bits BinOp.xor IntKind.u32 X Y := by
  obtain ⟨x, rfl⟩ := Int.eq_ofNat_of_zero_le x0
  obtain ⟨y, rfl⟩ := Int.eq_ofNat_of_zero_le y0
  have h := and_or_both x y
  have hb : x ^^^ y < 2 ^ 32 := Nat.xor_lt_two_pow (by omega) (by omega)
  rw [u32_or_nat x y (by omega) (by omega), u32_and_nat x y (by omega) (by omega), u32_xor _ _ (by omega) (by omega) (by omega) (by omega)]
  simp only [Int.toNat_natCast]
  omega
/-- shifted there and back -/
theorem word_backs {X N : Int} (x0 : 0 ≤ X) (x1 : X < 4294967296) (n0 : 0 ≤ N) (n1 : N < 32) :
    bits BinOp.and IntKind.u32 X (4294967295 / 2 ^ N.toNat) = X * 2 ^ N.toNat % 4294967296 / 2 ^ N.toNat ∧
    bits BinOp.and IntKind.u32 X (4294967295 * 2 ^ N.toNat % 4294967296) = X / 2 ^ N.toNat * 2 ^ N.toNat % 4294967296 := by
  obtain ⟨x, rfl⟩ := Int.eq_ofNat_of_zero_le x0
  obtain ⟨n, rfl⟩ := Int.eq_ofNat_of_zero_le n0
  simp only [Int.toNat_natCast]
  have hn : n < 32 := by omega
  have hp : 0 < 2 ^ n := Nat.pow_pos (by decide)
  have q1 : ((4294967295 : Int) / 2 ^ n) = ((4294967295 / 2 ^ n : Nat) : Int) := by rw [pow_cast, Int.natCast_ediv]; rfl
  have q2 : ((4294967295 : Int) * 2 ^ n % 4294967296) = ((4294967295 * 2 ^ n % 4294967296 : Nat) : Int) := by rw [pow_cast, Int.natCast_emod, Int.natCast_mul]; rfl
  have q3 : ((x : Int) * 2 ^ n % 4294967296 / 2 ^ n) = ((x * 2 ^ n % 4294967296 / 2 ^ n : Nat) : Int) := by rw [pow_cast, Int.natCast_ediv, Int.natCast_emod, Int.natCast_mul]; rfl
  have q4 : ((x : Int) / 2 ^ n * 2 ^ n % 4294967296) = ((x / 2 ^ n * 2 ^ n % 4294967296 : Nat) : Int) := by rw [pow_cast, Int.natCast_emod, Int.natCast_mul, Int.natCast_ediv]; rfl
  rw [q1, q2, q3, q4, u32_and_nat x _ (by omega) (Nat.lt_of_le_of_lt (Nat.div_le_self _ _) (by decide)), u32_and_nat x _ (by omega) (Nat.mod_lt _ (by decide)), shl_back hn, shr_back hn (by omega)]
  exact ⟨rfl, rfl⟩
end Go.Proofs.Ytniahejdddoopaa
