/- Reading a word back; like instructions; the low bits of a distance: contracts and plain facts. -/
import Derived.Test.YtniahejdddoopaaIsa4
namespace Go.Proofs.Ytniahejdddoopaa
open Go.RowKit

theorem i64_and255 (n : Int) : bits .and .i64 n 255 = n % 256 := by
  have q : (BitVec.ofInt 64 255).toNat = 2 ^ 8 - 1 := by decide
  have key : (BitVec.ofInt 64 n &&& BitVec.ofInt 64 255).toNat = (n % ((2 ^ 64 : Nat) : Int)).toNat % 2 ^ 8 := by
    rw [BitVec.toNat_and, BitVec.toNat_ofInt, q, Nat.and_two_pow_sub_one_eq_mod]
  show IntKind.i64.wrap ((BitVec.ofInt 64 n &&& BitVec.ofInt 64 255).toNat : Nat) = n % 256
  rw [key, IntKind.wrap_i64]
  omega

/-- the bytes of a word -/
theorem wrd_parts (op a b c : Int) (h1 : 0 ≤ a ∧ a ≤ 255) (h2 : 0 ≤ b ∧ b ≤ 255) (h3 : 0 ≤ c ∧ c ≤ 255) :
    wrdI op a b c / 16777216 = op ∧ wrdI op a b c / 65536 % 256 = a ∧ wrdI op a b c / 256 % 256 = b ∧ wrdI op a b c % 256 = c := by
  unfold wrdI; omega
theorem wrd_back (x : Int) : wrdI (x / 16777216) (x / 65536 % 256) (x / 256 % 256) (x % 256) = x := by
  unfold wrdI; omega


theorem cls_lo {op : Int} (h : clsI op ≠ 0) : 1 ≤ clsI op := by
  unfold clsI at h ⊢; repeat' split
  all_goals simp_all
theorem cls_hi (op : Int) : clsI op ≤ 4 := by
  unfold clsI; repeat' split
  all_goals omega
theorem jmp_cls {op : Int} (h : jmpB op = true) : clsI op = 1 := by
  unfold jmpB at h; have h := of_decide_eq_true h
  unfold clsI; rw [if_pos (by omega)]
theorem ins_two {op : Int} (hc : clsI op ≠ 0) (ht : twoB op = true) (j : Int) : insB op 0 0 0 j = true := by
  unfold insB; simp [hc, ht, alw_zero]
theorem ins_one {op : Int} (hc : clsI op ≠ 0) (ht : twoB op = false) (j : Int) : insB op 0 0 0 j = decide (j = 0) := by
  unfold insB; simp [hc, ht, alw_zero]

theorem two_below (op : Int) (w : World) :
    Calls Try.prog 53 #[.agg #[], .int .i64 op] w fun e w' => e = .returned (.bool (twoB op)) ∧ Below w.heap.size w w' :=
  (two_any op w).mono fun _ _ ⟨he, hw⟩ => ⟨he, by rw [hw]; exact (Below.refl _ _).alloc (Nat.le_refl _) _⟩

def samI (op a b c i op' a' b' c' i' : Int) : Bool := op == op' && a == a' && b == b' && c == c' && i == i'
theorem sam_ways (op a b c i op' a' b' c' i' : Int) :
    ((op == op') = false ∧ Hid (samI op a b c i op' a' b' c' i' = false)) ∨
    ((op == op') = true ∧ (a == a') = false ∧ Hid (samI op a b c i op' a' b' c' i' = false)) ∨
    ((op == op') = true ∧ (a == a') = true ∧ (b == b') = false ∧ Hid (samI op a b c i op' a' b' c' i' = false)) ∨
    ((op == op') = true ∧ (a == a') = true ∧ (b == b') = true ∧ (c == c') = false ∧ Hid (samI op a b c i op' a' b' c' i' = false)) ∨
    ((op == op') = true ∧ (a == a') = true ∧ (b == b') = true ∧ (c == c') = true ∧ Hid (samI op a b c i op' a' b' c' i' = (i == i'))) := by
  unfold Hid samI
  cases op == op' <;> cases a == a' <;> cases b == b' <;> cases c == c' <;> simp

end Go.Proofs.Ytniahejdddoopaa
