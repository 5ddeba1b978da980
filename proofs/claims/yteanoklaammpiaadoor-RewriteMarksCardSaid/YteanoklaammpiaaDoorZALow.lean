/- A number's low four bits; a register set to what it is: plain facts. -/
import Derived.Test.YteanoklaammpiaaDoorZGAluA
namespace Go.Proofs.YteanoklaammpiaaDoor
open Go.RowKit
theorem i64_low (n : Int) : bits .and .i64 n 15 = n % 16 := by
  have q : (BitVec.ofInt 64 15).toNat = 2 ^ 4 - 1 := by decide
  have key : (BitVec.ofInt 64 n &&& BitVec.ofInt 64 15).toNat = (n % ((2 ^ 64 : Nat) : Int)).toNat % 2 ^ 4 := by
    rw [BitVec.toNat_and, BitVec.toNat_ofInt, q, Nat.and_two_pow_sub_one_eq_mod]
  show IntKind.i64.wrap ((BitVec.ofInt 64 n &&& BitVec.ofInt 64 15).toNat : Nat) = n % 16
  rw [key, IntKind.wrap_i64]
  omega
theorem set_same {l : List Int} (hl : Regs l) {a : Int} (a0 : 0 ≤ a) (a1 : a < 16) : l.set a.toNat (regI l a) = l := by
  apply List.ext_getElem?
  intro i
  rw [List.getElem?_set]
  have := hl.get a0 a1
  have hn := hl.len
  split
  · rename_i e
    subst e
    rw [if_pos (by omega), this]
  · rfl
end Go.Proofs.YteanoklaammpiaaDoor
