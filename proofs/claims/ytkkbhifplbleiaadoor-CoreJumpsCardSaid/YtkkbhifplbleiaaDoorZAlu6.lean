/- The document's own Alu, operation by operation: contracts. (Made by genAlu6.py.) -/
import Derived.Test.YtkkbhifplbleiaaDoorZGAluB
import Derived.Test.YtkkbhifplbleiaaDoorZGRef
namespace Go.Proofs.YtkkbhifplbleiaaDoor
open Go.RowKit
theorem i64_and15 (n : Int) : bits .and .i64 n 15 = n % 16 := by
  have q : (BitVec.ofInt 64 15).toNat = 2 ^ 4 - 1 := by decide
  have key : (BitVec.ofInt 64 n &&& BitVec.ofInt 64 15).toNat = (n % ((2 ^ 64 : Nat) : Int)).toNat % 2 ^ 4 := by
    rw [BitVec.toNat_and, BitVec.toNat_ofInt, q, Nat.and_two_pow_sub_one_eq_mod]
  show IntKind.i64.wrap ((BitVec.ofInt 64 n &&& BitVec.ofInt 64 15).toNat : Nat) = n % 16
  rw [key, IntKind.wrap_i64]
  omega
/-- what the document's Alu knows behind its question for the word -/
structure RAt (W w1 : World) (op a b c imm : Int) (l : List Int) : Prop where
  hi : w1.heap[W.heap.size]? = some (.cells #[.int .i64 op, .int .i64 a, .int .i64 b, .int .i64 c, .int .u32 imm] 28 (0, 0))
  hr : RegAt w1 (W.heap.size + 1) l
  hz : RegAt w1 (W.heap.size + 1 + 1) zeroL
  hg : W.grownBy w1 none
theorem RAt.mk' {W w1 : World} {op a b c imm : Int} {l : List Int} (hb : ((((W.alloc (.cells #[.int .i64 op, .int .i64 a, .int .i64 b, .int .i64 c, .int .u32 imm] 28)).alloc (.cells (wA l) 24)).alloc (.cells (wA zeroL) 24))).grownBy w1 none) : RAt W w1 op a b c imm l where
  hi := (hb.block _ (by simp; omega) (by simp)).trans ((heap_alloc_old _ _ (by simp; try omega)).trans ((heap_alloc_old _ _ (by simp; try omega)).trans (heap_alloc_last W _)))
  hr := (hb.block _ (by simp) (by simp)).trans ((heap_alloc_old _ _ (by simp; try omega)).trans (heap_alloc2_new W _ _))
  hz := (hb.block _ (by simp) (by simp)).trans (by
    have := heap_alloc2_new (W.alloc (.cells #[.int .i64 op, .int .i64 a, .int .i64 b, .int .i64 c, .int .u32 imm] 28)) (.cells (wA l) 24) (.cells (wA zeroL) 24)
    rw [World.size_alloc] at this; exact this)
  hg := grown_trans (grown_trans (grown_trans (World.grownBy_alloc W _ none) (World.grownBy_alloc _ _ _)) (World.grownBy_alloc _ _ _)) hb
section
variable {W w1 : World} {op a b c imm : Int} {l : List Int}
theorem RAt.k0 (h : RAt W w1 op a b c imm l) : w1.cell? ⟨W.heap.size, 0, none⟩ = some (.int .i64 op) := by rw [cell_of_row _ _ _ _ _ _ h.hi]; rfl
theorem RAt.k1 (h : RAt W w1 op a b c imm l) : w1.cell? ⟨W.heap.size, 1, none⟩ = some (.int .i64 a) := by rw [cell_of_row _ _ _ _ _ _ h.hi]; rfl
theorem RAt.k2 (h : RAt W w1 op a b c imm l) : w1.cell? ⟨W.heap.size, 2, none⟩ = some (.int .i64 b) := by rw [cell_of_row _ _ _ _ _ _ h.hi]; rfl
theorem RAt.k3 (h : RAt W w1 op a b c imm l) : w1.cell? ⟨W.heap.size, 3, none⟩ = some (.int .i64 c) := by rw [cell_of_row _ _ _ _ _ _ h.hi]; rfl
theorem RAt.k4 (h : RAt W w1 op a b c imm l) : w1.cell? ⟨W.heap.size, 4, none⟩ = some (.int .u32 imm) := by rw [cell_of_row _ _ _ _ _ _ h.hi]; rfl
end
theorem set_self {l : List Int} (hl : Regs l) {a : Int} (a0 : 0 ≤ a) (a1 : a < 16) : l.set a.toNat (regI l a) = l := by
  apply List.ext_getElem?
  intro i
  rw [List.getElem?_set]
  have := hl.get a0 a1
  have hn := hl.len
  split
  · rename_i e
    subst e
    rw [if_pos (by omega), this]
  · rfl
section
variable {op a b c imm : Int} {l : List Int}
end
end Go.Proofs.YtkkbhifplbleiaaDoor
