/- Registers as values; a step (package alu): what is known of it in a world; how that is carried on. -/
import Derived.Test.YtajminajdcpgnaaBase
import Derived.WalkKit
import Derived.WalkSpells
import Derived.WalkLawsBesides
import Derived.Handy
import Derived.RegionTactic
import Derived.Deep.QuietTactic
import Derived.Deep.WholeRow
import Derived.Deep.Draws
import Derived.BigQuiet
import Derived.IntWalk
import Derived.Outline
import Derived.Laws.AppendOwn
namespace Go.Proofs.Ytajminajdcpgnaa
open Go.RowKit
theorem grown_setRow {w w1 : World} (h : w.grownBy w1 none) {B : Nat} (hB : w.heap.size ≤ B) (cs : Array Value) : w.grownBy (w1.setRow B cs) none :=
  ⟨h.os, h.tape, h.output, by have := h.size; simpa [World.setRow] using this, fun i hi hr => (setRow_other w1 B i cs (by omega)).trans (h.block i hi hr)⟩
/-! ### registers -/
theorem regs_info : (Try.prog.info? 24).map (·.size) = some 16 := by kernel_rfl
theorem regs_len_info (l : List Int) (h : l.length = 16) : (Try.prog.info? 24).map (·.size) = some (wA l).size := by rw [regs_info, wA_size, h]
/-- sixteen words -/
structure Regs (l : List Int) : Prop where
  len : l.length = 16
  bd : ∀ x ∈ l, 0 ≤ x ∧ x < 4294967296
/-- the word of a register -/
def regI (l : List Int) (k : Int) : Int := l.getD k.toNat 0
section
variable {l : List Int}
theorem Regs.info (h : Regs l) : (Try.prog.info? 24).map (·.size) = some (wA l).size := by rw [regs_info, wA_size, h.len]
theorem Regs.set (h : Regs l) (k : Nat) {x : Int} (h0 : 0 ≤ x) (h1 : x < 4294967296) : Regs (l.set k x) :=
  ⟨by rw [List.length_set]; exact h.len, fun y hy => by
    rcases List.mem_or_eq_of_mem_set hy with h2 | rfl
    · exact h.bd y h2
    · exact ⟨h0, h1⟩⟩
theorem Regs.get (h : Regs l) {k : Int} (h0 : 0 ≤ k) (h1 : k < 16) : l[k.toNat]? = some (regI l k) := by
  have : k.toNat < l.length := by rw [h.len]; omega
  unfold regI
  rw [List.getD_eq_getElem?_getD, List.getElem?_eq_getElem this]; rfl
theorem Regs.reg (h : Regs l) (k : Int) : 0 ≤ regI l k ∧ regI l k < 4294967296 := by
  unfold regI
  rw [List.getD_eq_getElem?_getD]
  cases e : l[k.toNat]? with
  | none => simp
  | some x => exact h.bd x (List.mem_of_getElem? e)
end
theorem zeros_regs : Regs (List.replicate 16 0) := ⟨by simp, fun x hx => by have := List.eq_of_mem_replicate hx; omega⟩
/-- the registers lie in a block -/
def RegAt (w : World) (B : Nat) (l : List Int) : Prop := w.heap[B]? = some (.cells (wA l) 24 (0, 0))
theorem RegAt.lt {w : World} {B : Nat} {l : List Int} (h : RegAt w B l) : B < w.heap.size := (Array.getElem?_eq_some_iff.1 h).1
theorem RegAt.kept {w w1 : World} {B : Nat} {l : List Int} {r : Option Nat} (h : RegAt w B l) (hg : w.grownBy w1 r) (hr : some B ≠ r) : RegAt w1 B l := (hg.block _ h.lt hr).trans h
theorem RegAt.kept0 {w w1 : World} {B : Nat} {l : List Int} (h : RegAt w B l) (hg : w.grownBy w1 none) : RegAt w1 B l := h.kept hg (by simp)
theorem RegAt.new (w : World) (l : List Int) : RegAt (w.alloc (.cells (wA l) 24)) w.heap.size l := heap_alloc_last w _
theorem RegAt.cell {w : World} {B : Nat} {l : List Int} (h : RegAt w B l) {k : Nat} {x : Int} (hx : l[k]? = some x) : w.cell? ⟨B, k, none⟩ = some (.int .u32 x) := by
  rw [cell_of_row w B k _ _ _ h, wA_get, hx]; rfl
theorem RegAt.free {w : World} {B : Nat} {l : List Int} (h : RegAt w B l) (k : Nat) : w.frozen? ⟨B, k, none⟩ = false := frozen_of_row w B k _ _ h
theorem RegAt.set {w : World} {B : Nat} {l : List Int} (h : RegAt w B l) (k : Nat) (x : Int) : RegAt (w.setCell ⟨B, k, none⟩ (.int .u32 x)) B (l.set k x) := by
  unfold RegAt at h ⊢
  rw [heap_setCell_same w B k _ _ _ h, wA_set]
/-! ### a step -/
section
variable {w w1 : World} {B : Nat} {op a b c imm : Int} {l : List Int}
end
end Go.Proofs.Ytajminajdcpgnaa
