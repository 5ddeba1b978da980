/- Registers as values; a step (package alu): what is known of it in a world; how that is carried on. -/
import Derived.Test.YtpkgckjlhjcdmaaBase
import Derived.WalkKit
import Derived.WalkSpells
import Derived.WalkLawsBesides
import Derived.Handy
import Derived.RegionTactic
import Derived.Deep.QuietTactic
import Derived.Deep.WholeRow
import Derived.Deep.Draws
import Derived.BigQuiet
import Derived.IntWalk
import Derived.Outline
import Derived.Laws.AppendOwn
namespace Go.Proofs.Ytpkgckjlhjcdmaa
open Go.RowKit
theorem grown_setRow {w w1 : World} (h : w.grownBy w1 none) {B : Nat} (hB : w.heap.size ≤ B) (cs : Array Value) : w.grownBy (w1.setRow B cs) none :=
  ⟨h.os, h.tape, h.output, by have := h.size; simpa [World.setRow] using this, fun i hi hr => (setRow_other w1 B i cs (by omega)).trans (h.block i hi hr)⟩
/-! ### registers -/
/-- sixteen words -/
structure Regs (l : List Int) : Prop where
  len : l.length = 16
  bd : ∀ x ∈ l, 0 ≤ x ∧ x < 4294967296
/-- the word of a register -/
def regI (l : List Int) (k : Int) : Int := l.getD k.toNat 0
section
variable {l : List Int}
theorem Regs.set (h : Regs l) (k : Nat) {x : Int} (h0 : 0 ≤ x) (h1 : x < 4294967296) : Regs (l.set k x) :=
  ⟨by rw [List.length_set]; exact h.len, fun y hy => by
    rcases List.mem_or_eq_of_mem_set hy with h2 | rfl
    · exact h.bd y h2
    · exact ⟨h0, h1⟩⟩
theorem Regs.get (h : Regs l) {k : Int} (h0 : 0 ≤ k) (h1 : k < 16) : l[k.toNat]? = some (regI l k) := by
  have : k.toNat < l.length := by rw [h.len]; omega
  unfold regI
  rw [List.getD_eq_getElem?_getD, List.getElem?_eq_getElem this]; rfl
theorem Regs.reg (h : Regs l) (k : Int) : 0 ≤ regI l k ∧ regI l k < 4294967296 := by
  unfold regI
  rw [List.getD_eq_getElem?_getD]
  cases e : l[k.toNat]? with
  | none => simp
  | some x => exact h.bd x (List.mem_of_getElem? e)
end
theorem zeros_regs : Regs (List.replicate 16 0) := ⟨by simp, fun x hx => by have := List.eq_of_mem_replicate hx; omega⟩
/-! ### a step -/
section
variable {w w1 : World} {B : Nat} {op a b c imm : Int} {l : List Int}
end
end Go.Proofs.Ytpkgckjlhjcdmaa
