/- A processor (api.CPU) as a value, in a block; how that is carried on. -/
import Derived.Test.YtpkgckjlhjcdmaaSRegs
import Derived.Test.YtpkgckjlhjcdmaaDev0
namespace Go.Proofs.Ytpkgckjlhjcdmaa
open Go.RowKit
/-- a processor -/
structure Cp where
  l : List Int
  pc : Int
  ie : Bool
  eie : Bool
  epc : Int
  tv : Int
  ca : Int
  ad : Int
def cpuL (x : Cp) : List Value := x.l.map (Value.int .u32) ++ [.int .u32 x.pc, .bool x.ie, .bool x.eie, .int .u32 x.epc, .int .u32 x.tv, .int .u32 x.ca, .int .u32 x.ad]
def cpuC (x : Cp) : Array Value := (cpuL x).toArray
theorem cpu_one (x : Cp) : (cpuC x).all (·.oneCell') = true := by
  rw [Array.all_eq_true_iff_forall_mem]
  intro v hv
  simp only [cpuC, cpuL, List.mem_toArray, List.mem_append, List.mem_map, List.mem_cons, List.not_mem_nil, or_false] at hv
  rcases hv with ⟨x, _, rfl⟩ | rfl | rfl | rfl | rfl | rfl | rfl | rfl <;> rfl
section
variable {x : Cp} (h : x.l.length = 16)
include h
theorem cpu_size : (cpuC x).size = 23 := by simp [cpuC, cpuL, h]
theorem cpu_tail (k : Nat) : (cpuC x)[16 + k]? = [Value.int .u32 x.pc, .bool x.ie, .bool x.eie, .int .u32 x.epc, .int .u32 x.tv, .int .u32 x.ca, .int .u32 x.ad][k]? := by
  simp only [cpuC, cpuL, List.getElem?_toArray]
  rw [List.getElem?_append_right (by simp [h])]
  simp [h]
theorem cpu_set (k : Nat) (v : Value) : (cpuC x).setIfInBounds (16 + k) v = (x.l.map (Value.int .u32) ++ ([Value.int .u32 x.pc, .bool x.ie, .bool x.eie, .int .u32 x.epc, .int .u32 x.tv, .int .u32 x.ca, .int .u32 x.ad].set k v)).toArray := by
  simp only [cpuC, cpuL, List.setIfInBounds_toArray]
  rw [List.set_append_right _ _ (by simp [h])]
  simp [h]
end
section
variable {w w1 : World} {B : Nat} {x : Cp}
end
/-! ### whole processors, loaded and stored -/
section
variable {ops : Array Oper} {rest : List Oper} {o : Oper} {a : Act} {w : World} {Q : Exit → Act → World → Prop} {g : Nat} {y : Cp}
end
/-- a new processor -/
def zeroP : Cp := ⟨[0, 0, 0, 0, 0, 0, 0, 0, 0, 0, 0, 0, 0, 0, 0, 0], 0, false, false, 0, 0, 0, 0⟩
/-! ### what the calls make of a processor -/
def enterP (x : Cp) (c a : Int) : Cp := if x.tv = 0 then x else { x with epc := x.pc, eie := x.ie, pc := x.tv, ie := false, ca := c % 4294967296, ad := a }
def retP (x : Cp) : Cp := { x with pc := x.epc, ie := x.eie, epc := 0, eie := false }
theorem enterP_l (x : Cp) (c a : Int) : (enterP x c a).l = x.l := by unfold enterP; split <;> rfl
theorem retP_l (x : Cp) : (retP x).l = x.l := rfl
/-- what was written is new -/
theorem grown_setN {w w1 : World} (h : w.grownBy w1 none) {B : Nat} (hB : w.heap.size ≤ B) (k : Nat) (v : Value) : w.grownBy (w1.setCell ⟨B, k, none⟩ v) none :=
  ⟨h.os, h.tape, h.output, by have := h.size; simpa using this, fun i hi hr => (heap_setCell_other _ _ _ _ (by show i ≠ B; omega)).trans (h.block i hi hr)⟩
end Go.Proofs.Ytpkgckjlhjcdmaa
