/- A processor (api.CPU) as a value, in a block; how that is carried on. -/
import Derived.Test.YtajminajdcpgnaaSRegs
import Derived.Test.YtajminajdcpgnaaDev0
namespace Go.Proofs.Ytajminajdcpgnaa
open Go.RowKit
/-- a processor -/
structure Cp where
  l : List Int
  pc : Int
  ie : Bool
  eie : Bool
  epc : Int
  tv : Int
  ca : Int
  ad : Int
def cpuL (x : Cp) : List Value := x.l.map (Value.int .u32) ++ [.int .u32 x.pc, .bool x.ie, .bool x.eie, .int .u32 x.epc, .int .u32 x.tv, .int .u32 x.ca, .int .u32 x.ad]
def cpuC (x : Cp) : Array Value := (cpuL x).toArray
/-- a block holds a processor -/
structure CpuAt (w : World) (B : Nat) (x : Cp) : Prop where
  blk : w.heap[B]? = some (.cells (cpuC x) 26 (0, 0))
  len : x.l.length = 16
theorem cpu_info : (Try.prog.info? 26).map (·.size) = some 23 := by kernel_rfl
theorem cpu_one (x : Cp) : (cpuC x).all (·.oneCell') = true := by
  rw [Array.all_eq_true_iff_forall_mem]
  intro v hv
  simp only [cpuC, cpuL, List.mem_toArray, List.mem_append, List.mem_map, List.mem_cons, List.not_mem_nil, or_false] at hv
  rcases hv with ⟨x, _, rfl⟩ | rfl | rfl | rfl | rfl | rfl | rfl | rfl <;> rfl
section
variable {x : Cp} (h : x.l.length = 16)
include h
theorem cpu_size : (cpuC x).size = 23 := by simp [cpuC, cpuL, h]
theorem cpu_size_info : (Try.prog.info? 26).map (·.size) = some (cpuC x).size := by rw [cpu_info, cpu_size h]
theorem cpu_tail (k : Nat) : (cpuC x)[16 + k]? = [Value.int .u32 x.pc, .bool x.ie, .bool x.eie, .int .u32 x.epc, .int .u32 x.tv, .int .u32 x.ca, .int .u32 x.ad][k]? := by
  simp only [cpuC, cpuL, List.getElem?_toArray]
  rw [List.getElem?_append_right (by simp [h])]
  simp [h]
theorem cpu_set (k : Nat) (v : Value) : (cpuC x).setIfInBounds (16 + k) v = (x.l.map (Value.int .u32) ++ ([Value.int .u32 x.pc, .bool x.ie, .bool x.eie, .int .u32 x.epc, .int .u32 x.tv, .int .u32 x.ca, .int .u32 x.ad].set k v)).toArray := by
  simp only [cpuC, cpuL, List.setIfInBounds_toArray]
  rw [List.set_append_right _ _ (by simp [h])]
  simp [h]
end
section
variable {w w1 : World} {B : Nat} {x : Cp}
theorem CpuAt.lt (h : CpuAt w B x) : B < w.heap.size := (Array.getElem?_eq_some_iff.1 h.blk).1
theorem CpuAt.kept {r : Option Nat} (h : CpuAt w B x) (hg : w.grownBy w1 r) (hr : some B ≠ r) : CpuAt w1 B x := ⟨(hg.block _ h.lt hr).trans h.blk, h.len⟩
theorem CpuAt.kept0 (h : CpuAt w B x) (hg : w.grownBy w1 none) : CpuAt w1 B x := h.kept hg (by simp)
theorem CpuAt.keptL {R : List Nat} (h : CpuAt w B x) (hg : Lv w w1 R) (hr : B ∉ R) : CpuAt w1 B x := ⟨(hg.block _ h.lt hr).trans h.blk, h.len⟩
theorem CpuAt.alloc (h : CpuAt w B x) (o : Obj) : CpuAt (w.alloc o) B x := ⟨(heap_alloc_old _ _ h.lt).trans h.blk, h.len⟩
theorem CpuAt.new (w : World) (hl : x.l.length = 16) : CpuAt (w.alloc (.cells (cpuC x) 26)) w.heap.size x := ⟨heap_alloc_last w _, hl⟩
theorem CpuAt.new2 (w : World) (o : Obj) (hl : x.l.length = 16) : CpuAt ((w.alloc o).alloc (.cells (cpuC x) 26)) (w.heap.size + 1) x := ⟨heap_alloc2_new w _ _, hl⟩
theorem CpuAt.other (h : CpuAt w B x) (C k : Nat) (v : Value) (hC : B ≠ C) : CpuAt (w.setCell ⟨C, k, none⟩ v) B x := ⟨(heap_setCell_other _ _ _ _ hC).trans h.blk, h.len⟩
theorem CpuAt.free (h : CpuAt w B x) (k : Nat) : w.frozen? ⟨B, k, none⟩ = false := frozen_of_row w B k _ _ h.blk
theorem CpuAt.row (h : CpuAt w B x) {y : Cp} (hl : y.l.length = 16) : CpuAt (w.setRow B (cpuC y)) B y := ⟨setRow_heap _ _ _ _ _ _ h.blk, hl⟩
theorem CpuAt.cell (h : CpuAt w B x) (k : Nat) {v : Value} (hv : [Value.int .u32 x.pc, .bool x.ie, .bool x.eie, .int .u32 x.epc, .int .u32 x.tv, .int .u32 x.ca, .int .u32 x.ad][k]? = some v) : w.cell? ⟨B, 16 + k, none⟩ = some v := by
  rw [cell_of_row w B (16 + k) _ _ _ h.blk, cpu_tail h.len, hv]
theorem CpuAt.pc (h : CpuAt w B x) : w.cell? ⟨B, 16, none⟩ = some (.int .u32 x.pc) := h.cell 0 rfl
theorem CpuAt.ie (h : CpuAt w B x) : w.cell? ⟨B, 17, none⟩ = some (.bool x.ie) := h.cell 1 rfl
theorem CpuAt.eie (h : CpuAt w B x) : w.cell? ⟨B, 18, none⟩ = some (.bool x.eie) := h.cell 2 rfl
theorem CpuAt.epc (h : CpuAt w B x) : w.cell? ⟨B, 19, none⟩ = some (.int .u32 x.epc) := h.cell 3 rfl
theorem CpuAt.tv (h : CpuAt w B x) : w.cell? ⟨B, 20, none⟩ = some (.int .u32 x.tv) := h.cell 4 rfl
theorem CpuAt.ca (h : CpuAt w B x) : w.cell? ⟨B, 21, none⟩ = some (.int .u32 x.ca) := h.cell 5 rfl
theorem CpuAt.ad (h : CpuAt w B x) : w.cell? ⟨B, 22, none⟩ = some (.int .u32 x.ad) := h.cell 6 rfl
theorem CpuAt.sPc {l : List Int} {pc : Int} {ie eie : Bool} {epc tv ca ad : Int} (h : CpuAt w B ⟨l, pc, ie, eie, epc, tv, ca, ad⟩) (v : Int) : CpuAt (w.setCell ⟨B, 16, none⟩ (.int .u32 v)) B ⟨l, v, ie, eie, epc, tv, ca, ad⟩ :=
  ⟨by rw [heap_setCell_same w B 16 _ _ _ h.blk]; rw [cpu_set h.len 0]; rfl, h.len⟩
theorem CpuAt.sIe {l : List Int} {pc : Int} {ie eie : Bool} {epc tv ca ad : Int} (h : CpuAt w B ⟨l, pc, ie, eie, epc, tv, ca, ad⟩) (v : Bool) : CpuAt (w.setCell ⟨B, 17, none⟩ (.bool v)) B ⟨l, pc, v, eie, epc, tv, ca, ad⟩ :=
  ⟨by rw [heap_setCell_same w B 17 _ _ _ h.blk]; rw [cpu_set h.len 1]; rfl, h.len⟩
theorem CpuAt.sEie {l : List Int} {pc : Int} {ie eie : Bool} {epc tv ca ad : Int} (h : CpuAt w B ⟨l, pc, ie, eie, epc, tv, ca, ad⟩) (v : Bool) : CpuAt (w.setCell ⟨B, 18, none⟩ (.bool v)) B ⟨l, pc, ie, v, epc, tv, ca, ad⟩ :=
  ⟨by rw [heap_setCell_same w B 18 _ _ _ h.blk]; rw [cpu_set h.len 2]; rfl, h.len⟩
theorem CpuAt.sEpc {l : List Int} {pc : Int} {ie eie : Bool} {epc tv ca ad : Int} (h : CpuAt w B ⟨l, pc, ie, eie, epc, tv, ca, ad⟩) (v : Int) : CpuAt (w.setCell ⟨B, 19, none⟩ (.int .u32 v)) B ⟨l, pc, ie, eie, v, tv, ca, ad⟩ :=
  ⟨by rw [heap_setCell_same w B 19 _ _ _ h.blk]; rw [cpu_set h.len 3]; rfl, h.len⟩
theorem CpuAt.sTv {l : List Int} {pc : Int} {ie eie : Bool} {epc tv ca ad : Int} (h : CpuAt w B ⟨l, pc, ie, eie, epc, tv, ca, ad⟩) (v : Int) : CpuAt (w.setCell ⟨B, 20, none⟩ (.int .u32 v)) B ⟨l, pc, ie, eie, epc, v, ca, ad⟩ :=
  ⟨by rw [heap_setCell_same w B 20 _ _ _ h.blk]; rw [cpu_set h.len 4]; rfl, h.len⟩
theorem CpuAt.sCa {l : List Int} {pc : Int} {ie eie : Bool} {epc tv ca ad : Int} (h : CpuAt w B ⟨l, pc, ie, eie, epc, tv, ca, ad⟩) (v : Int) : CpuAt (w.setCell ⟨B, 21, none⟩ (.int .u32 v)) B ⟨l, pc, ie, eie, epc, tv, v, ad⟩ :=
  ⟨by rw [heap_setCell_same w B 21 _ _ _ h.blk]; rw [cpu_set h.len 5]; rfl, h.len⟩
theorem CpuAt.sAd {l : List Int} {pc : Int} {ie eie : Bool} {epc tv ca ad : Int} (h : CpuAt w B ⟨l, pc, ie, eie, epc, tv, ca, ad⟩) (v : Int) : CpuAt (w.setCell ⟨B, 22, none⟩ (.int .u32 v)) B ⟨l, pc, ie, eie, epc, tv, ca, v⟩ :=
  ⟨by rw [heap_setCell_same w B 22 _ _ _ h.blk]; rw [cpu_set h.len 6]; rfl, h.len⟩
/-- the registers of a processor lie ahead -/
theorem CpuAt.regs (h : CpuAt w B x) : w.rangeAt B 0 (x.l.map (Value.int .u32)) := by
  intro j v hv
  rw [cell_of_row w B (0 + j) _ _ _ h.blk, Nat.zero_add]
  simp only [cpuC, cpuL, List.getElem?_toArray]
  rw [List.getElem?_append_left (List.getElem?_eq_some_iff.1 hv).1]
  exact hv
end
/-! ### whole processors, loaded and stored -/
section
variable {ops : Array Oper} {rest : List Oper} {o : Oper} {a : Act} {w : World} {Q : Exit → Act → World → Prop} {g : Nat} {y : Cp}
theorem wpList_load_cpu (hgd : o.guard = none) (p : Operand) (ho : o.op = .load 26 p) (hx : a.eval p = .pointer (some ⟨g, 0, none⟩)) (hg : CpuAt w g y)
    (h : wpList Try.prog ops Q rest (a.put o.dst (.agg (cpuC y))) w) : wpList Try.prog ops Q (o :: rest) a w :=
  wpList_load_row hgd 26 p ho g hx _ _ _ _ hg.blk Try.underlying26 rfl (cpu_size_info hg.len) h
theorem wpList_store_cpu (hgd : o.guard = none) (p q : Operand) (ho : o.op = .store 26 p q) (hx : a.eval p = .pointer (some ⟨g, 0, none⟩)) (hy : a.eval q = .agg (cpuC y)) {z : Cp} (hg : CpuAt w g z) (hl : y.l.length = 16)
    (h : wpList Try.prog ops Q rest (a.put o.dst undef) (w.setRow g (cpuC y))) : wpList Try.prog ops Q (o :: rest) a w :=
  wpList_store_row hgd 26 p q ho g _ hx hy _ _ hg.blk (cpu_size_info hl) (by rw [cpu_size hg.len, cpu_size hl]) (cpu_one y) h
end
/-- a new processor -/
def zeroP : Cp := ⟨[0, 0, 0, 0, 0, 0, 0, 0, 0, 0, 0, 0, 0, 0, 0, 0], 0, false, false, 0, 0, 0, 0⟩
theorem zero_cpu (w : World) : (zeroValue 26).run Try.prog w = .ok (.agg (cpuC zeroP)) w := by kernel_rfl
/-! ### what the calls make of a processor -/
def enterP (x : Cp) (c a : Int) : Cp := if x.tv = 0 then x else { x with epc := x.pc, eie := x.ie, pc := x.tv, ie := false, ca := c % 4294967296, ad := a }
def retP (x : Cp) : Cp := { x with pc := x.epc, ie := x.eie, epc := 0, eie := false }
theorem enterP_l (x : Cp) (c a : Int) : (enterP x c a).l = x.l := by unfold enterP; split <;> rfl
theorem retP_l (x : Cp) : (retP x).l = x.l := rfl
/-- what was written is new -/
theorem grown_setN {w w1 : World} (h : w.grownBy w1 none) {B : Nat} (hB : w.heap.size ≤ B) (k : Nat) (v : Value) : w.grownBy (w1.setCell ⟨B, k, none⟩ v) none :=
  ⟨h.os, h.tape, h.output, by have := h.size; simpa using this, fun i hi hr => (heap_setCell_other _ _ _ _ (by show i ≠ B; omega)).trans (h.block i hi hr)⟩
end Go.Proofs.Ytajminajdcpgnaa
