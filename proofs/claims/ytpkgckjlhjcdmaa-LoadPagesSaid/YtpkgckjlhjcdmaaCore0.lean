/- Blocks of a call's own that hold structs: what is known of them; regions that load and store whole structs; a stop, an instruction as cells. -/
import Derived.Test.YtpkgckjlhjcdmaaCpu0
import Derived.StillTailTactics
import Derived.Deep.Cut
namespace Go.Proofs.Ytpkgckjlhjcdmaa
open Go.RowKit
/-- a block holds these cells -/
structure RwAt (w : World) (B : Nat) (t : TypeId) (cs : Array Value) : Prop where
  blk : w.heap[B]? = some (.cells cs t (0, 0))
section
variable {w w1 : World} {B : Nat} {t : TypeId} {cs : Array Value}
theorem RwAt.lt (h : RwAt w B t cs) : B < w.heap.size := (Array.getElem?_eq_some_iff.1 h.blk).1
theorem RwAt.kept {r : Option Nat} (h : RwAt w B t cs) (hg : w.grownBy w1 r) (hr : some B ≠ r) : RwAt w1 B t cs := ⟨(hg.block _ h.lt hr).trans h.blk⟩
theorem RwAt.kept0 (h : RwAt w B t cs) (hg : w.grownBy w1 none) : RwAt w1 B t cs := h.kept hg (by simp)
theorem RwAt.keptL {R : List Nat} (h : RwAt w B t cs) (hg : Lv w w1 R) (hr : B ∉ R) : RwAt w1 B t cs := ⟨(hg.block _ h.lt hr).trans h.blk⟩
theorem RwAt.alloc (h : RwAt w B t cs) (o : Obj) : RwAt (w.alloc o) B t cs := ⟨(heap_alloc_old _ _ h.lt).trans h.blk⟩
theorem RwAt.new (w : World) (t : TypeId) (cs : Array Value) : RwAt (w.alloc (.cells cs t)) w.heap.size t cs := ⟨heap_alloc_last w _⟩
theorem RwAt.new2 (w : World) (o : Obj) (t : TypeId) (cs : Array Value) : RwAt ((w.alloc o).alloc (.cells cs t)) (w.heap.size + 1) t cs := ⟨heap_alloc2_new w _ _⟩
theorem RwAt.other (h : RwAt w B t cs) (C k : Nat) (v : Value) (hC : B ≠ C) : RwAt (w.setCell ⟨C, k, none⟩ v) B t cs := ⟨(heap_setCell_other _ _ _ _ hC).trans h.blk⟩
theorem RwAt.set (h : RwAt w B t cs) (k : Nat) (v : Value) : RwAt (w.setCell ⟨B, k, none⟩ v) B t (cs.setIfInBounds k v) := ⟨heap_setCell_same w B k _ _ _ h.blk⟩
theorem RwAt.row (h : RwAt w B t cs) (c : Array Value) : RwAt (w.setRow B c) B t c := ⟨setRow_heap _ _ _ _ _ _ h.blk⟩
theorem RwAt.cell (h : RwAt w B t cs) (k : Nat) {v : Value} (hv : cs[k]? = some v) : w.cell? ⟨B, k, none⟩ = some v := by
  rw [cell_of_row w B k _ _ _ h.blk, hv]
theorem RwAt.free (h : RwAt w B t cs) (k : Nat) : w.frozen? ⟨B, k, none⟩ = false := frozen_of_row w B k _ _ h.blk
end
theorem lv_row {w w1 : World} {R : List Nat} (h : Lv w w1 R) {b : Nat} (hb : b ∈ R) (c : Array Value) : Lv w (w1.setRow b c) R := by
  exact h.trans ⟨rfl, rfl, rfl, by simp [World.setRow], fun i _ hi => setRow_other w1 b i c (fun e => hi (by rw [e]; exact hb))⟩
/-! ### regions that load whole structs first -/
section
variable {P : Program} {ops : Array Oper} {rest : List Oper} {o : Oper} {a : Act} {w : World} {Q : Act → Prop}
theorem wpStill_yields (hgd : o.guard = none) {v : Value} (hr : (execOp a.eval o).run P w = .ok (.value v) w) (h : wpStill P ops w Q rest (a.put o.dst v)) : wpStill P ops w Q (o :: rest) a := by
  refine wpStill_step (fun K hK => ?_)
  have hw : Region.wanted o (yielded ops a.tmps) = true := by unfold Region.wanted; rw [hgd]
  rw [if_pos hw]
  unfold Oper.still
  rw [hr, Oper.stillUpon_value]
  exact hK _ h
theorem run_load_row (t : TypeId) (p : Operand) (ho : o.op = .load t p) {g : Nat} (hx : a.eval p = .pointer (some ⟨g, 0, none⟩)) {t' : TypeId} {cs : Array Value} {fr : Nat × Nat} {d : TypeDesc}
    (hg : w.heap[g]? = some (.cells cs t' fr)) (hd : d.isRow = true) (hu : P.underlying t = some d) (hi : (P.info? t).map (·.size) = some cs.size) :
    (execOp a.eval o).run P w = .ok (.value (.agg cs)) w := by
  have hv := run_loadVar_row (P := P) w g t' t cs fr d hg hu (by cases d <;> first | rfl | cases hd) hi
  unfold execOp
  simp only [ho, hx, Instr.loadAt, Instr.sureAddr, Sem.run_bind, Sem.run_pure, Result.andThen_ok, hv]
end
section
variable {ops : Array Oper} {rest : List Oper} {o : Oper} {a : Act} {w : World}
theorem wpStill_load_rw {Q : Act → Prop} (hgd : o.guard = none) (t : TypeId) (p : Operand) (ho : o.op = .load t p) {g : Nat} (hx : a.eval p = .pointer (some ⟨g, 0, none⟩)) {cs : Array Value} (hg : RwAt w g t cs) {d : TypeDesc}
    (hd : d.isRow = true) (hu : Try.prog.underlying t = some d) (hi : (Try.prog.info? t).map (·.size) = some cs.size)
    (h : wpStill Try.prog ops w Q rest (a.put o.dst (.agg cs))) : wpStill Try.prog ops w Q (o :: rest) a :=
  wpStill_yields hgd (run_load_row t p ho hx hg.blk hd hu hi) h
theorem wpList_load_rw {Q : Exit → Act → World → Prop} (hgd : o.guard = none) (t : TypeId) (p : Operand) (ho : o.op = .load t p) {g : Nat} (hx : a.eval p = .pointer (some ⟨g, 0, none⟩)) {cs : Array Value} (hg : RwAt w g t cs) {d : TypeDesc}
    (hd : d.isRow = true) (hu : Try.prog.underlying t = some d) (hi : (Try.prog.info? t).map (·.size) = some cs.size)
    (h : wpList Try.prog ops Q rest (a.put o.dst (.agg cs)) w) : wpList Try.prog ops Q (o :: rest) a w :=
  wpList_load_row hgd t p ho g hx _ _ _ d hg.blk hu (by cases d <;> first | rfl | cases hd) hi h
theorem wpList_store_rw {Q : Exit → Act → World → Prop} (hgd : o.guard = none) (t : TypeId) (p q : Operand) (ho : o.op = .store t p q) {g : Nat} (hx : a.eval p = .pointer (some ⟨g, 0, none⟩)) {cs : Array Value} (hy : a.eval q = .agg cs) {z : Array Value} (hz : RwAt w g t z)
    (hi : (Try.prog.info? t).map (·.size) = some cs.size) (hs : z.size = cs.size) (h1 : cs.all (·.oneCell') = true)
    (h : wpList Try.prog ops Q rest (a.put o.dst undef) (w.setRow g cs)) : wpList Try.prog ops Q (o :: rest) a w :=
  wpList_store_row hgd t p q ho g _ hx hy _ _ hz.blk hi hs h1 h
end
/-! ### stops and instructions -/
def spC (ca ad op a b c im ln : Int) : Array Value := #[.int .i64 ca, .int .u32 ad, .int .i64 op, .int .i64 a, .int .i64 b, .int .i64 c, .int .u32 im, .int .u32 ln]
def inC (op a b c im : Int) : Array Value := #[.int .i64 op, .int .i64 a, .int .i64 b, .int .i64 c, .int .u32 im]
theorem sp_one (ca ad op a b c im ln : Int) : (spC ca ad op a b c im ln).all (·.oneCell') = true := by simp [spC, Value.oneCell']
theorem in_one (op a b c im : Int) : (inC op a b c im).all (·.oneCell') = true := by simp [inC, Value.oneCell']
section
variable {w : World} {B : Nat} {t : TypeId} {ca ad op a b c im ln : Int}
/-- the instruction in a stop -/
theorem RwAt.ins (h : RwAt w B t (spC ca ad op a b c im ln)) : w.rangeAt B 2 [Value.int .i64 op, .int .i64 a, .int .i64 b, .int .i64 c, .int .u32 im] := by
  intro j v hv
  refine h.cell (2 + j) ?_
  match j, hv with
  | 0, hv => exact hv
  | 1, hv => exact hv
  | 2, hv => exact hv
  | 3, hv => exact hv
  | 4, hv => exact hv
  | j + 5, hv => simp at hv
theorem sp_set_ca (v : Int) : (spC ca ad op a b c im ln).setIfInBounds 0 (.int .i64 v) = spC v ad op a b c im ln := rfl
theorem sp_set_ad (v : Int) : (spC ca ad op a b c im ln).setIfInBounds 1 (.int .u32 v) = spC ca v op a b c im ln := rfl
theorem RwAt.sCa (h : RwAt w B t (spC ca ad op a b c im ln)) (v : Int) : RwAt (w.setCell ⟨B, 0, none⟩ (.int .i64 v)) B t (spC v ad op a b c im ln) := h.set 0 _
theorem RwAt.sAd (h : RwAt w B t (spC ca ad op a b c im ln)) (v : Int) : RwAt (w.setCell ⟨B, 1, none⟩ (.int .u32 v)) B t (spC ca v op a b c im ln) := h.set 1 _
end
/-! ### registers of a processor in a block, written -/
section
variable {w : World} {B : Nat}
theorem RwAt.rowOther {t : TypeId} {cs : Array Value} (h : RwAt w B t cs) (C : Nat) (c : Array Value) (hC : B ≠ C) : RwAt (w.setRow C c) B t cs :=
  ⟨(setRow_other w C B c hC).trans h.blk⟩
end
end Go.Proofs.Ytpkgckjlhjcdmaa
