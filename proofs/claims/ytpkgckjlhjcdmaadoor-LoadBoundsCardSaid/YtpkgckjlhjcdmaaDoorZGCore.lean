/- Blocks of a call's own that hold structs: what is known of them; regions that load and store whole structs; a stop, an instruction as cells. -/
import Derived.Test.YtpkgckjlhjcdmaaDoorZGAluA
import Derived.StillTailTactics
import Derived.Deep.Cut
import Derived.Deep.RegionHeld3
namespace Go.Proofs.YtpkgckjlhjcdmaaDoor
open Go.RowKit
/-- a block holds these cells -/
structure RwAt (w : World) (B : Nat) (t : TypeId) (cs : Array Value) : Prop where
  blk : w.heap[B]? = some (.cells cs t (0, 0))
section
variable {w w1 : World} {B : Nat} {t : TypeId} {cs : Array Value}
theorem RwAt.lt (h : RwAt w B t cs) : B < w.heap.size := (Array.getElem?_eq_some_iff.1 h.blk).1
theorem RwAt.kept {r : Option Nat} (h : RwAt w B t cs) (hg : w.grownBy w1 r) (hr : some B ≠ r) : RwAt w1 B t cs := ⟨(hg.block _ h.lt hr).trans h.blk⟩
theorem RwAt.kept0 (h : RwAt w B t cs) (hg : w.grownBy w1 none) : RwAt w1 B t cs := h.kept hg (by simp)
theorem RwAt.keptL {R : List Nat} (h : RwAt w B t cs) (hg : Lv w w1 R) (hr : B ∉ R) : RwAt w1 B t cs := ⟨(hg.block _ h.lt hr).trans h.blk⟩
theorem RwAt.alloc (h : RwAt w B t cs) (o : Obj) : RwAt (w.alloc o) B t cs := ⟨(heap_alloc_old _ _ h.lt).trans h.blk⟩
theorem RwAt.new (w : World) (t : TypeId) (cs : Array Value) : RwAt (w.alloc (.cells cs t)) w.heap.size t cs := ⟨heap_alloc_last w _⟩
theorem RwAt.new2 (w : World) (o : Obj) (t : TypeId) (cs : Array Value) : RwAt ((w.alloc o).alloc (.cells cs t)) (w.heap.size + 1) t cs := ⟨heap_alloc2_new w _ _⟩
theorem RwAt.other (h : RwAt w B t cs) (C k : Nat) (v : Value) (hC : B ≠ C) : RwAt (w.setCell ⟨C, k, none⟩ v) B t cs := ⟨(heap_setCell_other _ _ _ _ hC).trans h.blk⟩
theorem RwAt.set (h : RwAt w B t cs) (k : Nat) (v : Value) : RwAt (w.setCell ⟨B, k, none⟩ v) B t (cs.setIfInBounds k v) := ⟨heap_setCell_same w B k _ _ _ h.blk⟩
theorem RwAt.row (h : RwAt w B t cs) (c : Array Value) : RwAt (w.setRow B c) B t c := ⟨setRow_heap _ _ _ _ _ _ h.blk⟩
theorem RwAt.cell (h : RwAt w B t cs) (k : Nat) {v : Value} (hv : cs[k]? = some v) : w.cell? ⟨B, k, none⟩ = some v := by
  rw [cell_of_row w B k _ _ _ h.blk, hv]
theorem RwAt.free (h : RwAt w B t cs) (k : Nat) : w.frozen? ⟨B, k, none⟩ = false := frozen_of_row w B k _ _ h.blk
end
theorem lv_row {w w1 : World} {R : List Nat} (h : Lv w w1 R) {b : Nat} (hb : b ∈ R) (c : Array Value) : Lv w (w1.setRow b c) R := by
  exact h.trans ⟨rfl, rfl, rfl, by simp [World.setRow], fun i _ hi => setRow_other w1 b i c (fun e => hi (by rw [e]; exact hb))⟩
/-! ### regions that load whole structs first -/
section
variable {P : Program} {ops : Array Oper} {rest : List Oper} {o : Oper} {a : Act} {w : World} {Q : Act → Prop}
theorem wpStill_yields (hgd : o.guard = none) {v : Value} (hr : (execOp a.eval o).run P w = .ok (.value v) w) (h : wpStill P ops w Q rest (a.put o.dst v)) : wpStill P ops w Q (o :: rest) a := by
  refine wpStill_step (fun K hK => ?_)
  have hw : Region.wanted o (yielded ops a.tmps) = true := by unfold Region.wanted; rw [hgd]
  rw [if_pos hw]
  unfold Oper.still
  rw [hr, Oper.stillUpon_value]
  exact hK _ h
theorem run_load_row (t : TypeId) (p : Operand) (ho : o.op = .load t p) {g : Nat} (hx : a.eval p = .pointer (some ⟨g, 0, none⟩)) {t' : TypeId} {cs : Array Value} {fr : Nat × Nat} {d : TypeDesc}
    (hg : w.heap[g]? = some (.cells cs t' fr)) (hd : d.isRow = true) (hu : P.underlying t = some d) (hi : (P.info? t).map (·.size) = some cs.size) :
    (execOp a.eval o).run P w = .ok (.value (.agg cs)) w := by
  have hv := run_loadVar_row (P := P) w g t' t cs fr d hg hu (by cases d <;> first | rfl | cases hd) hi
  unfold execOp
  simp only [ho, hx, Instr.loadAt, Instr.sureAddr, Sem.run_bind, Sem.run_pure, Result.andThen_ok, hv]
end
section
variable {ops : Array Oper} {rest : List Oper} {o : Oper} {a : Act} {w : World}
theorem wpStill_load_cpu {Q : Act → Prop} (hgd : o.guard = none) (p : Operand) (ho : o.op = .load 69 p) {g : Nat} (hx : a.eval p = .pointer (some ⟨g, 0, none⟩)) {y : Cp} (hg : CpuAt w g y)
    (h : wpStill Tryd.prog ops w Q rest (a.put o.dst (.agg (cpuC y)))) : wpStill Tryd.prog ops w Q (o :: rest) a :=
  wpStill_yields hgd (run_load_row _ p ho hx hg.blk rfl Tryd.underlying69 (cpu_size_info hg.len)) h
theorem wpStill_load_rw {Q : Act → Prop} (hgd : o.guard = none) (t : TypeId) (p : Operand) (ho : o.op = .load t p) {g : Nat} (hx : a.eval p = .pointer (some ⟨g, 0, none⟩)) {cs : Array Value} (hg : RwAt w g t cs) {d : TypeDesc}
    (hd : d.isRow = true) (hu : Tryd.prog.underlying t = some d) (hi : (Tryd.prog.info? t).map (·.size) = some cs.size)
    (h : wpStill Tryd.prog ops w Q rest (a.put o.dst (.agg cs))) : wpStill Tryd.prog ops w Q (o :: rest) a :=
  wpStill_yields hgd (run_load_row t p ho hx hg.blk hd hu hi) h
theorem wpList_load_rw {Q : Exit → Act → World → Prop} (hgd : o.guard = none) (t : TypeId) (p : Operand) (ho : o.op = .load t p) {g : Nat} (hx : a.eval p = .pointer (some ⟨g, 0, none⟩)) {cs : Array Value} (hg : RwAt w g t cs) {d : TypeDesc}
    (hd : d.isRow = true) (hu : Tryd.prog.underlying t = some d) (hi : (Tryd.prog.info? t).map (·.size) = some cs.size)
    (h : wpList Tryd.prog ops Q rest (a.put o.dst (.agg cs)) w) : wpList Tryd.prog ops Q (o :: rest) a w :=
  wpList_load_row hgd t p ho g hx _ _ _ d hg.blk hu (by cases d <;> first | rfl | cases hd) hi h
theorem wpList_store_rw {Q : Exit → Act → World → Prop} (hgd : o.guard = none) (t : TypeId) (p q : Operand) (ho : o.op = .store t p q) {g : Nat} (hx : a.eval p = .pointer (some ⟨g, 0, none⟩)) {cs : Array Value} (hy : a.eval q = .agg cs) {z : Array Value} (hz : RwAt w g t z)
    (hi : (Tryd.prog.info? t).map (·.size) = some cs.size) (hs : z.size = cs.size) (h1 : cs.all (·.oneCell') = true)
    (h : wpList Tryd.prog ops Q rest (a.put o.dst undef) (w.setRow g cs)) : wpList Tryd.prog ops Q (o :: rest) a w :=
  wpList_store_row hgd t p q ho g _ hx hy _ _ hz.blk hi hs h1 h
end
/-! ### stops and instructions -/
def spC (ca ad op a b c im ln : Int) : Array Value := #[.int .i64 ca, .int .u32 ad, .int .i64 op, .int .i64 a, .int .i64 b, .int .i64 c, .int .u32 im, .int .u32 ln]
def inC (op a b c im : Int) : Array Value := #[.int .i64 op, .int .i64 a, .int .i64 b, .int .i64 c, .int .u32 im]
theorem sp_one (ca ad op a b c im ln : Int) : (spC ca ad op a b c im ln).all (·.oneCell') = true := by simp [spC, Value.oneCell']
theorem in_one (op a b c im : Int) : (inC op a b c im).all (·.oneCell') = true := by simp [inC, Value.oneCell']
theorem zero_ins (w : World) : (zeroValue 36).run Tryd.prog w = .ok (.agg (inC 0 0 0 0 0)) w := by kernel_rfl
section
variable {w : World} {B : Nat} {t : TypeId} {ca ad op a b c im ln : Int}
/-- the instruction in a stop -/
theorem RwAt.ins (h : RwAt w B t (spC ca ad op a b c im ln)) : w.rangeAt B 2 [Value.int .i64 op, .int .i64 a, .int .i64 b, .int .i64 c, .int .u32 im] := by
  intro j v hv
  refine h.cell (2 + j) ?_
  match j, hv with
  | 0, hv => exact hv
  | 1, hv => exact hv
  | 2, hv => exact hv
  | 3, hv => exact hv
  | 4, hv => exact hv
  | j + 5, hv => simp at hv
theorem sp_set_ca (v : Int) : (spC ca ad op a b c im ln).setIfInBounds 0 (.int .i64 v) = spC v ad op a b c im ln := rfl
theorem sp_set_ad (v : Int) : (spC ca ad op a b c im ln).setIfInBounds 1 (.int .u32 v) = spC ca v op a b c im ln := rfl
theorem RwAt.sCa (h : RwAt w B t (spC ca ad op a b c im ln)) (v : Int) : RwAt (w.setCell ⟨B, 0, none⟩ (.int .i64 v)) B t (spC v ad op a b c im ln) := h.set 0 _
theorem RwAt.sAd (h : RwAt w B t (spC ca ad op a b c im ln)) (v : Int) : RwAt (w.setCell ⟨B, 1, none⟩ (.int .u32 v)) B t (spC ca v op a b c im ln) := h.set 1 _
end
/-! ### registers of a processor in a block, written -/
section
variable {w : World} {B : Nat}
theorem CpuAt.sReg {l : List Int} {pc : Int} {ie eie : Bool} {epc tv ca ad : Int} (h : CpuAt w B ⟨l, pc, ie, eie, epc, tv, ca, ad⟩) (k : Nat) (hk : k < 16) (v : Int) : CpuAt (w.setCell ⟨B, k, none⟩ (.int .u32 v)) B ⟨l.set k v, pc, ie, eie, epc, tv, ca, ad⟩ := by
  refine ⟨?_, by simpa using h.len⟩
  rw [heap_setCell_same w B k _ _ _ h.blk]
  have hl : l.length = 16 := h.len
  simp only [cpuC, cpuL, List.setIfInBounds_toArray]
  rw [List.set_append_left _ _ (by simp; omega), List.map_set]
theorem CpuAt.regc {x : Cp} (h : CpuAt w B x) {k : Nat} {y : Int} (hy : x.l[k]? = some y) : w.cell? ⟨B, k, none⟩ = some (.int .u32 y) := by
  have := h.regs k (.int .u32 y) (by rw [List.getElem?_map, hy]; rfl)
  rwa [Nat.zero_add] at this
theorem CpuAt.rowOther {x : Cp} (h : CpuAt w B x) (C : Nat) (c : Array Value) (hC : B ≠ C) : CpuAt (w.setRow C c) B x :=
  ⟨(setRow_other w C B c hC).trans h.blk, h.len⟩
theorem RwAt.rowOther {t : TypeId} {cs : Array Value} (h : RwAt w B t cs) (C : Nat) (c : Array Value) (hC : B ≠ C) : RwAt (w.setRow C c) B t cs :=
  ⟨(setRow_other w C B c hC).trans h.blk⟩
end
end Go.Proofs.YtpkgckjlhjcdmaaDoor
/- A call's own processor and stop, and where it answers them: carried on. -/
namespace Go.Proofs.YtpkgckjlhjcdmaaDoor
open Go.RowKit
/-- in blocks b1, b2: a processor, a stop; in b3, b4 it answers them -/
structure FAt (V : World) (t : TypeId) (b1 b2 b3 b4 : Nat) (x : Cp) (s : Array Value) (w : World) : Prop where
  hc : CpuAt w b1 x
  hs : RwAt w b2 t s
  r1 : CpuAt w b3 zeroP
  r2 : RwAt w b4 t (spC 0 0 0 0 0 0 0 0)
  lv : Lv V w [b1, b2, b3, b4]
def Ord4 (b1 b2 b3 b4 : Nat) : Prop := b1 ≠ b2 ∧ b1 ≠ b3 ∧ b1 ≠ b4 ∧ b2 ≠ b3 ∧ b2 ≠ b4 ∧ b3 ≠ b4
theorem results_cell2 {P : Program} {fn : Func} {p q : Tmp} {t u : TypeId} (h : fn.results = #[.cell p t, .cell q u]) (tmps : Array Value) (w : World) {g k : Nat} {t' u' : TypeId} {cs ds : Array Value} {f1 f2 : Nat × Nat} {d e : TypeDesc}
    (hp : tmps.getD p undef = .pointer (some ⟨g, 0, none⟩)) (hq : tmps.getD q undef = .pointer (some ⟨k, 0, none⟩)) (hg : w.heap[g]? = some (.cells cs t' f1)) (hk : w.heap[k]? = some (.cells ds u' f2))
    (hd : d.isRow = true) (he : e.isRow = true) (hu : P.underlying t = some d) (hv : P.underlying u = some e) (hi : (P.info? t).map (·.size) = some cs.size) (hj : (P.info? u).map (·.size) = some ds.size) :
    (results fn tmps).run P w = .ok (.tuple #[.agg cs, .agg ds]) w := by
  have hp' : tmps[p]?.getD undef = .pointer (some ⟨g, 0, none⟩) := by simpa using hp
  have hq' : tmps[q]?.getD undef = .pointer (some ⟨k, 0, none⟩) := by simpa using hq
  have v1 := run_loadVar_row (P := P) w g t' t cs f1 d hg hu (by cases d <;> first | rfl | cases hd) hi
  have v2 := run_loadVar_row (P := P) w k u' u ds f2 e hk hv (by cases e <;> first | rfl | cases he) hj
  simp [results, h, hp', hq', asAddr, v1, v2]
section
variable {V w : World} {t : TypeId} {b1 b2 b3 b4 : Nat}
/-- the four blocks made one behind the other -/
theorem FAt.init (W : World) (t : TypeId) {x : Cp} (hl : x.l.length = 16) (s : Array Value) :
    FAt ((((W.alloc (.cells (cpuC x) 69)).alloc (.cells s t)).alloc (.cells (cpuC zeroP) 69)).alloc (.cells (spC 0 0 0 0 0 0 0 0) t)) t W.heap.size (W.heap.size + 1) (W.heap.size + 1 + 1) (W.heap.size + 1 + 1 + 1) x s
      ((((W.alloc (.cells (cpuC x) 69)).alloc (.cells s t)).alloc (.cells (cpuC zeroP) 69)).alloc (.cells (spC 0 0 0 0 0 0 0 0) t)) := by
  refine ⟨(((CpuAt.new W hl).alloc _).alloc _).alloc _, ((RwAt.new2 W _ _ _).alloc _).alloc _, ?_, ?_, Lv.refl _ _⟩
  · have := CpuAt.new2 (x := zeroP) (W.alloc (.cells (cpuC x) 69)) (.cells s t) rfl
    simp only [World.size_alloc] at this
    exact this.alloc _
  · have := RwAt.new2 ((W.alloc (.cells (cpuC x) 69)).alloc (.cells s t)) (.cells (cpuC zeroP) 69) t (spC 0 0 0 0 0 0 0 0)
    simp only [World.size_alloc] at this
    exact this
theorem ord4_init (n : Nat) : Ord4 n (n + 1) (n + 1 + 1) (n + 1 + 1 + 1) := by unfold Ord4; omega
theorem FAt.sPc {l : List Int} {pc : Int} {ie eie : Bool} {epc tv ca ad : Int} {s : Array Value} (h : FAt V t b1 b2 b3 b4 ⟨l, pc, ie, eie, epc, tv, ca, ad⟩ s w) (o : Ord4 b1 b2 b3 b4) (v : Int) :
    FAt V t b1 b2 b3 b4 ⟨l, v, ie, eie, epc, tv, ca, ad⟩ s (w.setCell ⟨b1, 16, none⟩ (.int .u32 v)) :=
  ⟨h.hc.sPc v, h.hs.other _ _ _ o.1.symm, h.r1.other _ _ _ o.2.1.symm, h.r2.other _ _ _ o.2.2.1.symm, h.lv.set (by simp) _ _⟩
theorem FAt.sReg {l : List Int} {pc : Int} {ie eie : Bool} {epc tv ca ad : Int} {s : Array Value} (h : FAt V t b1 b2 b3 b4 ⟨l, pc, ie, eie, epc, tv, ca, ad⟩ s w) (o : Ord4 b1 b2 b3 b4) (k : Nat) (hk : k < 16) (v : Int) :
    FAt V t b1 b2 b3 b4 ⟨l.set k v, pc, ie, eie, epc, tv, ca, ad⟩ s (w.setCell ⟨b1, k, none⟩ (.int .u32 v)) :=
  ⟨h.hc.sReg k hk v, h.hs.other _ _ _ o.1.symm, h.r1.other _ _ _ o.2.1.symm, h.r2.other _ _ _ o.2.2.1.symm, h.lv.set (by simp) _ _⟩
theorem FAt.sCa {x : Cp} {ca ad op a b c im ln : Int} (h : FAt V t b1 b2 b3 b4 x (spC ca ad op a b c im ln) w) (o : Ord4 b1 b2 b3 b4) (v : Int) :
    FAt V t b1 b2 b3 b4 x (spC v ad op a b c im ln) (w.setCell ⟨b2, 0, none⟩ (.int .i64 v)) :=
  ⟨h.hc.other _ _ _ o.1, h.hs.sCa v, h.r1.other _ _ _ o.2.2.2.1.symm, h.r2.other _ _ _ o.2.2.2.2.1.symm, h.lv.set (by simp) _ _⟩
theorem FAt.sAd {x : Cp} {ca ad op a b c im ln : Int} (h : FAt V t b1 b2 b3 b4 x (spC ca ad op a b c im ln) w) (o : Ord4 b1 b2 b3 b4) (v : Int) :
    FAt V t b1 b2 b3 b4 x (spC ca v op a b c im ln) (w.setCell ⟨b2, 1, none⟩ (.int .u32 v)) :=
  ⟨h.hc.other _ _ _ o.1, h.hs.sAd v, h.r1.other _ _ _ o.2.2.2.1.symm, h.r2.other _ _ _ o.2.2.2.2.1.symm, h.lv.set (by simp) _ _⟩
theorem FAt.drew {x : Cp} {s : Array Value} (h : FAt V t b1 b2 b3 b4 x s w) : FAt V t b1 b2 b3 b4 x s w.drew :=
  have g := grown_drew (grown_refl w none)
  ⟨h.hc.kept0 g, h.hs.kept0 g, h.r1.kept0 g, h.r2.kept0 g, h.lv.drew⟩
theorem FAt.kept {x : Cp} {s : Array Value} {w1 : World} (h : FAt V t b1 b2 b3 b4 x s w) (g : w.grownBy w1 none) : FAt w1 t b1 b2 b3 b4 x s w1 :=
  ⟨h.hc.kept0 g, h.hs.kept0 g, h.r1.kept0 g, h.r2.kept0 g, Lv.refl _ _⟩
theorem FAt.on {x : Cp} {s : Array Value} {w1 : World} (h : FAt V t b1 b2 b3 b4 x s w) (g : w.grownBy w1 none) : FAt V t b1 b2 b3 b4 x s w1 :=
  ⟨h.hc.kept0 g, h.hs.kept0 g, h.r1.kept0 g, h.r2.kept0 g, h.lv.trans (Lv.of_none g _)⟩
/-- a step that writes another's block -/
theorem FAt.aside {x : Cp} {s : Array Value} {w1 : World} {r : Nat} (h : FAt V t b1 b2 b3 b4 x s w) (g : w.grownBy w1 (some r)) (h1 : b1 ≠ r) (h2 : b2 ≠ r) (h3 : b3 ≠ r) (h4 : b4 ≠ r) : FAt w1 t b1 b2 b3 b4 x s w1 :=
  ⟨h.hc.kept g (by simpa using h1), h.hs.kept g (by simpa using h2), h.r1.kept g (by simpa using h3), h.r2.kept g (by simpa using h4), Lv.refl _ _⟩
/-- what is answered -/
structure EndAt (V : World) (t : TypeId) (b1 b2 b3 b4 : Nat) (x : Cp) (s : Array Value) (w : World) : Prop where
  r1 : CpuAt w b3 x
  r2 : RwAt w b4 t s
  lv : Lv V w [b1, b2, b3, b4]
theorem EndAt.results {P : Program} {fn : Func} {p q : Tmp} {u1 u2 : TypeId} {x : Cp} {s : Array Value} (H : EndAt V t b1 b2 b3 b4 x s w) (h : fn.results = #[.cell p u1, .cell q u2]) (tmps : Array Value) {d e : TypeDesc}
    (hp : tmps.getD p undef = .pointer (some ⟨b3, 0, none⟩)) (hq : tmps.getD q undef = .pointer (some ⟨b4, 0, none⟩))
    (hd : d.isRow = true) (he : e.isRow = true) (hu : P.underlying u1 = some d) (hv : P.underlying u2 = some e) (hi : (P.info? u1).map (·.size) = some (cpuC x).size) (hj : (P.info? u2).map (·.size) = some s.size) :
    (results fn tmps).run P w = .ok (.tuple #[.agg (cpuC x), .agg s]) w :=
  results_cell2 h tmps w hp hq H.r1.blk H.r2.blk hd he hu hv hi hj
theorem FAt.ends {x y : Cp} {s u : Array Value} (h : FAt V t b1 b2 b3 b4 x s w) (o : Ord4 b1 b2 b3 b4) (hl : y.l.length = 16) : EndAt V t b1 b2 b3 b4 y u ((w.setRow b3 (cpuC y)).setRow b4 u) :=
  ⟨(h.r1.row hl).rowOther _ _ o.2.2.2.2.2, (h.r2.rowOther _ _ o.2.2.2.2.2.symm).row _, lv_row (lv_row h.lv (by simp) _) (by simp) _⟩
end
/-! ### regions that draw: whole structs loaded and stored -/
section
variable {P : Program} {md : Region.Mode} {ops : Array Oper} {Q : Exit → Act → World → Prop} {S : World → Prop}
theorem wanted_free {o : Oper} (h : o.guard = none) (y : Nat → Option Bool) : Region.wanted o y = true := by unfold Region.wanted; rw [h]
theorem anyH_store_row {i : Nat} {oi : Oper} {fuel : Nat} {listed : Array Bool} {a : Act} {w : World} (hr : Region.ready md ops listed = [i]) (hi : ops[i]? = some oi) (hgd : oi.guard = none) {t : TypeId} {x y : Operand} (ho : oi.op = .store t x y)
    {g : Nat} {cells : Array Value} (hx : a.eval x = .pointer (some ⟨g, 0, none⟩)) (hy : a.eval y = .agg cells) {t' : TypeId} {old : Array Value} (hg : w.heap[g]? = some (.cells old t' (0, 0))) (hinfo : (P.info? t).map (·.size) = some cells.size)
    (hold : old.size = cells.size) (h1 : cells.all (·.oneCell') = true) (hS : S (w.setRow g cells)) (h : wpAnyH P md ops Q S fuel (listed.setIfInBounds i true) (a.put oi.dst undef) (w.setRow g cells)) : wpAnyH P md ops Q S (fuel + 1) listed a w :=
  wpAnyH_all hr (by simp) (by
    intro j hj
    obtain rfl : j = i := by simpa using hj
    unfold wpOp
    simp only [hi]
    rw [if_pos (wanted_free hgd _)]
    exact .inl (wp_store_row t x y ho g cells hx hy t' old hg hinfo hold h1 ⟨hS, h⟩))
theorem anyH_take_row {i : Nat} {oi : Oper} {fuel : Nat} {listed : Array Bool} {a : Act} {w : World} (hi : ops[i]? = some oi) (hgd : oi.guard = none) {t : TypeId} {x : Operand} (ho : oi.op = .load t x)
    (hs : Region.noSelect ops = true) (hf : Region.free md ops listed i = true) (hr : (Region.ready md ops listed).contains i = true) {g : Nat} {cells : Array Value} (hQ : ∀ c a w, Q (.panic c) (a.put oi.dst (.agg cells)) w → Q (.panic c) a w)
    (hx : a.eval x = .pointer (some ⟨g, 0, none⟩)) {d : TypeDesc} (hd : d.isRow = true) (hu : P.underlying t = some d) (hinfo : (P.info? t).map (·.size) = some cells.size)
    (hall : ∀ w, S w → ∃ t' fr, w.heap[g]? = some (.cells cells t' fr)) (hS : S w) (h : wpAnyH P md ops Q S fuel (listed.setIfInBounds i true) (a.put oi.dst (.agg cells)) w) : wpAnyH P md ops Q S (fuel + 1) listed a w :=
  wpAnyH_take hi hs hf hr hQ (Or.inl ⟨wanted_free hgd _, fun w' hS' => by
    obtain ⟨t', fr, hg⟩ := hall w' hS'
    exact run_load_row t x ho hx hg hd hu hinfo⟩) hS h
end
/-- 'return c, s' -/
theorem region_ret2 {id : Nat} {ops : Array Oper} {o0 o1 o2 o3 : Oper} {a : Act} {w V : World} {Q : Exit → Act → World → Prop} {t : TypeId} {p1 p2 q1 q2 r1 r2 : Operand} {b1 b2 b3 b4 : Nat} {x : Cp} {s : Array Value} {d : TypeDesc}
    (hF : FAt V t b1 b2 b3 b4 x s w) (hO : Ord4 b1 b2 b3 b4) (hs8 : 8 = s.size) (hs1 : s.all (·.oneCell') = true)
    (h0 : ops[0]? = some o0) (h1 : ops[1]? = some o1) (h2 : ops[2]? = some o2) (h3 : ops[3]? = some o3) (h4 : ops.size = 4)
    (e0 : o0.op = .load 69 p1) (e1 : o1.op = .load t p2) (e2 : o2.op = .store 69 q1 r1) (e3 : o3.op = .store t q2 r2)
    (g0 : o0.guard = none) (g1 : o1.guard = none) (g2 : o2.guard = none) (g3 : o3.guard = none)
    (c : (Region.noSelect ops && Region.free .any ops #[false, false, false, false] 0 && (Region.ready .any ops #[false, false, false, false]).contains 0 && Region.free .any ops #[true, false, false, false] 1 && (Region.ready .any ops #[true, false, false, false]).contains 1) = true)
    (c2 : Region.ready .any ops #[true, true, false, false] = [2]) (c3 : Region.ready .any ops #[true, true, true, false] = [3]) (c4 : Region.ready .any ops #[true, true, true, true] = [])
    (hd : d.isRow = true) (hu : Tryd.prog.underlying t = some d) (hi : (Tryd.prog.info? t).map (·.size) = some s.size)
    (x0 : a.eval p1 = .pointer (some ⟨b1, 0, none⟩)) (x1 : (a.put o0.dst (.agg (cpuC x))).eval p2 = .pointer (some ⟨b2, 0, none⟩))
    (x2 : ((a.put o0.dst (.agg (cpuC x))).put o1.dst (.agg s)).eval q1 = .pointer (some ⟨b3, 0, none⟩)) (y2 : ((a.put o0.dst (.agg (cpuC x))).put o1.dst (.agg s)).eval r1 = .agg (cpuC x))
    (x3 : (((a.put o0.dst (.agg (cpuC x))).put o1.dst (.agg s)).put o2.dst undef).eval q2 = .pointer (some ⟨b4, 0, none⟩)) (y3 : (((a.put o0.dst (.agg (cpuC x))).put o1.dst (.agg s)).put o2.dst undef).eval r2 = .agg s)
    (hQ0 : ∀ c a w, Q (.panic c) (a.put o0.dst (.agg (cpuC x))) w → Q (.panic c) a w) (hQ1 : ∀ c a w, Q (.panic c) (a.put o1.dst (.agg s)) w → Q (.panic c) a w)
    (h : ∀ w', EndAt V t b1 b2 b3 b4 x s w' → Q .normal ((((a.put o0.dst (.agg (cpuC x))).put o1.dst (.agg s)).put o2.dst undef).put o3.dst undef) w') :
    (Code.region id ops true).wp Tryd.prog Q a w := by
  simp only [Bool.and_eq_true] at c
  obtain ⟨⟨⟨⟨ca, cb⟩, cc⟩, cd⟩, ce⟩ := c
  have hD := hF.drew
  refine wp_region_held_drew (S := fun w' => CpuAt w' b1 x ∧ RwAt w' b2 t s) (by kernel_rfl) ⟨hD.hc, hD.hs⟩ (fun hS0 => ?_)
  rw [h4]
  show wpAnyH _ _ _ _ _ 4 #[false, false, false, false] _ _
  refine anyH_take_row h0 g0 e0 ca cb cc hQ0 x0 rfl Tryd.underlying69 (cpu_size_info hF.hc.len) (fun w' hw => ⟨_, _, hw.1.blk⟩) hS0 ?_
  show wpAnyH _ _ _ _ _ 3 #[true, false, false, false] _ _
  refine anyH_take_row h1 g1 e1 ca cd ce hQ1 x1 hd hu hi (fun w' hw => ⟨_, _, hw.2.blk⟩) hS0 ?_
  show wpAnyH _ _ _ _ _ 2 #[true, true, false, false] _ _
  refine anyH_store_row c2 h2 g2 e2 x2 y2 hD.r1.blk (cpu_size_info hF.hc.len) (by rw [cpu_size hF.hc.len, cpu_size hD.r1.len]) (cpu_one _) ⟨hD.hc.rowOther _ _ hO.2.1, hD.hs.rowOther _ _ hO.2.2.2.1⟩ ?_
  show wpAnyH _ _ _ _ _ 1 #[true, true, true, false] _ _
  refine anyH_store_row c3 h3 g3 e3 x3 y3 (hD.r2.rowOther _ _ hO.2.2.2.2.2.symm).blk hi hs8 hs1 ⟨(hD.hc.rowOther _ _ hO.2.1).rowOther _ _ hO.2.2.1, (hD.hs.rowOther _ _ hO.2.2.2.1).rowOther _ _ hO.2.2.2.2.1⟩ ?_
  exact wpAnyH_done c4 (h _ (hD.ends hO hF.hc.len)) 0
end Go.Proofs.YtpkgckjlhjcdmaaDoor
/- core.silent: contracts. (Made by a program.) -/
namespace Go.Proofs.YtpkgckjlhjcdmaaDoor
open Go.RowKit
section
variable {l : List Int} {pc : Int} {ie eie : Bool} {epc tv cc cd ca ad op a b c im ln : Int}
end
end Go.Proofs.YtpkgckjlhjcdmaaDoor
