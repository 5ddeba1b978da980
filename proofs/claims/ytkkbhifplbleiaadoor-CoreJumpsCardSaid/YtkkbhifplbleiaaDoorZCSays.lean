/- The walk of the law CoreSays. (Made by a program.) -/
import Derived.Test.YtkkbhifplbleiaaDoorZGFirst
import Derived.Test.YtkkbhifplbleiaaDoorZCore5
import Derived.Test.YtkkbhifplbleiaaDoorZRCore5
import Derived.Test.YtkkbhifplbleiaaDoorZGAluA
namespace Go.Proofs.YtkkbhifplbleiaaDoor
open Go.RowKit
/-- both memories lie apart -/
theorem mr_apart {w : World} {m b n c m' b' N : Nat} {xs ys : List Int} (h : MemAt w m b n c xs) (k : RefAt w m' b' N ys) : m ≠ m' ∧ m ≠ b' ∧ b ≠ m' ∧ b ≠ b' := by
  obtain ⟨cur, hb, _⟩ := h.hb
  refine ⟨?_, ?_, ?_, ?_⟩
  · rintro rfl
    have := h.hm.symm.trans k.hm
    injection this with this
    injection this with _ e
    exact absurd e (by decide)
  · rintro rfl
    have := h.hm.symm.trans k.hb
    injection this with this
    injection this with _ e
    exact absurd e (by decide)
  · rintro rfl
    have := hb.symm.trans k.hm
    injection this with this
    injection this with _ e
    exact absurd e (by decide)
  · rintro rfl
    have := hb.symm.trans k.hb
    injection this with this
    injection this with _ e
    exact absurd e (by decide)
section
variable {ops : Array Oper} {rest : List Oper} {o : Oper} {a : Act} {w : World} {Q : Exit → Act → World → Prop}
theorem wpList_load_rw_wanted (hgd : Region.wanted o (yielded ops a.tmps) = true) (t : TypeId) (p : Operand) (ho : o.op = .load t p) {g : Nat} (hx : a.eval p = .pointer (some ⟨g, 0, none⟩)) {cs : Array Value} (hg : RwAt w g t cs) {d : TypeDesc}
    (hd : d.isRow = true) (hu : Tryd.prog.underlying t = some d) (hi : (Tryd.prog.info? t).map (·.size) = some cs.size)
    (h : wpList Tryd.prog ops Q rest (a.put o.dst (.agg cs)) w) : wpList Tryd.prog ops Q (o :: rest) a w :=
  wpList_load_row_wanted hgd t p ho g hx _ _ _ d hg.blk hu (by cases d <;> first | rfl | cases hd) hi h
theorem wpList_load_cpu_wanted (hgd : Region.wanted o (yielded ops a.tmps) = true) (p : Operand) (ho : o.op = .load 41 p) {g : Nat} (hx : a.eval p = .pointer (some ⟨g, 0, none⟩)) {y : Cp} (hg : CpuAt w g y)
    (h : wpList Tryd.prog ops Q rest (a.put o.dst (.agg (cpuC y))) w) : wpList Tryd.prog ops Q (o :: rest) a w :=
  wpList_load_row_wanted hgd _ p ho g hx _ _ _ _ hg.blk Tryd.underlying41 rfl (cpu_size_info hg.len) h
end
end Go.Proofs.YtkkbhifplbleiaaDoor
