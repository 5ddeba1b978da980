/- What is shown, put, ended; a copy of what is seen (package dev): contracts. -/
import Derived.Test.YtajminajdcpgnaaDev3
namespace Go.Proofs.Ytajminajdcpgnaa
open Go.RowKit
section
variable {w w1 w2 : World} {B d : Nat} {x x1 x2 : DvS} {v v1 v2 : Value}
theorem Turned.trans (h : Turned w B d v x1 w1 v1) (k : Turned w1 B d v1 x2 w2 v2) : Turned w B d v x2 w2 v2 := by
  refine ⟨k.at_, ?_, ?_⟩
  · refine ⟨k.lv.os.trans h.lv.os, k.lv.tape.trans h.lv.tape, k.lv.output.trans h.lv.output, Nat.le_trans h.lv.size k.lv.size, fun i hi hr => (k.lv.block i (Nat.lt_of_lt_of_le hi h.lv.size) ?_).trans (h.lv.block i hi hr)⟩
    intro e
    rcases mem_foot.1 e with rfl | e
    · exact hr (mem_foot.2 (.inl rfl))
    · rcases h.mine with m | m
      · exact hr (mem_foot.2 (.inr (m.symm.trans e)))
      · have := m i e; omega
  · rcases k.mine with m | m
    · rcases h.mine with m' | m'
      · exact .inl (m.trans m')
      · exact .inr (fun g hg => m' g (m.symm.trans hg))
    · exact .inr (fun g hg => Nat.le_trans h.lv.size (m g hg))
/-- nothing is turned -/
theorem Turned.none (h : DevAt w B d x v) (hg : w.grownBy w1 none) : Turned w B d v x w1 v := ⟨h.kept0 hg, Lv.of_none hg _, .inl rfl⟩
theorem Turned.base (h : Turned w B d v x1 w1 v1) (hB : B ≤ w.heap.size) : B ≤ w1.heap.size := Nat.le_trans hB h.lv.size
/-- behind a call that shows -/
def Shown (w : World) (B d : Nat) (v : Value) (x' : DvS) (e : Ending) (w' : World) : Prop := e = .returned (.tuple #[]) ∧ ∃ v', Turned w B d v x' w' v'
/-- what an end shows -/
def endS (k n : Int) : List Sn := if k = 3 then [(3, 0, n)] else if k = 4 then [(4, n, 0)] else []
end
/-! ### a copy of what is seen -/
def CopiedAt (w : World) (l : List Sn) (e : Ending) (w' : World) : Prop :=
  ∃ v, e = .returned v ∧ w'.ownsRow w.heap.size 72 3 v l.length (snCells l) ∧ w.grownBy w' none
section
variable {w : World} {B d : Nat} {x : DvS} {v : Value}
end
end Go.Proofs.Ytajminajdcpgnaa
