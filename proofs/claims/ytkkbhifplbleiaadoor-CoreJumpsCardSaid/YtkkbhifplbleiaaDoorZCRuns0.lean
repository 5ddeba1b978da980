/- Registers as a processor. -/
import Derived.Test.YtkkbhifplbleiaaDoorZCSays
import Derived.Test.YtkkbhifplbleiaaDoorZCGood
namespace Go.Proofs.YtkkbhifplbleiaaDoor
open Go.RowKit
/-- a processor with these registers, at the beginning -/
def startP (l : List Int) : Cp := ⟨l, 0, false, false, 0, 0, 0, 0⟩
theorem build_cpu16 (x0 x1 x2 x3 x4 x5 x6 x7 x8 x9 x10 x11 x12 x13 x14 x15 : Int) (w : World) :
    (Instr.build 41 #[(0, .agg (wA [x0, x1, x2, x3, x4, x5, x6, x7, x8, x9, x10, x11, x12, x13, x14, x15]))]).run Tryd.prog w = .ok (.agg (cpuC (startP [x0, x1, x2, x3, x4, x5, x6, x7, x8, x9, x10, x11, x12, x13, x14, x15]))) w := by kernel_rfl
theorem run_build_cpuR {l : List Int} (hl : l.length = 16) (w : World) : (Instr.build 41 #[(0, .agg (wA l))]).run Tryd.prog w = .ok (.agg (cpuC (startP l))) w := by
  match l, hl with
  | [x0, x1, x2, x3, x4, x5, x6, x7, x8, x9, x10, x11, x12, x13, x14, x15], _ => exact build_cpu16 x0 x1 x2 x3 x4 x5 x6 x7 x8 x9 x10 x11 x12 x13 x14 x15 w
theorem wpList_build_cpuR {ops : Array Oper} {rest : List Oper} {o : Oper} {A : Act} {w : World} {Q : Exit → Act → World → Prop} (hgd : o.guard = none) (x : Operand) (ho : o.op = .build 41 #[(0, x)]) {l : List Int} (hl : l.length = 16) (hx : A.eval x = .agg (wA l))
    (h : wpList Tryd.prog ops Q rest (A.put o.dst (.agg (cpuC (startP l)))) w) : wpList Tryd.prog ops Q (o :: rest) A w := by
  refine wpList_plain hgd fun K hK => ?_
  unfold Oper.wp
  simp [execOp, ho, hx, run_build_cpuR hl w, Result.andThen]
  exact hK _ _ h
/-- a whole processor into the block that was made last -/
theorem wpList_store_cpu_last {ops : Array Oper} {rest : List Oper} {o : Oper} {a : Act} {w : World} {Q : Exit → Act → World → Prop} {y z : Cp} {g : Nat} (hgd : o.guard = none) (p q : Operand) (ho : o.op = .store 41 p q) (hx : a.eval p = .pointer (some ⟨g, 0, none⟩)) (hy : a.eval q = .agg (cpuC y)) (hg : g = w.heap.size) (hz : z.l.length = 16) (hl : y.l.length = 16)
    (h : wpList Tryd.prog ops Q rest (a.put o.dst undef) (w.alloc (.cells (cpuC y) 41))) : wpList Tryd.prog ops Q (o :: rest) a (w.alloc (.cells (cpuC z) 41)) := by
  subst hg
  exact wpList_store_cpu hgd p q ho hx hy (CpuAt.new w hz) hl (by rw [World.setRow_alloc_new]; exact h)
end Go.Proofs.YtkkbhifplbleiaaDoor
