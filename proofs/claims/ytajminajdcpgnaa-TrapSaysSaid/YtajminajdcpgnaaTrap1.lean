/- Whole processors and their registers, loaded where a guard says yes. -/
import Derived.Test.YtajminajdcpgnaaTrap0
import Derived.Test.YtajminajdcpgnaaCpuA
import Derived.Test.YtajminajdcpgnaaCpu2
import Derived.Test.YtajminajdcpgnaaCpu4
namespace Go.Proofs.Ytajminajdcpgnaa
open Go.RowKit
section
variable {ops : Array Oper} {rest : List Oper} {o : Oper} {a : Act} {w : World} {Q : Exit → Act → World → Prop} {g : Nat} {y : Cp}
theorem wpList_load_cpu_w (hgd : Region.wanted o (yielded ops a.tmps) = true) (p : Operand) (ho : o.op = .load 26 p) (hx : a.eval p = .pointer (some ⟨g, 0, none⟩)) (hg : CpuAt w g y)
    (h : wpList Try.prog ops Q rest (a.put o.dst (.agg (cpuC y))) w) : wpList Try.prog ops Q (o :: rest) a w := by
  simp only [wpList, hgd, if_true]
  exact Or.inl (wp_load_row 26 p ho g hx _ _ _ _ hg.blk Try.underlying26 rfl (cpu_size_info hg.len) h)
theorem wpList_load_regs_w (hgd : Region.wanted o (yielded ops a.tmps) = true) (p : Operand) (ho : o.op = .load 24 p) (hx : a.eval p = .pointer (some ⟨g, 0, none⟩)) (hg : CpuAt w g y)
    (h : wpList Try.prog ops Q rest (a.put o.dst (.agg (wA y.l))) w) : wpList Try.prog ops Q (o :: rest) a w := by
  simp only [wpList, hgd, if_true]
  exact Or.inl (wp_load_mid 24 p ho g 0 hx _ _ hg.regs Try.underlying24 rfl (regs16_info hg.len) h)
end
end Go.Proofs.Ytajminajdcpgnaa
