/- The chapter's examples (facadelaw6.first): a contract. -/
import Derived.Test.YtajminajdcpgnaaCpu1
import Derived.Test.YtajminajdcpgnaaCpu3
import Derived.Test.YtajminajdcpgnaaWaits
namespace Go.Proofs.Ytajminajdcpgnaa
open Go.RowKit
section
variable {ops : Array Oper} {rest : List Oper} {o : Oper} {a : Act} {w : World} {Q : Exit → Act → World → Prop} {y : Cp}
/-- a whole processor into the block that was made last -/
theorem wpList_store_cpu_new {z : Cp} (hgd : o.guard = none) (p q : Operand) (ho : o.op = .store 26 p q) (hx : a.eval p = .pointer (some ⟨w.heap.size, 0, none⟩)) (hy : a.eval q = .agg (cpuC y)) (hz : z.l.length = 16) (hl : y.l.length = 16)
    (h : wpList Try.prog ops Q rest (a.put o.dst undef) (w.alloc (.cells (cpuC y) 26))) : wpList Try.prog ops Q (o :: rest) a (w.alloc (.cells (cpuC z) 26)) :=
  wpList_store_cpu hgd p q ho hx hy (CpuAt.new w hz) hl (by rw [World.setRow_alloc_new]; exact h)
def exC : Cp := ⟨[0, 0, 0, 0, 0, 0, 0, 0, 0, 0, 0, 0, 0, 0, 0, 0], 9, true, false, 0, 5, 0, 0⟩
def exD : Cp := ⟨[0, 0, 0, 0, 0, 0, 0, 0, 0, 0, 0, 0, 0, 0, 0, 0], 5, false, true, 9, 5, 1, 3⟩
def exE : Cp := ⟨[0, 0, 0, 0, 0, 0, 0, 0, 0, 0, 0, 0, 0, 0, 0, 0], 9, true, false, 0, 5, 1, 3⟩
theorem zero16 : Regs [0, 0, 0, 0, 0, 0, 0, 0, 0, 0, 0, 0, 0, 0, 0, 0] := ⟨rfl, by decide⟩
theorem build_exC (w : World) : (Instr.build 26 #[(1, .int .u32 9), (2, .bool true), (5, .int .u32 5)]).run Try.prog w = .ok (.agg (cpuC exC)) w := by kernel_rfl
theorem wpList_build_exC (hgd : o.guard = none) (ho : o.op = .build 26 #[(1, .const (.int .u32 9)), (2, .const (.bool true)), (5, .const (.int .u32 5))])
    (h : wpList Try.prog ops Q rest (a.put o.dst (.agg (cpuC exC))) w) : wpList Try.prog ops Q (o :: rest) a w := by
  refine wpList_plain hgd fun K hK => ?_
  unfold Oper.wp
  simp [execOp, ho, Act.eval, build_exC w, Result.andThen]
  exact hK _ _ h
end
set_option maxHeartbeats 2000000 in
theorem first6_any (W : World) : Calls Try.prog 6 #[] W fun e w' => e = .returned (.bool true) ∧ W.grownBy w' none := by
  have Hz := zero_cpu
  go_enter Try.func6, Try.ntmps6
  go_wp2_with (first
    | (refine wpList_build_exC rfl rfl ?_)
    | (refine wpList_load_cpu rfl _ rfl rfl (CpuAt.new W (x := exC) rfl) ?_)
    | (refine wpList_store_cpu_new (y := exC) (z := zeroP) rfl _ _ rfl rfl rfl rfl rfl ?_)
    | fail)
  refine (enter_any (x := exC) zero16 1 3 _ exD rfl true rfl).mono ?_
  rintro e w1 ⟨rfl, hg⟩
  have HG1 := hid (grown_trans (grown_alloc (grown_refl W none) _) hg)
  clear hg
  go_wp2_with (first
    | (refine wpList_load_cpu rfl _ rfl rfl (CpuAt.new w1 (x := exD) rfl) ?_)
    | (refine wpList_store_cpu_new (y := exD) (z := zeroP) rfl _ _ rfl rfl rfl rfl rfl ?_)
    | fail)
  have HD2 := hid (CpuAt.new w1 (x := exD) rfl)
  have HG2 := hid (grown_alloc HG1.out (.cells (cpuC exD) 26))
  generalize w1.alloc (.cells (cpuC exD) 26) = w2 at HD2 HG2 ⊢
  generalize w1.heap.size = bd at HD2 ⊢
  clear HG1
  refine (ret_any (x := exD) zero16 _ exE rfl).mono ?_
  rintro e w3 ⟨rfl, hg⟩
  have HD3 := hid ((HD2.out.kept0 hg).alloc (.cells (cpuC exE) 26))
  have HE3 := hid (CpuAt.new w3 (x := exE) rfl)
  have HG3 := hid (grown_alloc (grown_trans HG2.out hg) (.cells (cpuC exE) 26))
  clear hg HD2 HG2
  have k1 : _ = some (Value.int .u32 5) := HD3.out.pc
  have k2 : _ = some (Value.bool false) := HD3.out.ie
  have k6 : _ = some (Value.int .u32 1) := HD3.out.ca
  have k7 : _ = some (Value.int .u32 3) := HD3.out.ad
  have j1 : _ = some (Value.int .u32 9) := HE3.out.pc
  have j2 : _ = some (Value.bool true) := HE3.out.ie
  go_wp2_with (first
    | (refine wpList_store_cpu_new (y := exE) (z := zeroP) rfl _ _ rfl rfl rfl rfl rfl ?_)
    | fail)
  go_ret
  exact ⟨rfl, HG3.out⟩
end Go.Proofs.Ytajminajdcpgnaa
