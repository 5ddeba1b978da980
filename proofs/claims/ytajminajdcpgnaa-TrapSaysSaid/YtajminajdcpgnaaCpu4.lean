/- Two processors that are one (facaderef.SameCPU): a contract. -/
import Derived.Test.YtajminajdcpgnaaCpu0
import Derived.StillTailTactics
import Derived.Deep.Cut
namespace Go.Proofs.Ytajminajdcpgnaa
open Go.RowKit
theorem regs16_info {x : Cp} (h : x.l.length = 16) : (Try.prog.info? 24).map (·.size) = some (x.l.map (Value.int .u32)).length := by rw [regs_info, List.length_map, h]
set_option maxHeartbeats 1000000 in
theorem same_cpu {x : Cp} (hl : Regs x.l) (W : World) :
    Calls Try.prog 13 #[.agg (cpuC x), .agg (cpuC x)] W fun e w' => e = .returned (.bool true) ∧ W.grownBy w' none := by
  have HL := hid hl
  have HI := hid (regs16_info hl.len)
  have HA : Hid (CpuAt ((W.alloc (.cells (cpuC x) 26)).alloc (.cells (cpuC x) 26)) W.heap.size x) := hid ((CpuAt.new W hl.len).alloc _)
  have HB : Hid (CpuAt ((W.alloc (.cells (cpuC x) 26)).alloc (.cells (cpuC x) 26)) (W.heap.size + 1) x) := hid (CpuAt.new2 W _ hl.len)
  have HG : Hid (W.grownBy ((W.alloc (.cells (cpuC x) 26)).alloc (.cells (cpuC x) 26)) none) := hid (grown_alloc (grown_alloc (grown_refl _ _) _) _)
  clear hl
  go_enter Try.func13, Try.ntmps13
  go_upto_region 1 with (fail)
  generalize ((W.alloc (.cells (cpuC x) 26)).alloc (.cells (cpuC x) 26)) = w2 at HA HB HG ⊢
  generalize W.heap.size = b1 at HA HB ⊢
  generalize b1 + 1 = b2 at HB ⊢
  go_wp2_with (first
    | (refine wpList_load_mid rfl 24 _ rfl b1 0 rfl _ _ HA.out.regs Try.underlying24 rfl HI.out ?_)
    | (refine wpList_load_mid rfl 24 _ rfl b2 0 rfl _ _ HB.out.regs Try.underlying24 rfl HI.out ?_)
    | fail)
  refine (same_regs HL.out HL.out true (by simp) _).mono ?_
  rintro e w3 ⟨rfl, hg⟩
  have HA' := hid (HA.out.kept0 hg)
  have HB' := hid (HB.out.kept0 hg)
  have HG' := hid (grown_trans HG.out hg)
  have k1 := HA'.out.pc
  have k2 := HA'.out.ie
  have k3 := HA'.out.eie
  have k4 := HA'.out.epc
  have k5 := HA'.out.tv
  have k6 := HA'.out.ca
  have k7 := HA'.out.ad
  have j1 := HB'.out.pc
  have j2 := HB'.out.ie
  have j3 := HB'.out.eie
  have j4 := HB'.out.epc
  have j5 := HB'.out.tv
  have j6 := HB'.out.ca
  have j7 := HB'.out.ad
  clear hg HA HB HG
  go_wp2
  go_ret
  exact ⟨ret_b (by simp), HG'.out⟩
end Go.Proofs.Ytajminajdcpgnaa
