/- The way back (package trap; the document's own Return): contracts. (Made by genCpu.py.) -/
import Derived.Test.YtajminajdcpgnaaCpu0
import Derived.StillTailTactics
import Derived.Deep.Cut
namespace Go.Proofs.Ytajminajdcpgnaa
open Go.RowKit
section
variable {x : Cp}
set_option maxHeartbeats 1000000 in
theorem ret_any (hl : Regs x.l) (W : World) (y : Cp) (hy : retP x = y) :
    Calls Try.prog 14 #[.agg (cpuC x)] W fun e w' => e = .returned (.agg (cpuC y)) ∧ W.grownBy w' none := by
  have Hz := zero_cpu
  have HL := hid hl.len
  have HA : Hid (CpuAt ((W.alloc (.cells (cpuC x) 26)).alloc (.cells (cpuC zeroP) 26)) W.heap.size x) := hid ((CpuAt.new W hl.len).alloc _)
  have HZ : Hid (CpuAt ((W.alloc (.cells (cpuC x) 26)).alloc (.cells (cpuC zeroP) 26)) (W.heap.size + 1) zeroP) := hid (CpuAt.new2 W _ rfl)
  have HG : Hid (W.grownBy ((W.alloc (.cells (cpuC x) 26)).alloc (.cells (cpuC zeroP) 26)) none) := hid (grown_alloc (grown_alloc (grown_refl _ _) _) _)
  have HY : Hid ((⟨x.l, x.epc, x.eie, false, 0, x.tv, x.ca, x.ad⟩ : Cp) = y) := hid (by rw [← hy]; rfl)
  clear hy hl
  go_enter Try.func14, Try.ntmps14
  go_upto_region 1 with (fail)
  generalize ((W.alloc (.cells (cpuC x) 26)).alloc (.cells (cpuC zeroP) 26)) = w2 at HA HZ HG ⊢
  have k1 := HA.out.pc
  have k2 := HA.out.ie
  have k3 := HA.out.eie
  have k4 := HA.out.epc
  have kf := fun j => HA.out.free j
  obtain ⟨b1, hb1⟩ : ∃ b, b = W.heap.size := ⟨_, rfl⟩
  have HB := hid (Nat.le_of_eq hb1.symm)
  rw [← hb1] at HA HZ k1 k2 k3 k4 ⊢
  simp only [← hb1] at kf
  clear hb1
  have HA' := hid ((((HA.out.sPc x.epc).sIe x.eie).sEpc 0).sEie false)
  have HZ' := hid ((((HZ.out.other b1 16 (.int .u32 x.epc) (by omega)).other b1 17 (.bool x.eie) (by omega)).other b1 19 (.int .u32 0) (by omega)).other b1 18 (.bool false) (by omega))
  have HG' := hid (grown_setN (grown_setN (grown_setN (grown_setN HG.out HB.out 16 (.int .u32 x.epc)) HB.out 17 (.bool x.eie)) HB.out 19 (.int .u32 0)) HB.out 18 (.bool false))
  clear HA HZ HG
  go_upto_region 3 with (fail)
  generalize ((((w2.setCell ⟨b1, 16, none⟩ (.int .u32 x.epc)).setCell ⟨b1, 17, none⟩ (.bool x.eie)).setCell ⟨b1, 19, none⟩ (.int .u32 0)).setCell ⟨b1, 18, none⟩ (.bool false)) = w3 at HA' HZ' HG' ⊢
  clear k1 k2 k3 k4 kf
  have HL' : Hid ((⟨x.l, x.epc, x.eie, false, 0, x.tv, x.ca, x.ad⟩ : Cp).l.length = 16) := HL
  generalize (⟨x.l, x.epc, x.eie, false, 0, x.tv, x.ca, x.ad⟩ : Cp) = z at HA' HY HL'
  go_wp2_with (first
    | (refine wpList_load_cpu rfl _ rfl rfl HA'.out ?_)
    | (refine wpList_store_cpu rfl _ _ rfl rfl rfl HZ'.out HL'.out ?_))
  have HE := hid (HZ'.out.row HL'.out)
  refine bodyPost_ret (v := .agg (cpuC z)) (results_cell_row Try.results14 _ _ (b1 + 1) _ _ _ _ rfl HE.out.blk Try.underlying26 rfl (cpu_size_info HL'.out)) rfl ?_
  exact ⟨by rw [HY.out], grown_setRow HG'.out (by have := HB.out; omega) _⟩
set_option maxHeartbeats 1000000 in
theorem rret_any (hl : Regs x.l) (W : World) (y : Cp) (hy : retP x = y) :
    Calls Try.prog 15 #[.agg (cpuC x)] W fun e w' => e = .returned (.agg (cpuC y)) ∧ W.grownBy w' none := by
  have Hz := zero_cpu
  have HL := hid hl.len
  have HA : Hid (CpuAt ((W.alloc (.cells (cpuC x) 26)).alloc (.cells (cpuC zeroP) 26)) W.heap.size x) := hid ((CpuAt.new W hl.len).alloc _)
  have HZ : Hid (CpuAt ((W.alloc (.cells (cpuC x) 26)).alloc (.cells (cpuC zeroP) 26)) (W.heap.size + 1) zeroP) := hid (CpuAt.new2 W _ rfl)
  have HG : Hid (W.grownBy ((W.alloc (.cells (cpuC x) 26)).alloc (.cells (cpuC zeroP) 26)) none) := hid (grown_alloc (grown_alloc (grown_refl _ _) _) _)
  have HY : Hid ((⟨x.l, x.epc, x.eie, false, 0, x.tv, x.ca, x.ad⟩ : Cp) = y) := hid (by rw [← hy]; rfl)
  clear hy hl
  go_enter Try.func15, Try.ntmps15
  go_upto_region 1 with (fail)
  generalize ((W.alloc (.cells (cpuC x) 26)).alloc (.cells (cpuC zeroP) 26)) = w2 at HA HZ HG ⊢
  have k1 := HA.out.pc
  have k2 := HA.out.ie
  have k3 := HA.out.eie
  have k4 := HA.out.epc
  have kf := fun j => HA.out.free j
  obtain ⟨b1, hb1⟩ : ∃ b, b = W.heap.size := ⟨_, rfl⟩
  have HB := hid (Nat.le_of_eq hb1.symm)
  rw [← hb1] at HA HZ k1 k2 k3 k4 ⊢
  simp only [← hb1] at kf
  clear hb1
  have HA' := hid ((((HA.out.sPc x.epc).sIe x.eie).sEpc 0).sEie false)
  have HZ' := hid ((((HZ.out.other b1 16 (.int .u32 x.epc) (by omega)).other b1 17 (.bool x.eie) (by omega)).other b1 19 (.int .u32 0) (by omega)).other b1 18 (.bool false) (by omega))
  have HG' := hid (grown_setN (grown_setN (grown_setN (grown_setN HG.out HB.out 16 (.int .u32 x.epc)) HB.out 17 (.bool x.eie)) HB.out 19 (.int .u32 0)) HB.out 18 (.bool false))
  clear HA HZ HG
  go_upto_region 5 with (fail)
  generalize ((((w2.setCell ⟨b1, 16, none⟩ (.int .u32 x.epc)).setCell ⟨b1, 17, none⟩ (.bool x.eie)).setCell ⟨b1, 19, none⟩ (.int .u32 0)).setCell ⟨b1, 18, none⟩ (.bool false)) = w3 at HA' HZ' HG' ⊢
  clear k1 k2 k3 k4 kf
  have HL' : Hid ((⟨x.l, x.epc, x.eie, false, 0, x.tv, x.ca, x.ad⟩ : Cp).l.length = 16) := HL
  generalize (⟨x.l, x.epc, x.eie, false, 0, x.tv, x.ca, x.ad⟩ : Cp) = z at HA' HY HL'
  go_wp2_with (first
    | (refine wpList_load_cpu rfl _ rfl rfl HA'.out ?_)
    | (refine wpList_store_cpu rfl _ _ rfl rfl rfl HZ'.out HL'.out ?_))
  have HE := hid (HZ'.out.row HL'.out)
  refine bodyPost_ret (v := .agg (cpuC z)) (results_cell_row Try.results15 _ _ (b1 + 1) _ _ _ _ rfl HE.out.blk Try.underlying26 rfl (cpu_size_info HL'.out)) rfl ?_
  exact ⟨by rw [HY.out], grown_setRow HG'.out (by have := HB.out; omega) _⟩
end
end Go.Proofs.Ytajminajdcpgnaa
