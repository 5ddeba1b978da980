/- Traps (package trap; the document's own): Enter, Return: contracts. -/
import Derived.Test.YtajminajdcpgnaaCpu0
import Derived.StillTailTactics
import Derived.Deep.Cut
namespace Go.Proofs.Ytajminajdcpgnaa
open Go.RowKit
section
variable {x : Cp}
set_option maxHeartbeats 1000000 in
theorem enter_any (hl : Regs x.l) (c ad : Int) (W : World) (y : Cp) (hy : enterP x c ad = y) (r : Bool) (hr : (!(x.tv == 0)) = r) :
    Calls Try.prog 7 #[.agg (cpuC x), .int .i64 c, .int .u32 ad] W fun e w' => e = .returned (.tuple #[.agg (cpuC y), .bool r]) ∧ W.grownBy w' none := by
  have Hz := zero_cpu
  have HL := hid hl.len
  have HA : Hid (CpuAt ((W.alloc (.cells (cpuC x) 26)).alloc (.cells (cpuC zeroP) 26)) W.heap.size x) := hid ((CpuAt.new W hl.len).alloc _)
  have HZ : Hid (CpuAt ((W.alloc (.cells (cpuC x) 26)).alloc (.cells (cpuC zeroP) 26)) (W.heap.size + 1) zeroP) := hid (CpuAt.new2 W _ rfl)
  have HG : Hid (W.grownBy ((W.alloc (.cells (cpuC x) 26)).alloc (.cells (cpuC zeroP) 26)) none) := hid (grown_alloc (grown_alloc (grown_refl _ _) _) _)
  by_cases h0 : x.tv = 0
  · have HY : Hid (x = y) := hid (by rw [← hy, enterP, if_pos h0])
    obtain rfl : false = r := by rw [← hr, h0]; rfl
    clear hr hy hl
    go_enter Try.func7, Try.ntmps7
    go_upto_region 1 with (fail)
    generalize ((W.alloc (.cells (cpuC x) 26)).alloc (.cells (cpuC zeroP) 26)) = w2 at HA HZ HG ⊢
    have k5 := HA.out.tv
    obtain ⟨b1, hb1⟩ : ∃ b, b = W.heap.size := ⟨_, rfl⟩
    have HB := hid (Nat.le_of_eq hb1.symm)
    rw [← hb1] at HA HZ k5 ⊢
    clear hb1
    go_wp2_with (first
      | (refine wpList_load_cpu rfl _ rfl rfl HA.out ?_)
      | (refine wpList_store_cpu rfl _ _ rfl rfl rfl HZ.out HL.out ?_))
    have HE := hid (HZ.out.row HL.out)
    have hv := run_loadVar_row (P := Try.prog) _ _ _ 26 _ _ _ HE.out.blk Try.underlying26 rfl (cpu_size_info HL.out)
    refine bodyPost_ret (v := .tuple #[.agg (cpuC x), .bool false]) (by simp [results, Try.results7, asAddr, hv]) rfl ?_
    exact ⟨by rw [HY.out], grown_setRow HG.out (by have := HB.out; omega) _⟩
  · have HY : Hid ((⟨x.l, x.tv, false, x.ie, x.pc, x.tv, c % 4294967296, ad⟩ : Cp) = y) := hid (by rw [← hy, enterP, if_neg h0])
    obtain rfl : true = r := by rw [← hr]; simpa using h0
    have h0' : (x.tv == 0) = false := by simpa using h0
    clear hr hy hl h0
    go_enter Try.func7, Try.ntmps7
    go_upto_region 1 with (fail)
    generalize ((W.alloc (.cells (cpuC x) 26)).alloc (.cells (cpuC zeroP) 26)) = w2 at HA HZ HG ⊢
    have k1 := HA.out.pc
    have k2 := HA.out.ie
    have k3 := HA.out.eie
    have k4 := HA.out.epc
    have k5 := HA.out.tv
    have k6 := HA.out.ca
    have k7 := HA.out.ad
    have kf := fun j => HA.out.free j
    obtain ⟨b1, hb1⟩ : ∃ b, b = W.heap.size := ⟨_, rfl⟩
    have HB := hid (Nat.le_of_eq hb1.symm)
    rw [← hb1] at HA HZ k1 k2 k3 k4 k5 k6 k7 ⊢
    simp only [← hb1] at kf
    clear hb1
    have HA' := hid (((((((HA.out.sEpc x.pc).sEie x.ie).sPc x.tv).sIe false).sCa (c % 4294967296)).sAd ad))
    have HZ' := hid ((((((HZ.out.other b1 19 (.int .u32 x.pc) (by omega)).other b1 18 (.bool x.ie) (by omega)).other b1 16 (.int .u32 x.tv) (by omega)).other b1 17 (.bool false) (by omega)).other b1 21 (.int .u32 (c % 4294967296)) (by omega)).other b1 22 (.int .u32 ad) (by omega))
    have HG' := hid (grown_setN (grown_setN (grown_setN (grown_setN (grown_setN (grown_setN HG.out HB.out 19 (.int .u32 x.pc)) HB.out 18 (.bool x.ie)) HB.out 16 (.int .u32 x.tv)) HB.out 17 (.bool false)) HB.out 21 (.int .u32 (c % 4294967296))) HB.out 22 (.int .u32 ad))
    clear HA HZ HG
    go_upto_region 6 with (fail)
    generalize ((((((w2.setCell ⟨b1, 19, none⟩ (.int .u32 x.pc)).setCell ⟨b1, 18, none⟩ (.bool x.ie)).setCell ⟨b1, 16, none⟩ (.int .u32 x.tv)).setCell ⟨b1, 17, none⟩ (.bool false)).setCell ⟨b1, 21, none⟩ (.int .u32 (c % 4294967296))).setCell ⟨b1, 22, none⟩ (.int .u32 ad)) = w3 at HA' HZ' HG' ⊢
    clear k1 k2 k3 k4 k5 k6 k7 kf
    have HL' : Hid ((⟨x.l, x.tv, false, x.ie, x.pc, x.tv, c % 4294967296, ad⟩ : Cp).l.length = 16) := HL
    generalize (⟨x.l, x.tv, false, x.ie, x.pc, x.tv, c % 4294967296, ad⟩ : Cp) = z at HA' HY HL'
    go_wp2_with (first
      | (refine wpList_load_cpu rfl _ rfl rfl HA'.out ?_)
      | (refine wpList_store_cpu rfl _ _ rfl rfl rfl HZ'.out HL'.out ?_))
    have HE := hid (HZ'.out.row HL'.out)
    have hv := run_loadVar_row (P := Try.prog) _ _ _ 26 _ _ _ HE.out.blk Try.underlying26 rfl (cpu_size_info HL'.out)
    refine bodyPost_ret (v := .tuple #[.agg (cpuC z), .bool true]) (by simp [results, Try.results7, asAddr, hv]) rfl ?_
    exact ⟨by rw [HY.out], grown_setRow HG'.out (by have := HB.out; omega) _⟩
end
end Go.Proofs.Ytajminajdcpgnaa
