/- The walk of the law TrapBack. -/
import Derived.Test.YtajminajdcpgnaaTrap1
namespace Go.Proofs.Ytajminajdcpgnaa
open Go.RowKit
set_option maxHeartbeats 4000000 in
theorem back_zero (x : Cp) (c ad : Int) (W : World) (hl : Regs x.l) (h0 : x.tv = 0) :
    Calls Try.prog 4 #[.agg (cpuC x), .int .i64 c, .int .u32 ad] W fun e w' => e = .returned (.bool true) ∧ Below W.heap.size W w' := by
  have Hz := zero_cpu
  have HL := hid hl
  have HC0 := hid (CpuAt.new W hl.len)
  have HG0 := hid (grown_alloc (grown_refl W none) (.cells (cpuC x) 26))
  have HY : Hid (enterP x c ad = x) := hid (by rw [enterP, if_pos h0])
  have HR : Hid ((!(x.tv == 0)) = false) := hid (by rw [h0]; rfl)
  have H0 := hid h0
  clear hl h0
  go_enter Try.func4, Try.ntmps4
  go_upto_region 1 with (fail)
  generalize W.alloc (.cells (cpuC x) 26) = W0 at HC0 HG0 ⊢
  generalize W.heap.size = b at HC0 ⊢
  go_wp2_with fail
  refine (first6_any _).mono ?_; rintro e w1 ⟨rfl, hg⟩
  have HC1 := hid (HC0.out.kept0 hg)
  have HG1 := hid (grown_trans HG0.out hg)
  clear hg HC0 HG0
  go_wp2_with (first
    | (refine wpList_load_cpu rfl _ rfl rfl HC1.out ?_)
    | fail)
  refine (enter_any HL.out c ad _ x HY.out false HR.out).mono ?_; rintro e w2 ⟨rfl, hg⟩
  have HC3 := hid ((HC1.out.kept0 hg).alloc (.cells (cpuC x) 26))
  have HD3 := hid (CpuAt.new w2 HC1.out.len)
  have HG3 := hid (grown_alloc (grown_trans HG1.out hg) (.cells (cpuC x) 26))
  clear hg HC1 HG1
  go_upto_region 5 with (first
    | (refine wpList_store_cpu_new (y := x) (z := zeroP) rfl _ _ rfl rfl rfl rfl HL.out.len ?_)
    | fail)
  generalize w2.alloc (.cells (cpuC x) 26) = w3 at HC3 HD3 HG3 ⊢
  generalize w2.heap.size = d at HD3 ⊢
  have k5 := HC3.out.tv
  rw [H0.out] at k5
  go_wp2_with (first
    | (refine wpList_load_cpu_w (by kernel_rfl) _ rfl rfl HC3.out ?_)
    | (refine wpList_load_cpu_w (by kernel_rfl) _ rfl rfl HD3.out ?_)
    | fail)
  refine (same_cpu HL.out _).mono ?_; rintro e w4 ⟨rfl, hg⟩
  have HG4 := hid (grown_trans HG3.out hg)
  clear hg
  go_wp2
  go_ret
  exact ⟨rfl, grown_below HG4.out⟩
set_option maxRecDepth 100000 in
set_option maxHeartbeats 8000000 in
theorem back_more (x : Cp) (c ad : Int) (W : World) (hl : Regs x.l) (h0 : x.tv ≠ 0) :
    Calls Try.prog 4 #[.agg (cpuC x), .int .i64 c, .int .u32 ad] W fun e w' => e = .returned (.bool true) ∧ Below W.heap.size W w' := by
  have Hz := zero_cpu
  have Hz33 := zero_dev
  have HL := hid hl
  have HC0 := hid (CpuAt.new W hl.len)
  have HG0 := hid (grown_alloc (grown_refl W none) (.cells (cpuC x) 26))
  obtain ⟨K, hK⟩ : ∃ K, c % 4294967296 = K := ⟨_, rfl⟩
  have HY : Hid (enterP x c ad = ⟨x.l, x.tv, false, x.ie, x.pc, x.tv, K, ad⟩) := hid (by rw [enterP, if_neg h0, hK])
  have HE : Hid (retP ⟨x.l, x.tv, false, x.ie, x.pc, x.tv, K, ad⟩ = ⟨x.l, x.pc, x.ie, false, 0, x.tv, K, ad⟩) := hid rfl
  have HF : Hid (retP ⟨x.l, x.pc, x.ie, false, 0, x.tv, K, ad⟩ = ⟨x.l, 0, false, false, 0, x.tv, K, ad⟩) := hid rfl
  have HLy : Hid (Regs (⟨x.l, x.tv, false, x.ie, x.pc, x.tv, K, ad⟩ : Cp).l) := hid hl
  have HLe : Hid (Regs (⟨x.l, x.pc, x.ie, false, 0, x.tv, K, ad⟩ : Cp).l) := hid hl
  have HLf : Hid (Regs (⟨x.l, 0, false, false, 0, x.tv, K, ad⟩ : Cp).l) := hid hl
  have Yi : Hid ((⟨x.l, x.tv, false, x.ie, x.pc, x.tv, K, ad⟩ : Cp).ie = false) := hid rfl
  have E0 : Hid ((⟨x.l, x.pc, x.ie, false, 0, x.tv, K, ad⟩ : Cp).l = x.l) := hid rfl
  have E1 : Hid ((⟨x.l, x.pc, x.ie, false, 0, x.tv, K, ad⟩ : Cp).pc = x.pc) := hid rfl
  have E2 : Hid ((⟨x.l, x.pc, x.ie, false, 0, x.tv, K, ad⟩ : Cp).ie = x.ie) := hid rfl
  have E5 : Hid ((⟨x.l, x.pc, x.ie, false, 0, x.tv, K, ad⟩ : Cp).tv = x.tv) := hid rfl
  have E6 : Hid ((⟨x.l, x.pc, x.ie, false, 0, x.tv, K, ad⟩ : Cp).ca = K) := hid rfl
  have E7 : Hid ((⟨x.l, x.pc, x.ie, false, 0, x.tv, K, ad⟩ : Cp).ad = ad) := hid rfl
  have F1 : Hid ((⟨x.l, 0, false, false, 0, x.tv, K, ad⟩ : Cp).pc = 0) := hid rfl
  have F2 : Hid ((⟨x.l, 0, false, false, 0, x.tv, K, ad⟩ : Cp).ie = false) := hid rfl
  generalize (⟨x.l, x.tv, false, x.ie, x.pc, x.tv, K, ad⟩ : Cp) = y at HY HE HLy Yi
  generalize (⟨x.l, x.pc, x.ie, false, 0, x.tv, K, ad⟩ : Cp) = e at HE HF HLe E0 E1 E2 E5 E6 E7
  generalize (⟨x.l, 0, false, false, 0, x.tv, K, ad⟩ : Cp) = f at HF HLf F1 F2
  have HR : Hid ((!(x.tv == 0)) = true) := hid (by simpa using h0)
  have h0' : (x.tv == 0) = false := by simpa using h0
  have H0 := hid h0'
  have HK := hid hK
  clear hl h0 h0' hK
  go_enter Try.func4, Try.ntmps4
  go_upto_region 1 with (fail)
  generalize W.alloc (.cells (cpuC x) 26) = W0 at HC0 HG0 ⊢
  generalize W.heap.size = b at HC0 ⊢
  go_wp2_with fail
  refine (first6_any _).mono ?_; rintro e' w1 ⟨rfl, hg⟩
  have HC1 := hid (HC0.out.kept0 hg)
  have HG1 := hid (grown_trans HG0.out hg)
  clear hg HC0 HG0
  go_wp2_with (first
    | (refine wpList_load_cpu rfl _ rfl rfl HC1.out ?_)
    | fail)
  refine (enter_any HL.out c ad _ y HY.out true HR.out).mono ?_; rintro e' w2 ⟨rfl, hg⟩
  have HC3 := hid ((HC1.out.kept0 hg).alloc (.cells (cpuC y) 26))
  have HD3 := hid (CpuAt.new w2 HLy.out.len)
  have HG3 := hid (grown_alloc (grown_trans HG1.out hg) (.cells (cpuC y) 26))
  clear hg HC1 HG1
  go_upto_region 5 with (first
    | (refine wpList_store_cpu_new (y := y) (z := zeroP) rfl _ _ rfl rfl rfl rfl HLy.out.len ?_)
    | fail)
  generalize w2.alloc (.cells (cpuC y) 26) = w3 at HC3 HD3 HG3 ⊢
  generalize w2.heap.size = d at HD3 ⊢
  have k5 := HC3.out.tv
  have h0' := H0.out
  go_wp2_with fail
  have HV4 := hid (dev_zero (B := w3.heap.size) w3 (Nat.le_refl _))
  have Hg4 := hid (grown_alloc (grown_refl w3 none) (.cells zeroD 39))
  generalize w3.alloc (.cells zeroD 39) = w4 at HV4 Hg4 ⊢
  clear k5 h0'
  generalize hv : w3.heap.size = v at HV4 ⊢
  refine (press_yes HV4.out (by decide) 1).mono ?_; rintro e' w5 ⟨rfl, ht⟩
  have HV5 := hid ht.at_
  have Hg5 := hid (turned_old Hg4.out (by rw [hv]; exact HV4.out) (by rw [hv]; exact ht))
  clear ht HV4 Hg4
  go_wp2_with fail
  refine (set_any HV5.out 0 1).mono ?_; rintro e' w6 ⟨rfl, ht⟩
  have HV6 := hid ht.at_
  have Hg6 := hid (turned_old Hg5.out (by rw [hv]; exact HV5.out) (by rw [hv]; exact ht))
  have HC6 := hid (HC3.out.kept0 Hg6.out)
  have HD6 := hid (HD3.out.kept0 Hg6.out)
  have HG6 := hid (grown_trans HG3.out Hg6.out)
  clear ht HV5 Hg5 Hg6 HC3 HD3 HG3 hv
  go_wp2_with (first
    | (refine wpList_load_cpu rfl _ rfl rfl HD6.out ?_)
    | fail)
  refine (waits_any (c := y) HV6.out HLy.out.len 9 (by decide) (by decide) (by decide) (by decide) (by decide) (by decide) true rfl 1 rfl true 0 (by rw [waitV, Yi.out]; rfl)).mono ?_; rintro e' w7 ⟨rfl, hg⟩
  have HC7 := hid (HC6.out.kept0 hg)
  have HD7 := hid (HD6.out.kept0 hg)
  have HG7 := hid (grown_trans HG6.out hg)
  clear hg HV6 HC6 HD6 HG6
  go_wp2_with (first
    | (refine wpList_load_cpu rfl _ rfl rfl HD7.out ?_)
    | fail)
  refine (ret_any HLy.out _ e HE.out).mono ?_; rintro e' w8 ⟨rfl, hg⟩
  have HC9 := hid ((HC7.out.kept0 hg).alloc (.cells (cpuC e) 26))
  have HE9 := hid (CpuAt.new w8 HLe.out.len)
  have HG9 := hid (grown_alloc (grown_trans HG7.out hg) (.cells (cpuC e) 26))
  clear hg HC7 HD7 HG7
  go_upto_region 12 with (first
    | (refine wpList_store_cpu_new (y := e) (z := zeroP) rfl _ _ rfl rfl rfl rfl HLe.out.len ?_)
    | fail)
  generalize w8.alloc (.cells (cpuC e) 26) = w9 at HC9 HE9 HG9 ⊢
  generalize w8.heap.size = be at HE9 ⊢
  go_wp2_with (first
    | (refine wpList_load_cpu rfl _ rfl rfl HE9.out ?_)
    | fail)
  refine (ret_any HLe.out _ f HF.out).mono ?_; rintro e' wa ⟨rfl, hg⟩
  have HCb := hid ((HC9.out.kept0 hg).alloc (.cells (cpuC f) 26))
  have HEb := hid ((HE9.out.kept0 hg).alloc (.cells (cpuC f) 26))
  have HFb := hid (CpuAt.new wa HLf.out.len)
  have HGb := hid (grown_alloc (grown_trans HG9.out hg) (.cells (cpuC f) 26))
  clear hg HC9 HE9 HG9
  go_upto_region 13 with (first
    | (refine wpList_store_cpu_new (y := f) (z := zeroP) rfl _ _ rfl rfl rfl rfl HLf.out.len ?_)
    | fail)
  generalize wa.alloc (.cells (cpuC f) 26) = wb at HCb HEb HFb HGb ⊢
  generalize wa.heap.size = bf at HFb ⊢
  go_wp2_with (first
    | (refine wpList_load_regs_w (by kernel_rfl) _ rfl rfl HCb.out ?_)
    | (refine wpList_load_regs_w (by kernel_rfl) _ rfl rfl HEb.out ?_)
    | fail)
  rw [E0.out]
  refine (same_regs HL.out HL.out true (by simp) _).mono ?_; rintro e' wc ⟨rfl, hg⟩
  have HCc := hid (HCb.out.kept0 hg)
  have HEc := hid (HEb.out.kept0 hg)
  have HFc := hid (HFb.out.kept0 hg)
  have HGc := hid (grown_trans HGb.out hg)
  have k1 := HCc.out.pc
  have k2 := HCc.out.ie
  have k5 := HCc.out.tv
  have j1 := HEc.out.pc
  have j2 := HEc.out.ie
  have j5 := HEc.out.tv
  have j6 := HEc.out.ca
  have j7 := HEc.out.ad
  have m1 := HFc.out.pc
  have m2 := HFc.out.ie
  rw [E1.out] at j1
  rw [E2.out] at j2
  rw [E5.out] at j5
  rw [E6.out] at j6
  rw [E7.out] at j7
  rw [F1.out] at m1
  rw [F2.out] at m2
  have hK := HK.out
  clear hg HCb HEb HFb HGb
  go_wp2
  go_ret
  exact ⟨ret_b (by simp), grown_below HGc.out⟩
theorem back_walk (x : Cp) (c ad : Int) (W : World) (hx : CpOk x) (_ : -9223372036854775808 ≤ c) (_ : c ≤ 9223372036854775807) (_ : 0 ≤ ad) (_ : ad ≤ 4294967295) :
    Calls Try.prog 4 #[.agg (cpuC x), .int .i64 c, .int .u32 ad] W fun e w' => e = .returned (.bool true) ∧ Below W.heap.size W w' := by
  by_cases h0 : x.tv = 0
  · exact back_zero x c ad W hx.regs h0
  · exact back_more x c ad W hx.regs h0
end Go.Proofs.Ytajminajdcpgnaa
