/- The walk of the law TrapOrder. (Made by genTOrder.py.) -/
import Derived.Test.YtajminajdcpgnaaTrap0
import Derived.Test.YtajminajdcpgnaaCpuA
namespace Go.Proofs.Ytajminajdcpgnaa
open Go.RowKit
theorem dev_apart {w : World} {B d b : Nat} {x : DvS} {v : Value} (h : DevAt w B d x v) (hb : b < B) (k : Nat) (u : Value) : DevAt (w.setCell ⟨b, k, none⟩ u) B d x v :=
  h.keptL ((Lv.refl w [b]).set (by simp) _ _) (fun i hi => by have := h.foot_ge i hi; simp; omega)
set_option maxHeartbeats 4000000 in
theorem order_000 (x : Cp) (W : World) (hl : Regs x.l) :
    Calls Try.prog 5 #[.agg (cpuC x), .bool false, .bool false, .bool false] W fun e w' => e = .returned (.bool true) ∧ Below W.heap.size W w' := by
  have Hz := zero_cpu
  have Hz33 := zero_dev
  have HL := hid hl
  have HC0 := hid (CpuAt.new W hl.len)
  have HG0 := hid (grown_alloc (grown_refl W none) (.cells (cpuC x) 26))
  clear hl
  go_enter Try.func5, Try.ntmps5
  go_upto_region 1 with (fail)
  have hlt0 := HC0.out.lt
  generalize W.alloc (.cells (cpuC x) 26) = W0 at HC0 HG0 hlt0 ⊢
  obtain ⟨b, hb⟩ : ∃ b, b = W.heap.size := ⟨_, rfl⟩
  have hbl : W.heap.size ≤ b := Nat.le_of_eq hb.symm
  rw [← hb] at HC0 hlt0 ⊢
  have Hlt := hid hlt0
  have Hbl := hid hbl
  clear hb hlt0 hbl
  go_wp2_with fail
  refine (first6_any _).mono ?_; rintro e w1 ⟨rfl, hg⟩
  have HG1 := hid hg; clear hg
  go_upto_region 9 with (fail)
  have HD1 := hid (dev_zero (B := W0.heap.size) w1 HG1.out.size)
  have HG2 := hid (grown_alloc HG1.out (.cells zeroD 39))
  generalize w1.alloc (.cells zeroD 39) = w2 at HD1 HG2 ⊢
  generalize w1.heap.size = d at HD1 ⊢
  clear HG1
  have HC := hid (HC0.out.kept0 HG2.out)
  have kc := HC.out.ie
  have kf := HC.out.free 17
  have HC5 := hid (HC.out.sIe true)
  have HD5 := hid (dev_apart HD1.out Hlt.out 17 (.bool true))
  have HG5 := hid (grown_setN (grown_trans HG0.out HG2.out) Hbl.out 17 (.bool true))
  clear HD1 HG2 HC0 HC HG0
  go_upto_region 17 with (fail)
  clear kc kf
  generalize w2.setCell ⟨b, 17, none⟩ (.bool true) = w5 at HC5 HD5 HG5 ⊢
  go_wp2_with (first
    | (refine wpList_load_cpu rfl _ rfl rfl HC5.out ?_)
    | fail)
  refine (waits_any (c := ⟨x.l, x.pc, true, x.eie, x.epc, x.tv, x.ca, x.ad⟩) HD5.out HL.out.len 5 (by decide) (by decide) (by decide) (by decide) (by decide) (by decide) false rfl 0 rfl false 0 rfl).mono ?_; rintro e w6 ⟨rfl, hg⟩
  have HC6 := hid (HC5.out.kept0 hg)
  have HD6 := hid (HD5.out.kept0 hg)
  have HG6 := hid (grown_trans HG5.out hg)
  clear hg HC5 HD5 HG5
  go_wp2_with (first
    | (refine wpList_load_cpu rfl _ rfl rfl HC6.out ?_)
    | fail)
  refine (waits_any (c := ⟨x.l, x.pc, true, x.eie, x.epc, x.tv, x.ca, x.ad⟩) HD6.out HL.out.len 4 (by decide) (by decide) (by decide) (by decide) (by decide) (by decide) false rfl 0 rfl false 0 rfl).mono ?_; rintro e w7 ⟨rfl, hg⟩
  have HC7 := hid (HC6.out.kept0 hg)
  have HD7 := hid (HD6.out.kept0 hg)
  have HG7 := hid (grown_trans HG6.out hg)
  clear hg HC6 HD6 HG6
  have kc : _ = some (Value.bool true) := HC7.out.ie
  have kf := HC7.out.free 17
  have HC8 := hid (HC7.out.sIe false)
  have HD8 := hid (dev_apart HD7.out Hlt.out 17 (.bool false))
  have HG8 := hid (grown_setN HG7.out Hbl.out 17 (.bool false))
  clear HC7 HD7 HG7
  go_upto_region 20 with (fail)
  clear kc kf
  generalize w7.setCell ⟨b, 17, none⟩ (.bool false) = w8 at HC8 HD8 HG8 ⊢
  go_wp2_with (first
    | (refine wpList_load_cpu rfl _ rfl rfl HC8.out ?_)
    | fail)
  refine (waits_any (c := ⟨x.l, x.pc, false, x.eie, x.epc, x.tv, x.ca, x.ad⟩) HD8.out HL.out.len 5 (by decide) (by decide) (by decide) (by decide) (by decide) (by decide) false rfl 0 rfl false 0 rfl).mono ?_; rintro e w9 ⟨rfl, hg⟩
  have HG9 := hid (grown_trans HG8.out hg)
  clear hg HC8 HD8 HG8
  go_wp2
  go_ret
  exact ⟨rfl, grown_below HG9.out⟩
set_option maxHeartbeats 4000000 in
theorem order_001 (x : Cp) (W : World) (hl : Regs x.l) :
    Calls Try.prog 5 #[.agg (cpuC x), .bool false, .bool false, .bool true] W fun e w' => e = .returned (.bool true) ∧ Below W.heap.size W w' := by
  have Hz := zero_cpu
  have Hz33 := zero_dev
  have HL := hid hl
  have HC0 := hid (CpuAt.new W hl.len)
  have HG0 := hid (grown_alloc (grown_refl W none) (.cells (cpuC x) 26))
  clear hl
  go_enter Try.func5, Try.ntmps5
  go_upto_region 1 with (fail)
  have hlt0 := HC0.out.lt
  generalize W.alloc (.cells (cpuC x) 26) = W0 at HC0 HG0 hlt0 ⊢
  obtain ⟨b, hb⟩ : ∃ b, b = W.heap.size := ⟨_, rfl⟩
  have hbl : W.heap.size ≤ b := Nat.le_of_eq hb.symm
  rw [← hb] at HC0 hlt0 ⊢
  have Hlt := hid hlt0
  have Hbl := hid hbl
  clear hb hlt0 hbl
  go_wp2_with fail
  refine (first6_any _).mono ?_; rintro e w1 ⟨rfl, hg⟩
  have HG1 := hid hg; clear hg
  go_upto_region 9 with (fail)
  have HD1 := hid (dev_zero (B := W0.heap.size) w1 HG1.out.size)
  have HG2 := hid (grown_alloc HG1.out (.cells zeroD 39))
  generalize w1.alloc (.cells zeroD 39) = w2 at HD1 HG2 ⊢
  generalize w1.heap.size = d at HD1 ⊢
  clear HG1
  have HC := hid (HC0.out.kept0 HG2.out)
  have kc := HC.out.ie
  have kf := HC.out.free 17
  have HC5 := hid (HC.out.sIe true)
  have HD5 := hid (dev_apart HD1.out Hlt.out 17 (.bool true))
  have HG5 := hid (grown_setN (grown_trans HG0.out HG2.out) Hbl.out 17 (.bool true))
  clear HD1 HG2 HC0 HC HG0
  go_upto_region 17 with (fail)
  clear kc kf
  generalize w2.setCell ⟨b, 17, none⟩ (.bool true) = w5 at HC5 HD5 HG5 ⊢
  go_wp2_with (first
    | (refine wpList_load_cpu rfl _ rfl rfl HC5.out ?_)
    | fail)
  refine (waits_any (c := ⟨x.l, x.pc, true, x.eie, x.epc, x.tv, x.ca, x.ad⟩) HD5.out HL.out.len 5 (by decide) (by decide) (by decide) (by decide) (by decide) (by decide) false rfl 0 rfl true 5 rfl).mono ?_; rintro e w6 ⟨rfl, hg⟩
  have HC6 := hid (HC5.out.kept0 hg)
  have HD6 := hid (HD5.out.kept0 hg)
  have HG6 := hid (grown_trans HG5.out hg)
  clear hg HC5 HD5 HG5
  go_wp2_with (first
    | (refine wpList_load_cpu rfl _ rfl rfl HC6.out ?_)
    | fail)
  refine (waits_any (c := ⟨x.l, x.pc, true, x.eie, x.epc, x.tv, x.ca, x.ad⟩) HD6.out HL.out.len 4 (by decide) (by decide) (by decide) (by decide) (by decide) (by decide) false rfl 0 rfl true 5 rfl).mono ?_; rintro e w7 ⟨rfl, hg⟩
  have HC7 := hid (HC6.out.kept0 hg)
  have HD7 := hid (HD6.out.kept0 hg)
  have HG7 := hid (grown_trans HG6.out hg)
  clear hg HC6 HD6 HG6
  have kc : _ = some (Value.bool true) := HC7.out.ie
  have kf := HC7.out.free 17
  have HC8 := hid (HC7.out.sIe false)
  have HD8 := hid (dev_apart HD7.out Hlt.out 17 (.bool false))
  have HG8 := hid (grown_setN HG7.out Hbl.out 17 (.bool false))
  clear HC7 HD7 HG7
  go_upto_region 20 with (fail)
  clear kc kf
  generalize w7.setCell ⟨b, 17, none⟩ (.bool false) = w8 at HC8 HD8 HG8 ⊢
  go_wp2_with (first
    | (refine wpList_load_cpu rfl _ rfl rfl HC8.out ?_)
    | fail)
  refine (waits_any (c := ⟨x.l, x.pc, false, x.eie, x.epc, x.tv, x.ca, x.ad⟩) HD8.out HL.out.len 5 (by decide) (by decide) (by decide) (by decide) (by decide) (by decide) false rfl 0 rfl true 0 rfl).mono ?_; rintro e w9 ⟨rfl, hg⟩
  have HG9 := hid (grown_trans HG8.out hg)
  clear hg HC8 HD8 HG8
  go_wp2
  go_ret
  exact ⟨rfl, grown_below HG9.out⟩
set_option maxHeartbeats 4000000 in
theorem order_010 (x : Cp) (W : World) (hl : Regs x.l) :
    Calls Try.prog 5 #[.agg (cpuC x), .bool false, .bool true, .bool false] W fun e w' => e = .returned (.bool true) ∧ Below W.heap.size W w' := by
  have Hz := zero_cpu
  have Hz33 := zero_dev
  have HL := hid hl
  have HC0 := hid (CpuAt.new W hl.len)
  have HG0 := hid (grown_alloc (grown_refl W none) (.cells (cpuC x) 26))
  clear hl
  go_enter Try.func5, Try.ntmps5
  go_upto_region 1 with (fail)
  have hlt0 := HC0.out.lt
  generalize W.alloc (.cells (cpuC x) 26) = W0 at HC0 HG0 hlt0 ⊢
  obtain ⟨b, hb⟩ : ∃ b, b = W.heap.size := ⟨_, rfl⟩
  have hbl : W.heap.size ≤ b := Nat.le_of_eq hb.symm
  rw [← hb] at HC0 hlt0 ⊢
  have Hlt := hid hlt0
  have Hbl := hid hbl
  clear hb hlt0 hbl
  go_wp2_with fail
  refine (first6_any _).mono ?_; rintro e w1 ⟨rfl, hg⟩
  have HG1 := hid hg; clear hg
  go_wp2_with fail
  have HD1 := hid (dev_zero (B := W0.heap.size) w1 HG1.out.size)
  have HG2 := hid (grown_alloc HG1.out (.cells zeroD 39))
  generalize w1.alloc (.cells zeroD 39) = w2 at HD1 HG2 ⊢
  generalize w1.heap.size = d at HD1 ⊢
  clear HG1
  refine (press_yes HD1.out (by decide) 0).mono ?_; rintro e w4 ⟨rfl, ht⟩
  have HD4 := hid ht.at_
  have HG4 := hid (turned_old HG2.out HD1.out ht)
  clear ht HD1 HG2
  go_upto_region 9 with (fail)
  have HC := hid (HC0.out.kept0 HG4.out)
  have kc := HC.out.ie
  have kf := HC.out.free 17
  have HC5 := hid (HC.out.sIe true)
  have HD5 := hid (dev_apart HD4.out Hlt.out 17 (.bool true))
  have HG5 := hid (grown_setN (grown_trans HG0.out HG4.out) Hbl.out 17 (.bool true))
  clear HD4 HG4 HC0 HC HG0
  go_upto_region 17 with (fail)
  clear kc kf
  generalize w4.setCell ⟨b, 17, none⟩ (.bool true) = w5 at HC5 HD5 HG5 ⊢
  go_wp2_with (first
    | (refine wpList_load_cpu rfl _ rfl rfl HC5.out ?_)
    | fail)
  refine (waits_any (c := ⟨x.l, x.pc, true, x.eie, x.epc, x.tv, x.ca, x.ad⟩) HD5.out HL.out.len 5 (by decide) (by decide) (by decide) (by decide) (by decide) (by decide) false rfl 1 rfl false 3 rfl).mono ?_; rintro e w6 ⟨rfl, hg⟩
  have HC6 := hid (HC5.out.kept0 hg)
  have HD6 := hid (HD5.out.kept0 hg)
  have HG6 := hid (grown_trans HG5.out hg)
  clear hg HC5 HD5 HG5
  go_wp2_with (first
    | (refine wpList_load_cpu rfl _ rfl rfl HC6.out ?_)
    | fail)
  refine (waits_any (c := ⟨x.l, x.pc, true, x.eie, x.epc, x.tv, x.ca, x.ad⟩) HD6.out HL.out.len 4 (by decide) (by decide) (by decide) (by decide) (by decide) (by decide) false rfl 1 rfl false 3 rfl).mono ?_; rintro e w7 ⟨rfl, hg⟩
  have HC7 := hid (HC6.out.kept0 hg)
  have HD7 := hid (HD6.out.kept0 hg)
  have HG7 := hid (grown_trans HG6.out hg)
  clear hg HC6 HD6 HG6
  have kc : _ = some (Value.bool true) := HC7.out.ie
  have kf := HC7.out.free 17
  have HC8 := hid (HC7.out.sIe false)
  have HD8 := hid (dev_apart HD7.out Hlt.out 17 (.bool false))
  have HG8 := hid (grown_setN HG7.out Hbl.out 17 (.bool false))
  clear HC7 HD7 HG7
  go_upto_region 20 with (fail)
  clear kc kf
  generalize w7.setCell ⟨b, 17, none⟩ (.bool false) = w8 at HC8 HD8 HG8 ⊢
  go_wp2_with (first
    | (refine wpList_load_cpu rfl _ rfl rfl HC8.out ?_)
    | fail)
  refine (waits_any (c := ⟨x.l, x.pc, false, x.eie, x.epc, x.tv, x.ca, x.ad⟩) HD8.out HL.out.len 5 (by decide) (by decide) (by decide) (by decide) (by decide) (by decide) false rfl 1 rfl false 0 rfl).mono ?_; rintro e w9 ⟨rfl, hg⟩
  have HG9 := hid (grown_trans HG8.out hg)
  clear hg HC8 HD8 HG8
  go_wp2
  go_ret
  exact ⟨rfl, grown_below HG9.out⟩
set_option maxHeartbeats 4000000 in
theorem order_011 (x : Cp) (W : World) (hl : Regs x.l) :
    Calls Try.prog 5 #[.agg (cpuC x), .bool false, .bool true, .bool true] W fun e w' => e = .returned (.bool true) ∧ Below W.heap.size W w' := by
  have Hz := zero_cpu
  have Hz33 := zero_dev
  have HL := hid hl
  have HC0 := hid (CpuAt.new W hl.len)
  have HG0 := hid (grown_alloc (grown_refl W none) (.cells (cpuC x) 26))
  clear hl
  go_enter Try.func5, Try.ntmps5
  go_upto_region 1 with (fail)
  have hlt0 := HC0.out.lt
  generalize W.alloc (.cells (cpuC x) 26) = W0 at HC0 HG0 hlt0 ⊢
  obtain ⟨b, hb⟩ : ∃ b, b = W.heap.size := ⟨_, rfl⟩
  have hbl : W.heap.size ≤ b := Nat.le_of_eq hb.symm
  rw [← hb] at HC0 hlt0 ⊢
  have Hlt := hid hlt0
  have Hbl := hid hbl
  clear hb hlt0 hbl
  go_wp2_with fail
  refine (first6_any _).mono ?_; rintro e w1 ⟨rfl, hg⟩
  have HG1 := hid hg; clear hg
  go_wp2_with fail
  have HD1 := hid (dev_zero (B := W0.heap.size) w1 HG1.out.size)
  have HG2 := hid (grown_alloc HG1.out (.cells zeroD 39))
  generalize w1.alloc (.cells zeroD 39) = w2 at HD1 HG2 ⊢
  generalize w1.heap.size = d at HD1 ⊢
  clear HG1
  refine (press_yes HD1.out (by decide) 0).mono ?_; rintro e w4 ⟨rfl, ht⟩
  have HD4 := hid ht.at_
  have HG4 := hid (turned_old HG2.out HD1.out ht)
  clear ht HD1 HG2
  go_upto_region 9 with (fail)
  have HC := hid (HC0.out.kept0 HG4.out)
  have kc := HC.out.ie
  have kf := HC.out.free 17
  have HC5 := hid (HC.out.sIe true)
  have HD5 := hid (dev_apart HD4.out Hlt.out 17 (.bool true))
  have HG5 := hid (grown_setN (grown_trans HG0.out HG4.out) Hbl.out 17 (.bool true))
  clear HD4 HG4 HC0 HC HG0
  go_upto_region 17 with (fail)
  clear kc kf
  generalize w4.setCell ⟨b, 17, none⟩ (.bool true) = w5 at HC5 HD5 HG5 ⊢
  go_wp2_with (first
    | (refine wpList_load_cpu rfl _ rfl rfl HC5.out ?_)
    | fail)
  refine (waits_any (c := ⟨x.l, x.pc, true, x.eie, x.epc, x.tv, x.ca, x.ad⟩) HD5.out HL.out.len 5 (by decide) (by decide) (by decide) (by decide) (by decide) (by decide) false rfl 1 rfl true 3 rfl).mono ?_; rintro e w6 ⟨rfl, hg⟩
  have HC6 := hid (HC5.out.kept0 hg)
  have HD6 := hid (HD5.out.kept0 hg)
  have HG6 := hid (grown_trans HG5.out hg)
  clear hg HC5 HD5 HG5
  go_wp2_with (first
    | (refine wpList_load_cpu rfl _ rfl rfl HC6.out ?_)
    | fail)
  refine (waits_any (c := ⟨x.l, x.pc, true, x.eie, x.epc, x.tv, x.ca, x.ad⟩) HD6.out HL.out.len 4 (by decide) (by decide) (by decide) (by decide) (by decide) (by decide) false rfl 1 rfl true 3 rfl).mono ?_; rintro e w7 ⟨rfl, hg⟩
  have HC7 := hid (HC6.out.kept0 hg)
  have HD7 := hid (HD6.out.kept0 hg)
  have HG7 := hid (grown_trans HG6.out hg)
  clear hg HC6 HD6 HG6
  have kc : _ = some (Value.bool true) := HC7.out.ie
  have kf := HC7.out.free 17
  have HC8 := hid (HC7.out.sIe false)
  have HD8 := hid (dev_apart HD7.out Hlt.out 17 (.bool false))
  have HG8 := hid (grown_setN HG7.out Hbl.out 17 (.bool false))
  clear HC7 HD7 HG7
  go_upto_region 20 with (fail)
  clear kc kf
  generalize w7.setCell ⟨b, 17, none⟩ (.bool false) = w8 at HC8 HD8 HG8 ⊢
  go_wp2_with (first
    | (refine wpList_load_cpu rfl _ rfl rfl HC8.out ?_)
    | fail)
  refine (waits_any (c := ⟨x.l, x.pc, false, x.eie, x.epc, x.tv, x.ca, x.ad⟩) HD8.out HL.out.len 5 (by decide) (by decide) (by decide) (by decide) (by decide) (by decide) false rfl 1 rfl true 0 rfl).mono ?_; rintro e w9 ⟨rfl, hg⟩
  have HG9 := hid (grown_trans HG8.out hg)
  clear hg HC8 HD8 HG8
  go_wp2
  go_ret
  exact ⟨rfl, grown_below HG9.out⟩
set_option maxHeartbeats 4000000 in
theorem order_100 (x : Cp) (W : World) (hl : Regs x.l) :
    Calls Try.prog 5 #[.agg (cpuC x), .bool true, .bool false, .bool false] W fun e w' => e = .returned (.bool true) ∧ Below W.heap.size W w' := by
  have Hz := zero_cpu
  have Hz33 := zero_dev
  have HL := hid hl
  have HC0 := hid (CpuAt.new W hl.len)
  have HG0 := hid (grown_alloc (grown_refl W none) (.cells (cpuC x) 26))
  clear hl
  go_enter Try.func5, Try.ntmps5
  go_upto_region 1 with (fail)
  have hlt0 := HC0.out.lt
  generalize W.alloc (.cells (cpuC x) 26) = W0 at HC0 HG0 hlt0 ⊢
  obtain ⟨b, hb⟩ : ∃ b, b = W.heap.size := ⟨_, rfl⟩
  have hbl : W.heap.size ≤ b := Nat.le_of_eq hb.symm
  rw [← hb] at HC0 hlt0 ⊢
  have Hlt := hid hlt0
  have Hbl := hid hbl
  clear hb hlt0 hbl
  go_wp2_with fail
  refine (first6_any _).mono ?_; rintro e w1 ⟨rfl, hg⟩
  have HG1 := hid hg; clear hg
  go_wp2_with fail
  have HD1 := hid (dev_zero (B := W0.heap.size) w1 HG1.out.size)
  have HG2 := hid (grown_alloc HG1.out (.cells zeroD 39))
  generalize w1.alloc (.cells zeroD 39) = w2 at HD1 HG2 ⊢
  generalize w1.heap.size = d at HD1 ⊢
  clear HG1
  refine (set_any HD1.out 0 5).mono ?_; rintro e w3 ⟨rfl, ht⟩
  have HD3 := hid ht.at_
  have HG3 := hid (turned_old HG2.out HD1.out ht)
  clear ht HD1 HG2
  go_upto_region 9 with (fail)
  have HC := hid (HC0.out.kept0 HG3.out)
  have kc := HC.out.ie
  have kf := HC.out.free 17
  have HC5 := hid (HC.out.sIe true)
  have HD5 := hid (dev_apart HD3.out Hlt.out 17 (.bool true))
  have HG5 := hid (grown_setN (grown_trans HG0.out HG3.out) Hbl.out 17 (.bool true))
  clear HD3 HG3 HC0 HC HG0
  go_upto_region 17 with (fail)
  clear kc kf
  generalize w3.setCell ⟨b, 17, none⟩ (.bool true) = w5 at HC5 HD5 HG5 ⊢
  go_wp2_with (first
    | (refine wpList_load_cpu rfl _ rfl rfl HC5.out ?_)
    | fail)
  refine (waits_any (c := ⟨x.l, x.pc, true, x.eie, x.epc, x.tv, x.ca, x.ad⟩) HD5.out HL.out.len 5 (by decide) (by decide) (by decide) (by decide) (by decide) (by decide) true rfl 0 rfl false 2 rfl).mono ?_; rintro e w6 ⟨rfl, hg⟩
  have HC6 := hid (HC5.out.kept0 hg)
  have HD6 := hid (HD5.out.kept0 hg)
  have HG6 := hid (grown_trans HG5.out hg)
  clear hg HC5 HD5 HG5
  go_wp2_with (first
    | (refine wpList_load_cpu rfl _ rfl rfl HC6.out ?_)
    | fail)
  refine (waits_any (c := ⟨x.l, x.pc, true, x.eie, x.epc, x.tv, x.ca, x.ad⟩) HD6.out HL.out.len 4 (by decide) (by decide) (by decide) (by decide) (by decide) (by decide) false rfl 0 rfl false 0 rfl).mono ?_; rintro e w7 ⟨rfl, hg⟩
  have HC7 := hid (HC6.out.kept0 hg)
  have HD7 := hid (HD6.out.kept0 hg)
  have HG7 := hid (grown_trans HG6.out hg)
  clear hg HC6 HD6 HG6
  have kc : _ = some (Value.bool true) := HC7.out.ie
  have kf := HC7.out.free 17
  have HC8 := hid (HC7.out.sIe false)
  have HD8 := hid (dev_apart HD7.out Hlt.out 17 (.bool false))
  have HG8 := hid (grown_setN HG7.out Hbl.out 17 (.bool false))
  clear HC7 HD7 HG7
  go_upto_region 20 with (fail)
  clear kc kf
  generalize w7.setCell ⟨b, 17, none⟩ (.bool false) = w8 at HC8 HD8 HG8 ⊢
  go_wp2_with (first
    | (refine wpList_load_cpu rfl _ rfl rfl HC8.out ?_)
    | fail)
  refine (waits_any (c := ⟨x.l, x.pc, false, x.eie, x.epc, x.tv, x.ca, x.ad⟩) HD8.out HL.out.len 5 (by decide) (by decide) (by decide) (by decide) (by decide) (by decide) true rfl 0 rfl false 0 rfl).mono ?_; rintro e w9 ⟨rfl, hg⟩
  have HG9 := hid (grown_trans HG8.out hg)
  clear hg HC8 HD8 HG8
  go_wp2
  go_ret
  exact ⟨rfl, grown_below HG9.out⟩
set_option maxHeartbeats 4000000 in
theorem order_101 (x : Cp) (W : World) (hl : Regs x.l) :
    Calls Try.prog 5 #[.agg (cpuC x), .bool true, .bool false, .bool true] W fun e w' => e = .returned (.bool true) ∧ Below W.heap.size W w' := by
  have Hz := zero_cpu
  have Hz33 := zero_dev
  have HL := hid hl
  have HC0 := hid (CpuAt.new W hl.len)
  have HG0 := hid (grown_alloc (grown_refl W none) (.cells (cpuC x) 26))
  clear hl
  go_enter Try.func5, Try.ntmps5
  go_upto_region 1 with (fail)
  have hlt0 := HC0.out.lt
  generalize W.alloc (.cells (cpuC x) 26) = W0 at HC0 HG0 hlt0 ⊢
  obtain ⟨b, hb⟩ : ∃ b, b = W.heap.size := ⟨_, rfl⟩
  have hbl : W.heap.size ≤ b := Nat.le_of_eq hb.symm
  rw [← hb] at HC0 hlt0 ⊢
  have Hlt := hid hlt0
  have Hbl := hid hbl
  clear hb hlt0 hbl
  go_wp2_with fail
  refine (first6_any _).mono ?_; rintro e w1 ⟨rfl, hg⟩
  have HG1 := hid hg; clear hg
  go_wp2_with fail
  have HD1 := hid (dev_zero (B := W0.heap.size) w1 HG1.out.size)
  have HG2 := hid (grown_alloc HG1.out (.cells zeroD 39))
  generalize w1.alloc (.cells zeroD 39) = w2 at HD1 HG2 ⊢
  generalize w1.heap.size = d at HD1 ⊢
  clear HG1
  refine (set_any HD1.out 0 5).mono ?_; rintro e w3 ⟨rfl, ht⟩
  have HD3 := hid ht.at_
  have HG3 := hid (turned_old HG2.out HD1.out ht)
  clear ht HD1 HG2
  go_upto_region 9 with (fail)
  have HC := hid (HC0.out.kept0 HG3.out)
  have kc := HC.out.ie
  have kf := HC.out.free 17
  have HC5 := hid (HC.out.sIe true)
  have HD5 := hid (dev_apart HD3.out Hlt.out 17 (.bool true))
  have HG5 := hid (grown_setN (grown_trans HG0.out HG3.out) Hbl.out 17 (.bool true))
  clear HD3 HG3 HC0 HC HG0
  go_upto_region 17 with (fail)
  clear kc kf
  generalize w3.setCell ⟨b, 17, none⟩ (.bool true) = w5 at HC5 HD5 HG5 ⊢
  go_wp2_with (first
    | (refine wpList_load_cpu rfl _ rfl rfl HC5.out ?_)
    | fail)
  refine (waits_any (c := ⟨x.l, x.pc, true, x.eie, x.epc, x.tv, x.ca, x.ad⟩) HD5.out HL.out.len 5 (by decide) (by decide) (by decide) (by decide) (by decide) (by decide) true rfl 0 rfl true 2 rfl).mono ?_; rintro e w6 ⟨rfl, hg⟩
  have HC6 := hid (HC5.out.kept0 hg)
  have HD6 := hid (HD5.out.kept0 hg)
  have HG6 := hid (grown_trans HG5.out hg)
  clear hg HC5 HD5 HG5
  go_wp2_with (first
    | (refine wpList_load_cpu rfl _ rfl rfl HC6.out ?_)
    | fail)
  refine (waits_any (c := ⟨x.l, x.pc, true, x.eie, x.epc, x.tv, x.ca, x.ad⟩) HD6.out HL.out.len 4 (by decide) (by decide) (by decide) (by decide) (by decide) (by decide) false rfl 0 rfl true 5 rfl).mono ?_; rintro e w7 ⟨rfl, hg⟩
  have HC7 := hid (HC6.out.kept0 hg)
  have HD7 := hid (HD6.out.kept0 hg)
  have HG7 := hid (grown_trans HG6.out hg)
  clear hg HC6 HD6 HG6
  have kc : _ = some (Value.bool true) := HC7.out.ie
  have kf := HC7.out.free 17
  have HC8 := hid (HC7.out.sIe false)
  have HD8 := hid (dev_apart HD7.out Hlt.out 17 (.bool false))
  have HG8 := hid (grown_setN HG7.out Hbl.out 17 (.bool false))
  clear HC7 HD7 HG7
  go_upto_region 20 with (fail)
  clear kc kf
  generalize w7.setCell ⟨b, 17, none⟩ (.bool false) = w8 at HC8 HD8 HG8 ⊢
  go_wp2_with (first
    | (refine wpList_load_cpu rfl _ rfl rfl HC8.out ?_)
    | fail)
  refine (waits_any (c := ⟨x.l, x.pc, false, x.eie, x.epc, x.tv, x.ca, x.ad⟩) HD8.out HL.out.len 5 (by decide) (by decide) (by decide) (by decide) (by decide) (by decide) true rfl 0 rfl true 0 rfl).mono ?_; rintro e w9 ⟨rfl, hg⟩
  have HG9 := hid (grown_trans HG8.out hg)
  clear hg HC8 HD8 HG8
  go_wp2
  go_ret
  exact ⟨rfl, grown_below HG9.out⟩
set_option maxHeartbeats 4000000 in
theorem order_110 (x : Cp) (W : World) (hl : Regs x.l) :
    Calls Try.prog 5 #[.agg (cpuC x), .bool true, .bool true, .bool false] W fun e w' => e = .returned (.bool true) ∧ Below W.heap.size W w' := by
  have Hz := zero_cpu
  have Hz33 := zero_dev
  have HL := hid hl
  have HC0 := hid (CpuAt.new W hl.len)
  have HG0 := hid (grown_alloc (grown_refl W none) (.cells (cpuC x) 26))
  clear hl
  go_enter Try.func5, Try.ntmps5
  go_upto_region 1 with (fail)
  have hlt0 := HC0.out.lt
  generalize W.alloc (.cells (cpuC x) 26) = W0 at HC0 HG0 hlt0 ⊢
  obtain ⟨b, hb⟩ : ∃ b, b = W.heap.size := ⟨_, rfl⟩
  have hbl : W.heap.size ≤ b := Nat.le_of_eq hb.symm
  rw [← hb] at HC0 hlt0 ⊢
  have Hlt := hid hlt0
  have Hbl := hid hbl
  clear hb hlt0 hbl
  go_wp2_with fail
  refine (first6_any _).mono ?_; rintro e w1 ⟨rfl, hg⟩
  have HG1 := hid hg; clear hg
  go_wp2_with fail
  have HD1 := hid (dev_zero (B := W0.heap.size) w1 HG1.out.size)
  have HG2 := hid (grown_alloc HG1.out (.cells zeroD 39))
  generalize w1.alloc (.cells zeroD 39) = w2 at HD1 HG2 ⊢
  generalize w1.heap.size = d at HD1 ⊢
  clear HG1
  refine (set_any HD1.out 0 5).mono ?_; rintro e w3 ⟨rfl, ht⟩
  have HD3 := hid ht.at_
  have HG3 := hid (turned_old HG2.out HD1.out ht)
  clear ht HD1 HG2
  go_wp2_with fail
  refine (press_yes HD3.out (by decide) 0).mono ?_; rintro e w4 ⟨rfl, ht⟩
  have HD4 := hid ht.at_
  have HG4 := hid (turned_old HG3.out HD3.out ht)
  clear ht HD3 HG3
  go_upto_region 9 with (fail)
  have HC := hid (HC0.out.kept0 HG4.out)
  have kc := HC.out.ie
  have kf := HC.out.free 17
  have HC5 := hid (HC.out.sIe true)
  have HD5 := hid (dev_apart HD4.out Hlt.out 17 (.bool true))
  have HG5 := hid (grown_setN (grown_trans HG0.out HG4.out) Hbl.out 17 (.bool true))
  clear HD4 HG4 HC0 HC HG0
  go_upto_region 17 with (fail)
  clear kc kf
  generalize w4.setCell ⟨b, 17, none⟩ (.bool true) = w5 at HC5 HD5 HG5 ⊢
  go_wp2_with (first
    | (refine wpList_load_cpu rfl _ rfl rfl HC5.out ?_)
    | fail)
  refine (waits_any (c := ⟨x.l, x.pc, true, x.eie, x.epc, x.tv, x.ca, x.ad⟩) HD5.out HL.out.len 5 (by decide) (by decide) (by decide) (by decide) (by decide) (by decide) true rfl 1 rfl false 2 rfl).mono ?_; rintro e w6 ⟨rfl, hg⟩
  have HC6 := hid (HC5.out.kept0 hg)
  have HD6 := hid (HD5.out.kept0 hg)
  have HG6 := hid (grown_trans HG5.out hg)
  clear hg HC5 HD5 HG5
  go_wp2_with (first
    | (refine wpList_load_cpu rfl _ rfl rfl HC6.out ?_)
    | fail)
  refine (waits_any (c := ⟨x.l, x.pc, true, x.eie, x.epc, x.tv, x.ca, x.ad⟩) HD6.out HL.out.len 4 (by decide) (by decide) (by decide) (by decide) (by decide) (by decide) false rfl 1 rfl false 3 rfl).mono ?_; rintro e w7 ⟨rfl, hg⟩
  have HC7 := hid (HC6.out.kept0 hg)
  have HD7 := hid (HD6.out.kept0 hg)
  have HG7 := hid (grown_trans HG6.out hg)
  clear hg HC6 HD6 HG6
  have kc : _ = some (Value.bool true) := HC7.out.ie
  have kf := HC7.out.free 17
  have HC8 := hid (HC7.out.sIe false)
  have HD8 := hid (dev_apart HD7.out Hlt.out 17 (.bool false))
  have HG8 := hid (grown_setN HG7.out Hbl.out 17 (.bool false))
  clear HC7 HD7 HG7
  go_upto_region 20 with (fail)
  clear kc kf
  generalize w7.setCell ⟨b, 17, none⟩ (.bool false) = w8 at HC8 HD8 HG8 ⊢
  go_wp2_with (first
    | (refine wpList_load_cpu rfl _ rfl rfl HC8.out ?_)
    | fail)
  refine (waits_any (c := ⟨x.l, x.pc, false, x.eie, x.epc, x.tv, x.ca, x.ad⟩) HD8.out HL.out.len 5 (by decide) (by decide) (by decide) (by decide) (by decide) (by decide) true rfl 1 rfl false 0 rfl).mono ?_; rintro e w9 ⟨rfl, hg⟩
  have HG9 := hid (grown_trans HG8.out hg)
  clear hg HC8 HD8 HG8
  go_wp2
  go_ret
  exact ⟨rfl, grown_below HG9.out⟩
set_option maxHeartbeats 4000000 in
theorem order_111 (x : Cp) (W : World) (hl : Regs x.l) :
    Calls Try.prog 5 #[.agg (cpuC x), .bool true, .bool true, .bool true] W fun e w' => e = .returned (.bool true) ∧ Below W.heap.size W w' := by
  have Hz := zero_cpu
  have Hz33 := zero_dev
  have HL := hid hl
  have HC0 := hid (CpuAt.new W hl.len)
  have HG0 := hid (grown_alloc (grown_refl W none) (.cells (cpuC x) 26))
  clear hl
  go_enter Try.func5, Try.ntmps5
  go_upto_region 1 with (fail)
  have hlt0 := HC0.out.lt
  generalize W.alloc (.cells (cpuC x) 26) = W0 at HC0 HG0 hlt0 ⊢
  obtain ⟨b, hb⟩ : ∃ b, b = W.heap.size := ⟨_, rfl⟩
  have hbl : W.heap.size ≤ b := Nat.le_of_eq hb.symm
  rw [← hb] at HC0 hlt0 ⊢
  have Hlt := hid hlt0
  have Hbl := hid hbl
  clear hb hlt0 hbl
  go_wp2_with fail
  refine (first6_any _).mono ?_; rintro e w1 ⟨rfl, hg⟩
  have HG1 := hid hg; clear hg
  go_wp2_with fail
  have HD1 := hid (dev_zero (B := W0.heap.size) w1 HG1.out.size)
  have HG2 := hid (grown_alloc HG1.out (.cells zeroD 39))
  generalize w1.alloc (.cells zeroD 39) = w2 at HD1 HG2 ⊢
  generalize w1.heap.size = d at HD1 ⊢
  clear HG1
  refine (set_any HD1.out 0 5).mono ?_; rintro e w3 ⟨rfl, ht⟩
  have HD3 := hid ht.at_
  have HG3 := hid (turned_old HG2.out HD1.out ht)
  clear ht HD1 HG2
  go_wp2_with fail
  refine (press_yes HD3.out (by decide) 0).mono ?_; rintro e w4 ⟨rfl, ht⟩
  have HD4 := hid ht.at_
  have HG4 := hid (turned_old HG3.out HD3.out ht)
  clear ht HD3 HG3
  go_upto_region 9 with (fail)
  have HC := hid (HC0.out.kept0 HG4.out)
  have kc := HC.out.ie
  have kf := HC.out.free 17
  have HC5 := hid (HC.out.sIe true)
  have HD5 := hid (dev_apart HD4.out Hlt.out 17 (.bool true))
  have HG5 := hid (grown_setN (grown_trans HG0.out HG4.out) Hbl.out 17 (.bool true))
  clear HD4 HG4 HC0 HC HG0
  go_upto_region 17 with (fail)
  clear kc kf
  generalize w4.setCell ⟨b, 17, none⟩ (.bool true) = w5 at HC5 HD5 HG5 ⊢
  go_wp2_with (first
    | (refine wpList_load_cpu rfl _ rfl rfl HC5.out ?_)
    | fail)
  refine (waits_any (c := ⟨x.l, x.pc, true, x.eie, x.epc, x.tv, x.ca, x.ad⟩) HD5.out HL.out.len 5 (by decide) (by decide) (by decide) (by decide) (by decide) (by decide) true rfl 1 rfl true 2 rfl).mono ?_; rintro e w6 ⟨rfl, hg⟩
  have HC6 := hid (HC5.out.kept0 hg)
  have HD6 := hid (HD5.out.kept0 hg)
  have HG6 := hid (grown_trans HG5.out hg)
  clear hg HC5 HD5 HG5
  go_wp2_with (first
    | (refine wpList_load_cpu rfl _ rfl rfl HC6.out ?_)
    | fail)
  refine (waits_any (c := ⟨x.l, x.pc, true, x.eie, x.epc, x.tv, x.ca, x.ad⟩) HD6.out HL.out.len 4 (by decide) (by decide) (by decide) (by decide) (by decide) (by decide) false rfl 1 rfl true 3 rfl).mono ?_; rintro e w7 ⟨rfl, hg⟩
  have HC7 := hid (HC6.out.kept0 hg)
  have HD7 := hid (HD6.out.kept0 hg)
  have HG7 := hid (grown_trans HG6.out hg)
  clear hg HC6 HD6 HG6
  have kc : _ = some (Value.bool true) := HC7.out.ie
  have kf := HC7.out.free 17
  have HC8 := hid (HC7.out.sIe false)
  have HD8 := hid (dev_apart HD7.out Hlt.out 17 (.bool false))
  have HG8 := hid (grown_setN HG7.out Hbl.out 17 (.bool false))
  clear HC7 HD7 HG7
  go_upto_region 20 with (fail)
  clear kc kf
  generalize w7.setCell ⟨b, 17, none⟩ (.bool false) = w8 at HC8 HD8 HG8 ⊢
  go_wp2_with (first
    | (refine wpList_load_cpu rfl _ rfl rfl HC8.out ?_)
    | fail)
  refine (waits_any (c := ⟨x.l, x.pc, false, x.eie, x.epc, x.tv, x.ca, x.ad⟩) HD8.out HL.out.len 5 (by decide) (by decide) (by decide) (by decide) (by decide) (by decide) true rfl 1 rfl true 0 rfl).mono ?_; rintro e w9 ⟨rfl, hg⟩
  have HG9 := hid (grown_trans HG8.out hg)
  clear hg HC8 HD8 HG8
  go_wp2
  go_ret
  exact ⟨rfl, grown_below HG9.out⟩
theorem order_walk (x : Cp) (timer key port : Bool) (W : World) (hx : CpOk x) :
    Calls Try.prog 5 #[.agg (cpuC x), .bool timer, .bool key, .bool port] W fun e w' => e = .returned (.bool true) ∧ Below W.heap.size W w' := by
  cases timer <;> cases key <;> cases port
  · exact order_000 x W hx.regs
  · exact order_001 x W hx.regs
  · exact order_010 x W hx.regs
  · exact order_011 x W hx.regs
  · exact order_100 x W hx.regs
  · exact order_101 x W hx.regs
  · exact order_110 x W hx.regs
  · exact order_111 x W hx.regs
end Go.Proofs.Ytajminajdcpgnaa
