/- The walk of the law CoreWords. (Made by a program.) -/
import Derived.Test.YtaecbekobpgkoaaDoorZCWords0
import Derived.Test.YtaecbekobpgkoaaDoorZCSays
import Derived.Test.YtaecbekobpgkoaaDoorZGRef
namespace Go.Proofs.YtaecbekobpgkoaaDoor
open Go.RowKit
set_option maxRecDepth 100000 in
set_option maxHeartbeats 8000000 in
theorem words_3 (addr v c A C AT : Int) (W : World) (d0 : 0 ≤ addr) (v0 : 0 ≤ v) (v1 : v < 4294967296) (hA : addr % 200 = A) (hC : c % 256 = C) (hT : A + C = AT) (h96 : 96 ≤ AT) :
    Calls Tryd.prog 8 #[.int .u32 addr, .int .u32 v, .int .i64 c] W fun e w' => e = .returned (.bool true) ∧ Below W.heap.size W w' := by
  have hCb : bits .and .i64 c 255 = C := (i64_and255 c).trans hC
  have a0 : 0 ≤ A := by omega
  have a1 : A < 200 := by omega
  have c0 : 0 ≤ C := by omega
  have c1 : C ≤ 255 := by omega
  have hT2 : (A + C) % 4294967296 = AT := by omega
  have HI1 := hid (ins_st c0 c1)
  have HI2 := hid (ins_ld c0 c1)
  obtain ⟨ws, hws⟩ : ∃ x, wrdI 13 4 5 C = x := ⟨_, rfl⟩
  obtain ⟨wl, hwl⟩ : ∃ x, wrdI 12 6 5 C = x := ⟨_, rfl⟩
  have HWs := hid hws
  have HWl := hid hwl
  have HUl : Hid (U32s [ws, wl]) := hid (by
    have h1 := wrd_bd HI1.out
    have h2 := wrd_bd HI2.out
    rw [hws] at h1
    rw [hwl] at h2
    intro x hx
    simp only [List.mem_cons, List.not_mem_nil, or_false] at hx
    rcases hx with rfl | rfl <;> omega)
  obtain ⟨ys, hys⟩ : ∃ ys, mapW [ws, wl] true true = ys := ⟨_, rfl⟩
  have HY := hid hys
  have HYl : Hid (ys.length = 384) := hid (by rw [← hys]; exact mapW_len _ true true)
  have Hu : Hid (U32s ys) := hid (by rw [← hys]; exact mapW_u32 HUl.out true true)
  have HRg := hid (wreg_regs v0 v1 a0 (show A < 4294967296 by omega))
  have HO1 : Hid (onceP ys ((24 : Nat) : Int) 0 ⟨wreg v A, 0, false, false, 0, 0, 0, 0⟩ true = ⟨⟨wreg v A, 0, false, false, 0, 0, 0, 0⟩, ⟨1, AT, 13, 4, 5, C, 0, 1⟩, ys⟩) := hid (by rw [← hys]; exact words_far hws.symm c0 c1 hT2 h96 (by omega))
  clear hys hws hwl hC
  go_enter Tryd.func8, Tryd.ntmps8
  go_wp2_with fail
  refine (first7_any _).mono ?_; rintro e v1 ⟨rfl, hg⟩
  have HG0 := hid hg
  clear hg
  go_wp2_with fail
  refine (rword_yes 13 4 5 C 0 _ HI1.out).mono ?_; rw [HWs.out]; rintro e v2 ⟨rfl, hb⟩
  replace HG0 := hid (grown_trans HG0.out (below_is_grown hb))
  clear hb
  go_wp2_with fail
  refine (rword_yes 12 6 5 C 0 _ HI2.out).mono ?_; rw [HWl.out]; rintro e v3 ⟨rfl, hb⟩
  replace HG0 := hid (grown_trans HG0.out (below_is_grown hb))
  clear hb
  have Hz := zero_cpu
  have Hz2 := zero_stop
  have HS0 : Hid (SlAt (v3.alloc (.cells #[.int .u32 ws, .int .u32 wl] 22)) .u32 (.slice (some ⟨v3.heap.size, 0, none⟩) 2 2) [ws, wl]) := hid (SlAt.whole (k := .u32) (c := 2) (xs := [ws, wl]) (t := 22) (heap_alloc_last v3 _))
  replace HG0 := hid (grown_alloc HG0.out (.cells #[.int .u32 ws, .int .u32 wl] 22))
  go_wp2_with fail
  refine (mapped_any _ [ws, wl] true true _ HS0.out (by show 2 ≤ maxLen; decide)).mono ?_; rintro e v5 ⟨g, rfl, hg0, hblk, hg⟩
  rw [HY.out] at hblk
  have HS1 : Hid (SlAt v5 .u32 (.slice (some ⟨g, 0, none⟩) 384 384) ys) := hid (by
    have := SlAt.whole (k := .u32) (c := 384) (xs := ys) hblk
    rwa [HYl.out] at this)
  replace HG0 := hid (grown_trans HG0.out hg)
  clear hblk hg hg0 HS0
  go_wp2_with fail
  refine (memory7_any _ ys _ HS1.out (Nat.le_of_eq HYl.out)).mono ?_; rintro e w4 ⟨m, b, m', b', rfl, hm, hb, hb', hM, hR, hg⟩
  rw [layX_full HYl.out] at hM
  have HM := hid hM
  have HBW := hid (Nat.le_trans HG0.out.size hb)
  replace HG0 := hid (grown_trans HG0.out hg)
  clear hM hR hm hb hb' hg HS1
  have HP : Hid (CpuAt (w4.alloc (.cells (cpuC zeroP) 46)) w4.heap.size ⟨zeroP.l, 0, false, false, 0, 0, 0, 0⟩) := hid (CpuAt.new w4 (x := zeroP) rfl)
  have hg : w4.grownBy (w4.alloc (.cells (cpuC zeroP) 46)) none := World.grownBy_alloc _ _ _
  have HPb : Hid (W.heap.size ≤ w4.heap.size ∧ w4.heap.size ≠ b ∧ w4.heap.size ≠ m) := hid ⟨HG0.out.size, by have := HM.out.blt; omega, by have := HM.out.mlt; omega⟩
  replace HM := hid (HM.out.kept0 hg)
  replace HG0 := hid (grown_trans HG0.out hg)
  clear hg
  go_upto_region 12 with (first
    | (refine wpList_build_cpu0 rfl rfl ?_)
    | (refine wpList_store_cpu_last (y := zeroP) (z := zeroP) rfl _ _ rfl rfl rfl rfl rfl rfl ?_)
    | fail)
  generalize w4.alloc (.cells (cpuC zeroP) 46) = w5 at HP HM HG0 ⊢
  generalize w4.heap.size = P at HP HPb ⊢
  have r4 : w5.cell? ⟨P, 4, none⟩ = some (.int .u32 0) := HP.out.regc (k := 4) rfl
  have r5 : w5.cell? ⟨P, 5, none⟩ = some (.int .u32 0) := HP.out.regc (k := 5) rfl
  have kf := fun j => HP.out.free j
  have HP2 : Hid (CpuAt ((w5.setCell ⟨P, 4, none⟩ (.int .u32 v)).setCell ⟨P, 5, none⟩ (.int .u32 A)) P ⟨wreg v A, 0, false, false, 0, 0, 0, 0⟩) := hid ((HP.out.sReg 4 (by decide) v).sReg 5 (by decide) A)
  replace HM := hid ((HM.out.kept (grown_setCell (grown_refl w5 (some P)) 4 (.int .u32 v)) (by simpa using HPb.out.2.2.symm) (by simpa using HPb.out.2.1.symm)).kept (grown_setCell (grown_refl _ (some P)) 5 (.int .u32 A)) (by simpa using HPb.out.2.2.symm) (by simpa using HPb.out.2.1.symm))
  replace HG0 := hid (grown_setN (grown_setN HG0.out HPb.out.1 4 (.int .u32 v)) HPb.out.1 5 (.int .u32 A))
  go_upto_region 14 with (fail)
  clear r4 r5 kf HP
  generalize (w5.setCell ⟨P, 4, none⟩ (.int .u32 v)).setCell ⟨P, 5, none⟩ (.int .u32 A) = w6 at HP2 HM HG0 ⊢
  go_wp2_with (first
    | (refine wpList_load_cpu rfl _ rfl rfl HP2.out ?_)
    | fail)
  refine (once_of HM.out Hu.out HRg.out (by decide) (by decide) 0 true _ 1 AT 13 4 5 C 0 1 ys HO1.out).mono ?_; rintro e w9 ⟨rfl, hM, hg⟩
  replace HP2 := hid (HP2.out.kept hg (by simpa using HPb.out.2.1))
  replace HG0 := hid (grown_new' (grown_trans (grown_none HG0.out) hg) (fun k hk => by obtain rfl := Option.some.inj hk; exact HBW.out))
  clear hM hg HM
  have HN := hid (new_cs w9 35 (y := ⟨wreg v A, 0, false, false, 0, 0, 0, 0⟩) HRg.out.len (spC 1 AT 13 4 5 C 0 1))
  go_upto_region 16 with (first
    | (refine wpList_store_cpu rfl _ _ rfl rfl rfl ((CpuAt.new (x := zeroP) w9 rfl).alloc _) HRg.out.len ?_)
    | (refine wpList_store_rw rfl 35 _ _ rfl rfl rfl ((RwAt.new2 _ _ _ _).rowOther _ _ (by omega)) (by kernel_rfl) rfl (sp_one _ _ _ _ _ _ _ _) ?_)
    | fail)
  change Code.wp _ _ _ _ (csW w9 35 ⟨wreg v A, 0, false, false, 0, 0, 0, 0⟩ (spC 1 AT 13 4 5 C 0 1))
  have HC1 := hid HN.out.1
  have HS1 := hid HN.out.2.1
  replace HP2 := hid (HP2.out.kept0 HN.out.2.2)
  replace HG0 := hid (grown_trans HG0.out HN.out.2.2)
  clear HN
  generalize csW w9 35 ⟨wreg v A, 0, false, false, 0, 0, 0, 0⟩ (spC 1 AT 13 4 5 C 0 1) = w9b at HC1 HS1 HP2 HG0 ⊢
  obtain ⟨S1, hB2⟩ : ∃ B, B = w9.heap.size + 1 := ⟨_, rfl⟩
  rw [← hB2] at HS1 ⊢
  clear hB2
  generalize w9.heap.size = C1 at HC1 ⊢
  have h2 : ¬ AT < 2 := by omega
  have e0 : w9b.cell? ⟨S1, 0, none⟩ = some (.int .i64 1) := HS1.out.cell 0 rfl
  have e1 : w9b.cell? ⟨S1, 1, none⟩ = some (.int .u32 AT) := HS1.out.cell 1 rfl
  have e2 : w9b.cell? ⟨S1, 2, none⟩ = some (.int .i64 13) := HS1.out.cell 2 rfl
  have e7 : w9b.cell? ⟨S1, 7, none⟩ = some (.int .u32 1) := HS1.out.cell 7 rfl
  go_wp2_with (first
    | (refine wpList_load_cpu_wanted (by kernel_rfl) _ rfl rfl HC1.out ?_)
    | (refine wpList_load_cpu_wanted (by kernel_rfl) _ rfl rfl HP2.out ?_)
    | fail)
  refine (same_cpu HRg.out _).mono ?_; rintro e wa ⟨rfl, hg⟩
  have f2 : wa.cell? ⟨S1, 2, none⟩ = some (.int .i64 13) := (HS1.out.kept0 hg).cell 2 rfl
  have f7 : wa.cell? ⟨S1, 7, none⟩ = some (.int .u32 1) := (HS1.out.kept0 hg).cell 7 rfl
  replace HG0 := hid (grown_trans HG0.out hg)
  clear hg e0 e1 e2 e7
  go_wp2
  go_ret
  exact ⟨rfl, grown_below HG0.out⟩
set_option maxRecDepth 100000 in
set_option maxHeartbeats 8000000 in
theorem words_1 (addr v c A C AT : Int) (W : World) (d0 : 0 ≤ addr) (v0 : 0 ≤ v) (v1 : v < 4294967296) (hA : addr % 200 = A) (hC : c % 256 = C) (hT : A + C = AT) (h96 : AT < 96) (h2 : AT < 2) :
    Calls Tryd.prog 8 #[.int .u32 addr, .int .u32 v, .int .i64 c] W fun e w' => e = .returned (.bool true) ∧ Below W.heap.size W w' := by
  have hCb : bits .and .i64 c 255 = C := (i64_and255 c).trans hC
  have a0 : 0 ≤ A := by omega
  have a1 : A < 200 := by omega
  have c0 : 0 ≤ C := by omega
  have c1 : C ≤ 255 := by omega
  have hT2 : (A + C) % 4294967296 = AT := by omega
  have HI1 := hid (ins_st c0 c1)
  have HI2 := hid (ins_ld c0 c1)
  obtain ⟨ws, hws⟩ : ∃ x, wrdI 13 4 5 C = x := ⟨_, rfl⟩
  obtain ⟨wl, hwl⟩ : ∃ x, wrdI 12 6 5 C = x := ⟨_, rfl⟩
  have HWs := hid hws
  have HWl := hid hwl
  have HUl : Hid (U32s [ws, wl]) := hid (by
    have h1 := wrd_bd HI1.out
    have h2 := wrd_bd HI2.out
    rw [hws] at h1
    rw [hwl] at h2
    intro x hx
    simp only [List.mem_cons, List.not_mem_nil, or_false] at hx
    rcases hx with rfl | rfl <;> omega)
  obtain ⟨ys, hys⟩ : ∃ ys, mapW [ws, wl] true true = ys := ⟨_, rfl⟩
  have HY := hid hys
  have HYl : Hid (ys.length = 384) := hid (by rw [← hys]; exact mapW_len _ true true)
  have Hu : Hid (U32s ys) := hid (by rw [← hys]; exact mapW_u32 HUl.out true true)
  have HRg := hid (wreg_regs v0 v1 a0 (show A < 4294967296 by omega))
  have HO1 : Hid (onceP ys ((24 : Nat) : Int) 0 ⟨wreg v A, 0, false, false, 0, 0, 0, 0⟩ true = ⟨⟨wreg v A, 1, false, false, 0, 0, 0, 0⟩, ⟨0, 0, 13, 4, 5, C, 0, 1⟩, ys.set (32 + AT.toNat) v⟩) := hid (by rw [← hys]; exact words_near hws.symm c0 c1 hT2 (by omega) h96)
  clear hys hws hwl hC
  go_enter Tryd.func8, Tryd.ntmps8
  go_wp2_with fail
  refine (first7_any _).mono ?_; rintro e v1 ⟨rfl, hg⟩
  have HG0 := hid hg
  clear hg
  go_wp2_with fail
  refine (rword_yes 13 4 5 C 0 _ HI1.out).mono ?_; rw [HWs.out]; rintro e v2 ⟨rfl, hb⟩
  replace HG0 := hid (grown_trans HG0.out (below_is_grown hb))
  clear hb
  go_wp2_with fail
  refine (rword_yes 12 6 5 C 0 _ HI2.out).mono ?_; rw [HWl.out]; rintro e v3 ⟨rfl, hb⟩
  replace HG0 := hid (grown_trans HG0.out (below_is_grown hb))
  clear hb
  have Hz := zero_cpu
  have Hz2 := zero_stop
  have HS0 : Hid (SlAt (v3.alloc (.cells #[.int .u32 ws, .int .u32 wl] 22)) .u32 (.slice (some ⟨v3.heap.size, 0, none⟩) 2 2) [ws, wl]) := hid (SlAt.whole (k := .u32) (c := 2) (xs := [ws, wl]) (t := 22) (heap_alloc_last v3 _))
  replace HG0 := hid (grown_alloc HG0.out (.cells #[.int .u32 ws, .int .u32 wl] 22))
  go_wp2_with fail
  refine (mapped_any _ [ws, wl] true true _ HS0.out (by show 2 ≤ maxLen; decide)).mono ?_; rintro e v5 ⟨g, rfl, hg0, hblk, hg⟩
  rw [HY.out] at hblk
  have HS1 : Hid (SlAt v5 .u32 (.slice (some ⟨g, 0, none⟩) 384 384) ys) := hid (by
    have := SlAt.whole (k := .u32) (c := 384) (xs := ys) hblk
    rwa [HYl.out] at this)
  replace HG0 := hid (grown_trans HG0.out hg)
  clear hblk hg hg0 HS0
  go_wp2_with fail
  refine (memory7_any _ ys _ HS1.out (Nat.le_of_eq HYl.out)).mono ?_; rintro e w4 ⟨m, b, m', b', rfl, hm, hb, hb', hM, hR, hg⟩
  rw [layX_full HYl.out] at hM
  have HM := hid hM
  have HBW := hid (Nat.le_trans HG0.out.size hb)
  replace HG0 := hid (grown_trans HG0.out hg)
  clear hM hR hm hb hb' hg HS1
  have HP : Hid (CpuAt (w4.alloc (.cells (cpuC zeroP) 46)) w4.heap.size ⟨zeroP.l, 0, false, false, 0, 0, 0, 0⟩) := hid (CpuAt.new w4 (x := zeroP) rfl)
  have hg : w4.grownBy (w4.alloc (.cells (cpuC zeroP) 46)) none := World.grownBy_alloc _ _ _
  have HPb : Hid (W.heap.size ≤ w4.heap.size ∧ w4.heap.size ≠ b ∧ w4.heap.size ≠ m) := hid ⟨HG0.out.size, by have := HM.out.blt; omega, by have := HM.out.mlt; omega⟩
  replace HM := hid (HM.out.kept0 hg)
  replace HG0 := hid (grown_trans HG0.out hg)
  clear hg
  go_upto_region 12 with (first
    | (refine wpList_build_cpu0 rfl rfl ?_)
    | (refine wpList_store_cpu_last (y := zeroP) (z := zeroP) rfl _ _ rfl rfl rfl rfl rfl rfl ?_)
    | fail)
  generalize w4.alloc (.cells (cpuC zeroP) 46) = w5 at HP HM HG0 ⊢
  generalize w4.heap.size = P at HP HPb ⊢
  have r4 : w5.cell? ⟨P, 4, none⟩ = some (.int .u32 0) := HP.out.regc (k := 4) rfl
  have r5 : w5.cell? ⟨P, 5, none⟩ = some (.int .u32 0) := HP.out.regc (k := 5) rfl
  have kf := fun j => HP.out.free j
  have HP2 : Hid (CpuAt ((w5.setCell ⟨P, 4, none⟩ (.int .u32 v)).setCell ⟨P, 5, none⟩ (.int .u32 A)) P ⟨wreg v A, 0, false, false, 0, 0, 0, 0⟩) := hid ((HP.out.sReg 4 (by decide) v).sReg 5 (by decide) A)
  replace HM := hid ((HM.out.kept (grown_setCell (grown_refl w5 (some P)) 4 (.int .u32 v)) (by simpa using HPb.out.2.2.symm) (by simpa using HPb.out.2.1.symm)).kept (grown_setCell (grown_refl _ (some P)) 5 (.int .u32 A)) (by simpa using HPb.out.2.2.symm) (by simpa using HPb.out.2.1.symm))
  replace HG0 := hid (grown_setN (grown_setN HG0.out HPb.out.1 4 (.int .u32 v)) HPb.out.1 5 (.int .u32 A))
  go_upto_region 14 with (fail)
  clear r4 r5 kf HP
  generalize (w5.setCell ⟨P, 4, none⟩ (.int .u32 v)).setCell ⟨P, 5, none⟩ (.int .u32 A) = w6 at HP2 HM HG0 ⊢
  go_wp2_with (first
    | (refine wpList_load_cpu rfl _ rfl rfl HP2.out ?_)
    | fail)
  refine (once_of HM.out Hu.out HRg.out (by decide) (by decide) 0 true _ 0 0 13 4 5 C 0 1 (ys.set (32 + AT.toNat) v) HO1.out).mono ?_; rintro e w9 ⟨rfl, hM, hg⟩
  replace HM := hid hM
  replace HG0 := hid (grown_new' (grown_trans (grown_none HG0.out) hg) (fun k hk => by obtain rfl := Option.some.inj hk; exact HBW.out))
  clear hM hg HP2
  have HN := hid (new_cs w9 35 (y := ⟨wreg v A, 1, false, false, 0, 0, 0, 0⟩) HRg.out.len (spC 0 0 13 4 5 C 0 1))
  go_upto_region 16 with (first
    | (refine wpList_store_cpu rfl _ _ rfl rfl rfl ((CpuAt.new (x := zeroP) w9 rfl).alloc _) HRg.out.len ?_)
    | (refine wpList_store_rw rfl 35 _ _ rfl rfl rfl ((RwAt.new2 _ _ _ _).rowOther _ _ (by omega)) (by kernel_rfl) rfl (sp_one _ _ _ _ _ _ _ _) ?_)
    | fail)
  change Code.wp _ _ _ _ (csW w9 35 ⟨wreg v A, 1, false, false, 0, 0, 0, 0⟩ (spC 0 0 13 4 5 C 0 1))
  have HC1 := hid HN.out.1
  have HS1 := hid HN.out.2.1
  replace HM := hid (HM.out.kept0 HN.out.2.2)
  replace HG0 := hid (grown_trans HG0.out HN.out.2.2)
  clear HN
  generalize csW w9 35 ⟨wreg v A, 1, false, false, 0, 0, 0, 0⟩ (spC 0 0 13 4 5 C 0 1) = w9b at HC1 HS1 HM HG0 ⊢
  obtain ⟨S1, hB2⟩ : ∃ B, B = w9.heap.size + 1 := ⟨_, rfl⟩
  rw [← hB2] at HS1 ⊢
  clear hB2
  generalize w9.heap.size = C1 at HC1 ⊢
  have e0 : w9b.cell? ⟨S1, 0, none⟩ = some (.int .i64 0) := HS1.out.cell 0 rfl
  go_wp2
  go_ret
  exact ⟨rfl, grown_below HG0.out⟩
set_option maxRecDepth 100000 in
set_option maxHeartbeats 8000000 in
theorem words_2 (addr v c A C AT : Int) (W : World) (d0 : 0 ≤ addr) (v0 : 0 ≤ v) (v1 : v < 4294967296) (hA : addr % 200 = A) (hC : c % 256 = C) (hT : A + C = AT) (h96 : AT < 96) (h2 : 2 ≤ AT) :
    Calls Tryd.prog 8 #[.int .u32 addr, .int .u32 v, .int .i64 c] W fun e w' => e = .returned (.bool true) ∧ Below W.heap.size W w' := by
  have hCb : bits .and .i64 c 255 = C := (i64_and255 c).trans hC
  have a0 : 0 ≤ A := by omega
  have a1 : A < 200 := by omega
  have c0 : 0 ≤ C := by omega
  have c1 : C ≤ 255 := by omega
  have hT2 : (A + C) % 4294967296 = AT := by omega
  have HI1 := hid (ins_st c0 c1)
  have HI2 := hid (ins_ld c0 c1)
  obtain ⟨ws, hws⟩ : ∃ x, wrdI 13 4 5 C = x := ⟨_, rfl⟩
  obtain ⟨wl, hwl⟩ : ∃ x, wrdI 12 6 5 C = x := ⟨_, rfl⟩
  have HWs := hid hws
  have HWl := hid hwl
  have HUl : Hid (U32s [ws, wl]) := hid (by
    have h1 := wrd_bd HI1.out
    have h2 := wrd_bd HI2.out
    rw [hws] at h1
    rw [hwl] at h2
    intro x hx
    simp only [List.mem_cons, List.not_mem_nil, or_false] at hx
    rcases hx with rfl | rfl <;> omega)
  obtain ⟨ys, hys⟩ : ∃ ys, mapW [ws, wl] true true = ys := ⟨_, rfl⟩
  have HY := hid hys
  have HYl : Hid (ys.length = 384) := hid (by rw [← hys]; exact mapW_len _ true true)
  have Hu : Hid (U32s ys) := hid (by rw [← hys]; exact mapW_u32 HUl.out true true)
  have HRg := hid (wreg_regs v0 v1 a0 (show A < 4294967296 by omega))
  have HO1 : Hid (onceP ys ((24 : Nat) : Int) 0 ⟨wreg v A, 0, false, false, 0, 0, 0, 0⟩ true = ⟨⟨wreg v A, 1, false, false, 0, 0, 0, 0⟩, ⟨0, 0, 13, 4, 5, C, 0, 1⟩, ys.set (32 + AT.toNat) v⟩) := hid (by rw [← hys]; exact words_near hws.symm c0 c1 hT2 (by omega) h96)
  obtain ⟨k, hk⟩ := Int.eq_ofNat_of_zero_le (show 0 ≤ AT by omega)
  obtain ⟨l2, hl2, hl3, hl4⟩ := set_map (v := v) (ws := ws) (wl := wl) (k := k) (by omega) (by omega)
  obtain ⟨zs, hzs⟩ : ∃ zs, ys.set (32 + AT.toNat) v = zs := ⟨_, rfl⟩
  have hzm : mapW l2 true true = zs := by rw [← hzs, ← hys, ← hl2, hk, Int.toNat_natCast]
  have HO2 : Hid (onceP zs ((24 : Nat) : Int) 0 ⟨wreg v A, 1, false, false, 0, 0, 0, 0⟩ true = ⟨⟨(wreg v A).set 6 v, 2, false, false, 0, 0, 0, 0⟩, ⟨0, 0, 12, 6, 5, C, 0, 1⟩, zs⟩) := hid (by
    rw [← hzm]; exact words_back (hl3.trans hwl.symm) c0 c1 hT2 (by omega) h96 (by rw [hk, Int.toNat_natCast]; exact hl4))
  have Huz : Hid (U32s zs) := hid (by rw [← hzs]; exact Hu.out.set _ v0 v1)
  rw [hzs] at HO1
  clear hl2 hl3 hl4 hzm hzs hk
  clear hys hws hwl hC
  have h3 : ¬ AT < 2 := by omega
  have h4 : ¬ AT ≥ 96 := by omega
  go_enter Tryd.func8, Tryd.ntmps8
  go_wp2_with fail
  refine (first7_any _).mono ?_; rintro e v1 ⟨rfl, hg⟩
  have HG0 := hid hg
  clear hg
  go_wp2_with fail
  refine (rword_yes 13 4 5 C 0 _ HI1.out).mono ?_; rw [HWs.out]; rintro e v2 ⟨rfl, hb⟩
  replace HG0 := hid (grown_trans HG0.out (below_is_grown hb))
  clear hb
  go_wp2_with fail
  refine (rword_yes 12 6 5 C 0 _ HI2.out).mono ?_; rw [HWl.out]; rintro e v3 ⟨rfl, hb⟩
  replace HG0 := hid (grown_trans HG0.out (below_is_grown hb))
  clear hb
  have Hz := zero_cpu
  have Hz2 := zero_stop
  have HS0 : Hid (SlAt (v3.alloc (.cells #[.int .u32 ws, .int .u32 wl] 22)) .u32 (.slice (some ⟨v3.heap.size, 0, none⟩) 2 2) [ws, wl]) := hid (SlAt.whole (k := .u32) (c := 2) (xs := [ws, wl]) (t := 22) (heap_alloc_last v3 _))
  replace HG0 := hid (grown_alloc HG0.out (.cells #[.int .u32 ws, .int .u32 wl] 22))
  go_wp2_with fail
  refine (mapped_any _ [ws, wl] true true _ HS0.out (by show 2 ≤ maxLen; decide)).mono ?_; rintro e v5 ⟨g, rfl, hg0, hblk, hg⟩
  rw [HY.out] at hblk
  have HS1 : Hid (SlAt v5 .u32 (.slice (some ⟨g, 0, none⟩) 384 384) ys) := hid (by
    have := SlAt.whole (k := .u32) (c := 384) (xs := ys) hblk
    rwa [HYl.out] at this)
  replace HG0 := hid (grown_trans HG0.out hg)
  clear hblk hg hg0 HS0
  go_wp2_with fail
  refine (memory7_any _ ys _ HS1.out (Nat.le_of_eq HYl.out)).mono ?_; rintro e w4 ⟨m, b, m', b', rfl, hm, hb, hb', hM, hR, hg⟩
  rw [layX_full HYl.out] at hM
  have HM := hid hM
  have HBW := hid (Nat.le_trans HG0.out.size hb)
  replace HG0 := hid (grown_trans HG0.out hg)
  clear hM hR hm hb hb' hg HS1
  have HP : Hid (CpuAt (w4.alloc (.cells (cpuC zeroP) 46)) w4.heap.size ⟨zeroP.l, 0, false, false, 0, 0, 0, 0⟩) := hid (CpuAt.new w4 (x := zeroP) rfl)
  have hg : w4.grownBy (w4.alloc (.cells (cpuC zeroP) 46)) none := World.grownBy_alloc _ _ _
  have HPb : Hid (W.heap.size ≤ w4.heap.size ∧ w4.heap.size ≠ b ∧ w4.heap.size ≠ m) := hid ⟨HG0.out.size, by have := HM.out.blt; omega, by have := HM.out.mlt; omega⟩
  replace HM := hid (HM.out.kept0 hg)
  replace HG0 := hid (grown_trans HG0.out hg)
  clear hg
  go_upto_region 12 with (first
    | (refine wpList_build_cpu0 rfl rfl ?_)
    | (refine wpList_store_cpu_last (y := zeroP) (z := zeroP) rfl _ _ rfl rfl rfl rfl rfl rfl ?_)
    | fail)
  generalize w4.alloc (.cells (cpuC zeroP) 46) = w5 at HP HM HG0 ⊢
  generalize w4.heap.size = P at HP HPb ⊢
  have r4 : w5.cell? ⟨P, 4, none⟩ = some (.int .u32 0) := HP.out.regc (k := 4) rfl
  have r5 : w5.cell? ⟨P, 5, none⟩ = some (.int .u32 0) := HP.out.regc (k := 5) rfl
  have kf := fun j => HP.out.free j
  have HP2 : Hid (CpuAt ((w5.setCell ⟨P, 4, none⟩ (.int .u32 v)).setCell ⟨P, 5, none⟩ (.int .u32 A)) P ⟨wreg v A, 0, false, false, 0, 0, 0, 0⟩) := hid ((HP.out.sReg 4 (by decide) v).sReg 5 (by decide) A)
  replace HM := hid ((HM.out.kept (grown_setCell (grown_refl w5 (some P)) 4 (.int .u32 v)) (by simpa using HPb.out.2.2.symm) (by simpa using HPb.out.2.1.symm)).kept (grown_setCell (grown_refl _ (some P)) 5 (.int .u32 A)) (by simpa using HPb.out.2.2.symm) (by simpa using HPb.out.2.1.symm))
  replace HG0 := hid (grown_setN (grown_setN HG0.out HPb.out.1 4 (.int .u32 v)) HPb.out.1 5 (.int .u32 A))
  go_upto_region 14 with (fail)
  clear r4 r5 kf HP
  generalize (w5.setCell ⟨P, 4, none⟩ (.int .u32 v)).setCell ⟨P, 5, none⟩ (.int .u32 A) = w6 at HP2 HM HG0 ⊢
  go_wp2_with (first
    | (refine wpList_load_cpu rfl _ rfl rfl HP2.out ?_)
    | fail)
  refine (once_of HM.out Hu.out HRg.out (by decide) (by decide) 0 true _ 0 0 13 4 5 C 0 1 zs HO1.out).mono ?_; rintro e w9 ⟨rfl, hM, hg⟩
  replace HM := hid hM
  replace HG0 := hid (grown_new' (grown_trans (grown_none HG0.out) hg) (fun k hk => by obtain rfl := Option.some.inj hk; exact HBW.out))
  clear hM hg HP2
  have HN := hid (new_cs w9 35 (y := ⟨wreg v A, 1, false, false, 0, 0, 0, 0⟩) HRg.out.len (spC 0 0 13 4 5 C 0 1))
  go_upto_region 16 with (first
    | (refine wpList_store_cpu rfl _ _ rfl rfl rfl ((CpuAt.new (x := zeroP) w9 rfl).alloc _) HRg.out.len ?_)
    | (refine wpList_store_rw rfl 35 _ _ rfl rfl rfl ((RwAt.new2 _ _ _ _).rowOther _ _ (by omega)) (by kernel_rfl) rfl (sp_one _ _ _ _ _ _ _ _) ?_)
    | fail)
  change Code.wp _ _ _ _ (csW w9 35 ⟨wreg v A, 1, false, false, 0, 0, 0, 0⟩ (spC 0 0 13 4 5 C 0 1))
  have HC1 := hid HN.out.1
  have HS1 := hid HN.out.2.1
  replace HM := hid (HM.out.kept0 HN.out.2.2)
  replace HG0 := hid (grown_trans HG0.out HN.out.2.2)
  clear HN
  generalize csW w9 35 ⟨wreg v A, 1, false, false, 0, 0, 0, 0⟩ (spC 0 0 13 4 5 C 0 1) = w9b at HC1 HS1 HM HG0 ⊢
  obtain ⟨S1, hB2⟩ : ∃ B, B = w9.heap.size + 1 := ⟨_, rfl⟩
  rw [← hB2] at HS1 ⊢
  clear hB2
  generalize w9.heap.size = C1 at HC1 ⊢
  have e0 : w9b.cell? ⟨S1, 0, none⟩ = some (.int .i64 0) := HS1.out.cell 0 rfl
  go_wp2_with (first
    | (refine wpList_load_cpu rfl _ rfl rfl HC1.out ?_)
    | fail)
  refine (once_of HM.out Huz.out HRg.out (by decide) (by decide) 0 true _ 0 0 12 6 5 C 0 1 zs HO2.out).mono ?_; rintro e wa ⟨rfl, hM, hg⟩
  have HSb : Hid (S1 ≠ b) := hid (by
    rintro rfl
    obtain ⟨cur, hb, _⟩ := HM.out.hb
    have := HS1.out.blk.symm.trans hb
    injection this with this
    injection this with _ e
    exact absurd e (by decide))
  replace HS1 := hid (HS1.out.kept hg (by simpa using HSb.out))
  replace HG0 := hid (grown_new' (grown_trans (grown_none HG0.out) hg) (fun k hk => by obtain rfl := Option.some.inj hk; exact HBW.out))
  have HR6 : Hid (((wreg v A).set 6 v).length = 16) := hid (by rw [List.length_set]; exact HRg.out.len)
  clear hM hg HM HC1 e0
  have HN := hid (new_cs wa 35 (y := ⟨(wreg v A).set 6 v, 2, false, false, 0, 0, 0, 0⟩) HR6.out (spC 0 0 12 6 5 C 0 1))
  go_upto_region 21 with (first
    | (refine wpList_store_cpu rfl _ _ rfl rfl rfl ((CpuAt.new (x := zeroP) wa rfl).alloc _) HR6.out ?_)
    | (refine wpList_store_rw rfl 35 _ _ rfl rfl rfl ((RwAt.new2 _ _ _ _).rowOther _ _ (by omega)) (by kernel_rfl) rfl (sp_one _ _ _ _ _ _ _ _) ?_)
    | fail)
  change Code.wp _ _ _ _ (csW wa 35 ⟨(wreg v A).set 6 v, 2, false, false, 0, 0, 0, 0⟩ (spC 0 0 12 6 5 C 0 1))
  have HC2 := hid HN.out.1
  have HS2 := hid HN.out.2.1
  replace HS1 := hid (HS1.out.kept0 HN.out.2.2)
  replace HG0 := hid (grown_trans HG0.out HN.out.2.2)
  clear HN
  generalize csW wa 35 ⟨(wreg v A).set 6 v, 2, false, false, 0, 0, 0, 0⟩ (spC 0 0 12 6 5 C 0 1) = wab at HC2 HS2 HS1 HG0 ⊢
  obtain ⟨S2, hB2⟩ : ∃ B, B = wa.heap.size + 1 := ⟨_, rfl⟩
  rw [← hB2] at HS2 ⊢
  clear hB2
  generalize wa.heap.size = C2 at HC2 ⊢
  have e0 : wab.cell? ⟨S1, 0, none⟩ = some (.int .i64 0) := HS1.out.cell 0 rfl
  have f0 : wab.cell? ⟨S2, 0, none⟩ = some (.int .i64 0) := HS2.out.cell 0 rfl
  have kp : wab.cell? ⟨C2, 16, none⟩ = some (.int .u32 2) := HC2.out.pc
  have k6 : wab.cell? ⟨C2, 6, none⟩ = some (.int .u32 v) := HC2.out.regc (k := 6) (List.getElem?_set_self (by rw [HRg.out.len]; decide))
  go_wp2
  go_ret
  exact ⟨rfl, grown_below HG0.out⟩
theorem cwords_walk (addr v c : Int) (W : World) (d0 : 0 ≤ addr) (_ : addr ≤ 4294967295) (v0 : 0 ≤ v) (v1 : v ≤ 4294967295) (_ : -9223372036854775808 ≤ c) (_ : c ≤ 9223372036854775807) :
    Calls Tryd.prog 8 #[.int .u32 addr, .int .u32 v, .int .i64 c] W fun e w' => e = .returned (.bool true) ∧ Below W.heap.size W w' := by
  by_cases h96 : 96 ≤ addr % 200 + c % 256
  · exact words_3 addr v c _ _ _ W d0 v0 (by omega) rfl rfl rfl h96
  · by_cases h2 : addr % 200 + c % 256 < 2
    · exact words_1 addr v c _ _ _ W d0 v0 (by omega) rfl rfl rfl (by omega) h2
    · exact words_2 addr v c _ _ _ W d0 v0 (by omega) rfl rfl rfl (by omega) (by omega)
end Go.Proofs.YtaecbekobpgkoaaDoor
