/- core.target, core.jump: contracts. (Made by a program.) -/
import Derived.Test.YtkkbhifplbleiaaGreatDoorZCore3
import Derived.Test.YtkkbhifplbleiaaGreatDoorZAlu5
import Derived.Test.YtkkbhifplbleiaaGreatDoorZIsa2
import Derived.BigQuiet
namespace Go.Proofs.YtkkbhifplbleiaaGreatDoor
open Go.RowKit
theorem regs16_size {l : List Int} (h : l.length = 16) : (Tryz.prog.info? 37).map (·.size) = some (l.map (Value.int .u32)).length := by rw [regs_info, List.length_map, h]
theorem disp_wrap (pc c : Int) : IntKind.u32.wrap (pc + IntKind.u32.wrap ((c + 128) % 256 - 128)) = (pc + ((c + 128) % 256 - 128)) % 4294967296 := by
  rw [IntKind.wrap_u32, IntKind.wrap_u32]; omega
section
variable {l : List Int} {pc : Int} {ie eie : Bool} {epc tv cc cd ca ad op a b c im ln : Int}
set_option maxRecDepth 100000 in
set_option maxHeartbeats 4000000 in
theorem target_16 (hl : Regs l) (W : World) :
    Calls Tryz.prog 144 #[.agg (cpuC ⟨l, pc, ie, eie, epc, tv, cc, cd⟩), .agg (inC 16 a b c im)] W fun e w' => e = .returned (.int .u32 ((pc + ((c + 128) % 256 - 128)) % 4294967296)) ∧ W.grownBy w' none := by
  obtain ⟨b1, b2, e1, e2⟩ : ∃ b1 b2, b1 = W.heap.size ∧ b2 = b1 + 1 := ⟨_, _, rfl, rfl⟩
  have HC : Hid (CpuAt ((W.alloc (.cells (cpuC ⟨l, pc, ie, eie, epc, tv, cc, cd⟩) 39)).alloc (.cells (inC 16 a b c im) 112)) b1 ⟨l, pc, ie, eie, epc, tv, cc, cd⟩) := hid (by rw [e1]; exact (CpuAt.new _ hl.len).alloc _)
  have HI : Hid (RwAt ((W.alloc (.cells (cpuC ⟨l, pc, ie, eie, epc, tv, cc, cd⟩) 39)).alloc (.cells (inC 16 a b c im) 112)) b2 112 (inC 16 a b c im)) := hid (by rw [e2, e1]; exact RwAt.new2 _ _ _ _)
  have HG : Hid (W.grownBy ((W.alloc (.cells (cpuC ⟨l, pc, ie, eie, epc, tv, cc, cd⟩) 39)).alloc (.cells (inC 16 a b c im) 112)) none) := hid (grown_alloc (grown_alloc (grown_refl _ _) _) _)
  have HL := hid hl
  clear hl
  go_enter Tryz.func144, Tryz.ntmps144
  go_upto_region 1 with (fail)
  generalize ((W.alloc (.cells (cpuC ⟨l, pc, ie, eie, epc, tv, cc, cd⟩) 39)).alloc (.cells (inC 16 a b c im) 112)) = w3 at HC HI HG ⊢
  rw [← e1, ← e2]
  clear e1 e2
  have k0 : w3.cell? ⟨b2, 0, none⟩ = some (.int .i64 16) := HI.out.cell 0 rfl
  have k3 : w3.cell? ⟨b2, 3, none⟩ = some (.int .i64 c) := HI.out.cell 3 rfl
  have kp := HC.out.pc
  have hd := disp_wrap pc c
  go_wp2
  go_quiet ((first | (go_at_call 154; exact Calls.quiet_of_same ((disp_any _ _).mono fun _ _ ⟨he, hw⟩ => ⟨he, hw.symm⟩))))
  go_wp2
  go_ret
  refine ⟨?_, grown_drewN HG.out _⟩
  show Ending.returned (.int .u32 ((pc + ((c + 128) % 256 - 128) % 4294967296) % 4294967296)) = _
  exact ret_i (by omega)
set_option maxRecDepth 100000 in
set_option maxHeartbeats 4000000 in
theorem target_17 (hl : Regs l) (W : World) :
    Calls Tryz.prog 144 #[.agg (cpuC ⟨l, pc, ie, eie, epc, tv, cc, cd⟩), .agg (inC 17 a b c im)] W fun e w' => e = .returned (.int .u32 ((pc + ((c + 128) % 256 - 128)) % 4294967296)) ∧ W.grownBy w' none := by
  obtain ⟨b1, b2, e1, e2⟩ : ∃ b1 b2, b1 = W.heap.size ∧ b2 = b1 + 1 := ⟨_, _, rfl, rfl⟩
  have HC : Hid (CpuAt ((W.alloc (.cells (cpuC ⟨l, pc, ie, eie, epc, tv, cc, cd⟩) 39)).alloc (.cells (inC 17 a b c im) 112)) b1 ⟨l, pc, ie, eie, epc, tv, cc, cd⟩) := hid (by rw [e1]; exact (CpuAt.new _ hl.len).alloc _)
  have HI : Hid (RwAt ((W.alloc (.cells (cpuC ⟨l, pc, ie, eie, epc, tv, cc, cd⟩) 39)).alloc (.cells (inC 17 a b c im) 112)) b2 112 (inC 17 a b c im)) := hid (by rw [e2, e1]; exact RwAt.new2 _ _ _ _)
  have HG : Hid (W.grownBy ((W.alloc (.cells (cpuC ⟨l, pc, ie, eie, epc, tv, cc, cd⟩) 39)).alloc (.cells (inC 17 a b c im) 112)) none) := hid (grown_alloc (grown_alloc (grown_refl _ _) _) _)
  have HL := hid hl
  clear hl
  go_enter Tryz.func144, Tryz.ntmps144
  go_upto_region 1 with (fail)
  generalize ((W.alloc (.cells (cpuC ⟨l, pc, ie, eie, epc, tv, cc, cd⟩) 39)).alloc (.cells (inC 17 a b c im) 112)) = w3 at HC HI HG ⊢
  rw [← e1, ← e2]
  clear e1 e2
  have k0 : w3.cell? ⟨b2, 0, none⟩ = some (.int .i64 17) := HI.out.cell 0 rfl
  have k3 : w3.cell? ⟨b2, 3, none⟩ = some (.int .i64 c) := HI.out.cell 3 rfl
  have kp := HC.out.pc
  have hd := disp_wrap pc c
  go_wp2
  go_quiet ((first | (go_at_call 154; exact Calls.quiet_of_same ((disp_any _ _).mono fun _ _ ⟨he, hw⟩ => ⟨he, hw.symm⟩))))
  go_wp2
  go_ret
  refine ⟨?_, grown_drewN HG.out _⟩
  show Ending.returned (.int .u32 ((pc + ((c + 128) % 256 - 128) % 4294967296) % 4294967296)) = _
  exact ret_i (by omega)
set_option maxRecDepth 100000 in
set_option maxHeartbeats 4000000 in
theorem target_18 (hl : Regs l) (W : World) :
    Calls Tryz.prog 144 #[.agg (cpuC ⟨l, pc, ie, eie, epc, tv, cc, cd⟩), .agg (inC 18 a b c im)] W fun e w' => e = .returned (.int .u32 ((pc + ((c + 128) % 256 - 128)) % 4294967296)) ∧ W.grownBy w' none := by
  obtain ⟨b1, b2, e1, e2⟩ : ∃ b1 b2, b1 = W.heap.size ∧ b2 = b1 + 1 := ⟨_, _, rfl, rfl⟩
  have HC : Hid (CpuAt ((W.alloc (.cells (cpuC ⟨l, pc, ie, eie, epc, tv, cc, cd⟩) 39)).alloc (.cells (inC 18 a b c im) 112)) b1 ⟨l, pc, ie, eie, epc, tv, cc, cd⟩) := hid (by rw [e1]; exact (CpuAt.new _ hl.len).alloc _)
  have HI : Hid (RwAt ((W.alloc (.cells (cpuC ⟨l, pc, ie, eie, epc, tv, cc, cd⟩) 39)).alloc (.cells (inC 18 a b c im) 112)) b2 112 (inC 18 a b c im)) := hid (by rw [e2, e1]; exact RwAt.new2 _ _ _ _)
  have HG : Hid (W.grownBy ((W.alloc (.cells (cpuC ⟨l, pc, ie, eie, epc, tv, cc, cd⟩) 39)).alloc (.cells (inC 18 a b c im) 112)) none) := hid (grown_alloc (grown_alloc (grown_refl _ _) _) _)
  have HL := hid hl
  clear hl
  go_enter Tryz.func144, Tryz.ntmps144
  go_upto_region 1 with (fail)
  generalize ((W.alloc (.cells (cpuC ⟨l, pc, ie, eie, epc, tv, cc, cd⟩) 39)).alloc (.cells (inC 18 a b c im) 112)) = w3 at HC HI HG ⊢
  rw [← e1, ← e2]
  clear e1 e2
  have k0 : w3.cell? ⟨b2, 0, none⟩ = some (.int .i64 18) := HI.out.cell 0 rfl
  have k3 : w3.cell? ⟨b2, 3, none⟩ = some (.int .i64 c) := HI.out.cell 3 rfl
  have kp := HC.out.pc
  have hd := disp_wrap pc c
  go_wp2
  go_quiet ((first | (go_at_call 154; exact Calls.quiet_of_same ((disp_any _ _).mono fun _ _ ⟨he, hw⟩ => ⟨he, hw.symm⟩))))
  go_wp2
  go_ret
  refine ⟨?_, grown_drewN HG.out _⟩
  show Ending.returned (.int .u32 ((pc + ((c + 128) % 256 - 128) % 4294967296) % 4294967296)) = _
  exact ret_i (by omega)
set_option maxRecDepth 100000 in
set_option maxHeartbeats 4000000 in
theorem target_23 (hl : Regs l) (k : Nat) (hk : k < 16) (W : World) :
    Calls Tryz.prog 144 #[.agg (cpuC ⟨l, pc, ie, eie, epc, tv, cc, cd⟩), .agg (inC 23 (k : Int) b c im)] W fun e w' => e = .returned (.int .u32 (regI l (k : Int))) ∧ W.grownBy w' none := by
  obtain ⟨b1, b2, e1, e2⟩ : ∃ b1 b2, b1 = W.heap.size ∧ b2 = b1 + 1 := ⟨_, _, rfl, rfl⟩
  have HC : Hid (CpuAt ((W.alloc (.cells (cpuC ⟨l, pc, ie, eie, epc, tv, cc, cd⟩) 39)).alloc (.cells (inC 23 (k : Int) b c im) 112)) b1 ⟨l, pc, ie, eie, epc, tv, cc, cd⟩) := hid (by rw [e1]; exact (CpuAt.new _ hl.len).alloc _)
  have HI : Hid (RwAt ((W.alloc (.cells (cpuC ⟨l, pc, ie, eie, epc, tv, cc, cd⟩) 39)).alloc (.cells (inC 23 (k : Int) b c im) 112)) b2 112 (inC 23 (k : Int) b c im)) := hid (by rw [e2, e1]; exact RwAt.new2 _ _ _ _)
  have HG : Hid (W.grownBy ((W.alloc (.cells (cpuC ⟨l, pc, ie, eie, epc, tv, cc, cd⟩) 39)).alloc (.cells (inC 23 (k : Int) b c im) 112)) none) := hid (grown_alloc (grown_alloc (grown_refl _ _) _) _)
  have HL := hid hl
  have hy := hl.get (k := (k : Int)) (by omega) (by omega)
  rw [Int.toNat_natCast] at hy
  have Hy := hid hy
  clear hl hy
  have hk0 : (0 : Int) ≤ (k : Int) := by omega
  have hk1 : (k : Int) < 16 := by omega
  go_enter Tryz.func144, Tryz.ntmps144
  go_upto_region 1 with (fail)
  generalize ((W.alloc (.cells (cpuC ⟨l, pc, ie, eie, epc, tv, cc, cd⟩) 39)).alloc (.cells (inC 23 (k : Int) b c im) 112)) = w3 at HC HI HG ⊢
  rw [← e1, ← e2]
  clear e1 e2
  have k0 : w3.cell? ⟨b2, 0, none⟩ = some (.int .i64 23) := HI.out.cell 0 rfl
  have k1 : w3.cell? ⟨b2, 1, none⟩ = some (.int .i64 (k : Int)) := HI.out.cell 1 rfl
  have kr : w3.cell? ⟨b1, k, none⟩ = some (.int .u32 (regI l (k : Int))) := HC.out.regc Hy.out
  go_wp2
  go_ret
  exact ⟨rfl, HG.out⟩
set_option maxRecDepth 100000 in
set_option maxHeartbeats 4000000 in
theorem target_imm (hl : Regs l) (h1 : (op == 16) = false) (h2 : (op == 17) = false) (h3 : (op == 18) = false) (h4 : (op == 23) = false) (W : World) :
    Calls Tryz.prog 144 #[.agg (cpuC ⟨l, pc, ie, eie, epc, tv, cc, cd⟩), .agg (inC op a b c im)] W fun e w' => e = .returned (.int .u32 (im)) ∧ W.grownBy w' none := by
  obtain ⟨b1, b2, e1, e2⟩ : ∃ b1 b2, b1 = W.heap.size ∧ b2 = b1 + 1 := ⟨_, _, rfl, rfl⟩
  have HC : Hid (CpuAt ((W.alloc (.cells (cpuC ⟨l, pc, ie, eie, epc, tv, cc, cd⟩) 39)).alloc (.cells (inC op a b c im) 112)) b1 ⟨l, pc, ie, eie, epc, tv, cc, cd⟩) := hid (by rw [e1]; exact (CpuAt.new _ hl.len).alloc _)
  have HI : Hid (RwAt ((W.alloc (.cells (cpuC ⟨l, pc, ie, eie, epc, tv, cc, cd⟩) 39)).alloc (.cells (inC op a b c im) 112)) b2 112 (inC op a b c im)) := hid (by rw [e2, e1]; exact RwAt.new2 _ _ _ _)
  have HG : Hid (W.grownBy ((W.alloc (.cells (cpuC ⟨l, pc, ie, eie, epc, tv, cc, cd⟩) 39)).alloc (.cells (inC op a b c im) 112)) none) := hid (grown_alloc (grown_alloc (grown_refl _ _) _) _)
  have HL := hid hl
  clear hl
  go_enter Tryz.func144, Tryz.ntmps144
  go_upto_region 1 with (fail)
  generalize ((W.alloc (.cells (cpuC ⟨l, pc, ie, eie, epc, tv, cc, cd⟩) 39)).alloc (.cells (inC op a b c im) 112)) = w3 at HC HI HG ⊢
  rw [← e1, ← e2]
  clear e1 e2
  have k0 : w3.cell? ⟨b2, 0, none⟩ = some (.int .i64 op) := HI.out.cell 0 rfl
  have k4 : w3.cell? ⟨b2, 4, none⟩ = some (.int .u32 im) := HI.out.cell 4 rfl
  go_wp2
  go_ret
  exact ⟨rfl, HG.out⟩
/-- what is asked of a jump's register -/
def jrB (op a : Int) : Prop := op = 23 → 0 ≤ a ∧ a < 16
theorem target_of (hl : Regs l) (hr : jrB op a) (V : Int) (hV : targV ⟨l, pc, ie, eie, epc, tv, cc, cd⟩ op a c im = V) (W : World) :
    Calls Tryz.prog 144 #[.agg (cpuC ⟨l, pc, ie, eie, epc, tv, cc, cd⟩), .agg (inC op a b c im)] W fun e w' => e = .returned (.int .u32 V) ∧ W.grownBy w' none := by
  subst hV
  unfold targV
  by_cases h1 : op = 16
  · subst h1; exact target_16 hl W
  · by_cases h2 : op = 17
    · subst h2; exact target_17 hl W
    · by_cases h3 : op = 18
      · subst h3; exact target_18 hl W
      · rw [if_neg (by omega)]
        by_cases h4 : op = 23
        · subst h4
          rw [if_pos rfl]
          obtain ⟨a0, a1⟩ := hr rfl
          obtain ⟨k, rfl⟩ := Int.eq_ofNat_of_zero_le a0
          exact target_23 hl k (by omega) W
        · rw [if_neg h4]
          exact target_imm hl (by simpa using h1) (by simpa using h2) (by simpa using h3) (by simpa using h4) W
set_option maxRecDepth 100000 in
set_option maxHeartbeats 4000000 in
theorem jump_not (hl : Regs l) (ht : takenB op a b c im l = false) (ha : askB op a b c im = true) (W : World) :
    Calls Tryz.prog 126 #[.agg (cpuC ⟨l, pc, ie, eie, epc, tv, cc, cd⟩), .agg (spC 0 0 op a b c im ln)] W fun e w' => e = .returned (.agg (cpuC (⟨l, (pc + ln) % 4294967296, ie, eie, epc, tv, cc, cd⟩))) ∧ W.grownBy w' none := by
  have Hz := zero_cpu
  obtain ⟨b1, b2, b3, e1, e2, e3⟩ : ∃ b1 b2 b3, b1 = W.heap.size ∧ b2 = b1 + 1 ∧ b3 = b2 + 1 := ⟨_, _, _, rfl, rfl, rfl⟩
  have N12 : Hid (b1 ≠ b2) := hid (by omega)
  have N13 : Hid (b1 ≠ b3) := hid (by omega)
  have N23 : Hid (b2 ≠ b3) := hid (by omega)
  have B1 : Hid (W.heap.size ≤ b1) := hid (by omega)
  have B3 : Hid (W.heap.size ≤ b3) := hid (by omega)
  have HC : Hid (CpuAt (((W.alloc (.cells (cpuC ⟨l, pc, ie, eie, epc, tv, cc, cd⟩) 39)).alloc (.cells (spC 0 0 op a b c im ln) 138)).alloc (.cells (cpuC zeroP) 39)) b1 ⟨l, pc, ie, eie, epc, tv, cc, cd⟩) := hid (by rw [e1]; exact ((CpuAt.new _ hl.len).alloc _).alloc _)
  have HS : Hid (RwAt (((W.alloc (.cells (cpuC ⟨l, pc, ie, eie, epc, tv, cc, cd⟩) 39)).alloc (.cells (spC 0 0 op a b c im ln) 138)).alloc (.cells (cpuC zeroP) 39)) b2 138 (spC 0 0 op a b c im ln)) := hid (by rw [e2, e1]; exact (RwAt.new2 _ _ _ _).alloc _)
  have HR : Hid (CpuAt (((W.alloc (.cells (cpuC ⟨l, pc, ie, eie, epc, tv, cc, cd⟩) 39)).alloc (.cells (spC 0 0 op a b c im ln) 138)).alloc (.cells (cpuC zeroP) 39)) b3 zeroP) := hid (by
    rw [e3, e2, e1]
    have := CpuAt.new2 (x := zeroP) (W.alloc (.cells (cpuC ⟨l, pc, ie, eie, epc, tv, cc, cd⟩) 39)) (.cells (spC 0 0 op a b c im ln) 138) rfl
    simp only [World.size_alloc] at this
    exact this)
  have HG : Hid (W.grownBy (((W.alloc (.cells (cpuC ⟨l, pc, ie, eie, epc, tv, cc, cd⟩) 39)).alloc (.cells (spC 0 0 op a b c im ln) 138)).alloc (.cells (cpuC zeroP) 39)) none) := hid (grown_alloc (grown_alloc (grown_alloc (grown_refl _ _) _) _) _)
  have HL := hid hl
  have HT := hid ht
  have HA := hid ha
  clear hl ht ha
  go_enter Tryz.func126, Tryz.ntmps126
  go_upto_region 1 with (fail)
  generalize (((W.alloc (.cells (cpuC ⟨l, pc, ie, eie, epc, tv, cc, cd⟩) 39)).alloc (.cells (spC 0 0 op a b c im ln) 138)).alloc (.cells (cpuC zeroP) 39)) = w3 at HC HS HR HG ⊢
  rw [← e1, ← e2, ← e3]
  clear e1 e2 e3
  have kp := HC.out.pc
  have k7 : w3.cell? ⟨b2, 7, none⟩ = some (.int .u32 ln) := HS.out.cell 7 rfl
  go_wp2_with (first
    | (refine wpList_load_mid rfl 112 _ rfl b2 2 rfl _ _ HS.out.ins Tryz.underlying112 rfl (by kernel_rfl) ?_)
    | (refine wpList_load_mid rfl 37 _ rfl b1 0 rfl _ _ HC.out.regs Tryz.underlying37 rfl (regs16_size HL.out.len) ?_)
    | fail)
  refine (taken_of op a b c im HL.out false true HT.out HA.out _).mono ?_; rintro e w4 ⟨rfl, hg⟩
  clear kp k7
  replace HC := hid (HC.out.kept0 hg)
  replace HS := hid (HS.out.kept0 hg)
  replace HR := hid (HR.out.kept0 hg)
  replace HG := hid (grown_trans HG.out hg)
  clear hg
  have kp := HC.out.pc
  have kf := fun j => HC.out.free j
  have HC2 := hid (HC.out.sPc ((pc + ln) % 4294967296))
  replace HR := hid (HR.out.other b1 16 (.int .u32 ((pc + ln) % 4294967296)) N13.out.symm)
  replace HG := hid (grown_setN HG.out B1.out 16 (.int .u32 ((pc + ln) % 4294967296)))
  go_upto_region 5 with (fail)
  clear kp kf HC
  generalize (w4.setCell ⟨b1, 16, none⟩ (.int .u32 ((pc + ln) % 4294967296))) = w5 at HC2 HR HG ⊢
  have E1 := hid (HR.out.row (y := ⟨l, (pc + ln) % 4294967296, ie, eie, epc, tv, cc, cd⟩) HC2.out.len)
  have EG := hid (grown_setRow HG.out B3.out (cpuC ⟨l, (pc + ln) % 4294967296, ie, eie, epc, tv, cc, cd⟩))
  go_wp2_with (first
    | (refine wpList_load_cpu rfl _ rfl rfl HC2.out ?_)
    | (refine wpList_store_cpu rfl _ _ rfl rfl rfl HR.out HC2.out.len ?_)
    | fail)
  refine bodyPost_ret (results_cell_row Tryz.results126 _ _ b3 _ _ _ _ rfl E1.out.blk Tryz.underlying39 rfl (cpu_size_info E1.out.len)) rfl ?_
  exact ⟨rfl, EG.out⟩
set_option maxRecDepth 100000 in
set_option maxHeartbeats 4000000 in
theorem jump_taken (hl : Regs l) (ht : takenB op a b c im l = true) (ha : askB op a b c im = true) (hj : jrB op a) (V : Int) (hV : targV ⟨l, pc, ie, eie, epc, tv, cc, cd⟩ op a c im = V) (h22 : (op == 22) = false) (W : World) :
    Calls Tryz.prog 126 #[.agg (cpuC ⟨l, pc, ie, eie, epc, tv, cc, cd⟩), .agg (spC 0 0 op a b c im ln)] W fun e w' => e = .returned (.agg (cpuC (⟨l, V, ie, eie, epc, tv, cc, cd⟩))) ∧ W.grownBy w' none := by
  have Hz := zero_cpu
  obtain ⟨b1, b2, b3, e1, e2, e3⟩ : ∃ b1 b2 b3, b1 = W.heap.size ∧ b2 = b1 + 1 ∧ b3 = b2 + 1 := ⟨_, _, _, rfl, rfl, rfl⟩
  have N12 : Hid (b1 ≠ b2) := hid (by omega)
  have N13 : Hid (b1 ≠ b3) := hid (by omega)
  have N23 : Hid (b2 ≠ b3) := hid (by omega)
  have B1 : Hid (W.heap.size ≤ b1) := hid (by omega)
  have B3 : Hid (W.heap.size ≤ b3) := hid (by omega)
  have HC : Hid (CpuAt (((W.alloc (.cells (cpuC ⟨l, pc, ie, eie, epc, tv, cc, cd⟩) 39)).alloc (.cells (spC 0 0 op a b c im ln) 138)).alloc (.cells (cpuC zeroP) 39)) b1 ⟨l, pc, ie, eie, epc, tv, cc, cd⟩) := hid (by rw [e1]; exact ((CpuAt.new _ hl.len).alloc _).alloc _)
  have HS : Hid (RwAt (((W.alloc (.cells (cpuC ⟨l, pc, ie, eie, epc, tv, cc, cd⟩) 39)).alloc (.cells (spC 0 0 op a b c im ln) 138)).alloc (.cells (cpuC zeroP) 39)) b2 138 (spC 0 0 op a b c im ln)) := hid (by rw [e2, e1]; exact (RwAt.new2 _ _ _ _).alloc _)
  have HR : Hid (CpuAt (((W.alloc (.cells (cpuC ⟨l, pc, ie, eie, epc, tv, cc, cd⟩) 39)).alloc (.cells (spC 0 0 op a b c im ln) 138)).alloc (.cells (cpuC zeroP) 39)) b3 zeroP) := hid (by
    rw [e3, e2, e1]
    have := CpuAt.new2 (x := zeroP) (W.alloc (.cells (cpuC ⟨l, pc, ie, eie, epc, tv, cc, cd⟩) 39)) (.cells (spC 0 0 op a b c im ln) 138) rfl
    simp only [World.size_alloc] at this
    exact this)
  have HG : Hid (W.grownBy (((W.alloc (.cells (cpuC ⟨l, pc, ie, eie, epc, tv, cc, cd⟩) 39)).alloc (.cells (spC 0 0 op a b c im ln) 138)).alloc (.cells (cpuC zeroP) 39)) none) := hid (grown_alloc (grown_alloc (grown_alloc (grown_refl _ _) _) _) _)
  have HL := hid hl
  have HT := hid ht
  have HA := hid ha
  have HJ := hid hj
  have HV := hid hV
  clear hl ht ha hj hV
  go_enter Tryz.func126, Tryz.ntmps126
  go_upto_region 1 with (fail)
  generalize (((W.alloc (.cells (cpuC ⟨l, pc, ie, eie, epc, tv, cc, cd⟩) 39)).alloc (.cells (spC 0 0 op a b c im ln) 138)).alloc (.cells (cpuC zeroP) 39)) = w3 at HC HS HR HG ⊢
  rw [← e1, ← e2, ← e3]
  clear e1 e2 e3
  have kp := HC.out.pc
  have k7 : w3.cell? ⟨b2, 7, none⟩ = some (.int .u32 ln) := HS.out.cell 7 rfl
  go_wp2_with (first
    | (refine wpList_load_mid rfl 112 _ rfl b2 2 rfl _ _ HS.out.ins Tryz.underlying112 rfl (by kernel_rfl) ?_)
    | (refine wpList_load_mid rfl 37 _ rfl b1 0 rfl _ _ HC.out.regs Tryz.underlying37 rfl (regs16_size HL.out.len) ?_)
    | fail)
  refine (taken_of op a b c im HL.out true true HT.out HA.out _).mono ?_; rintro e w4 ⟨rfl, hg⟩
  clear kp k7
  replace HC := hid (HC.out.kept0 hg)
  replace HS := hid (HS.out.kept0 hg)
  replace HR := hid (HR.out.kept0 hg)
  replace HG := hid (grown_trans HG.out hg)
  clear hg
  go_wp2_with (first
    | (refine wpList_load_cpu rfl _ rfl rfl HC.out ?_)
    | (refine wpList_load_mid rfl 112 _ rfl b2 2 rfl _ _ HS.out.ins Tryz.underlying112 rfl (by kernel_rfl) ?_)
    | fail)
  refine (target_of (b := b) HL.out HJ.out V HV.out _).mono ?_; rintro e w5 ⟨rfl, hg⟩
  replace HC := hid (HC.out.kept0 hg)
  replace HS := hid (HS.out.kept0 hg)
  replace HR := hid (HR.out.kept0 hg)
  replace HG := hid (grown_trans HG.out hg)
  clear hg
  have kp := HC.out.pc
  have kf := fun j => HC.out.free j
  have HC2 := hid (HC.out.sPc V)
  replace HS := hid (HS.out.other b1 16 (.int .u32 V) N12.out.symm)
  replace HR := hid (HR.out.other b1 16 (.int .u32 V) N13.out.symm)
  replace HG := hid (grown_setN HG.out B1.out 16 (.int .u32 V))
  go_upto_region 7 with (fail)
  clear kp kf HC
  generalize (w5.setCell ⟨b1, 16, none⟩ (.int .u32 V)) = w6 at HC2 HS HR HG ⊢
  have k2 : w6.cell? ⟨b2, 2, none⟩ = some (.int .i64 op) := HS.out.cell 2 rfl
  have E1 := hid (HR.out.row (y := ⟨l, V, ie, eie, epc, tv, cc, cd⟩) HC2.out.len)
  have EG := hid (grown_setRow HG.out B3.out (cpuC ⟨l, V, ie, eie, epc, tv, cc, cd⟩))
  go_wp2_with (first
    | (refine wpList_load_cpu rfl _ rfl rfl HC2.out ?_)
    | (refine wpList_store_cpu rfl _ _ rfl rfl rfl HR.out HC2.out.len ?_)
    | fail)
  refine bodyPost_ret (results_cell_row Tryz.results126 _ _ b3 _ _ _ _ rfl E1.out.blk Tryz.underlying39 rfl (cpu_size_info E1.out.len)) rfl ?_
  exact ⟨rfl, EG.out⟩
set_option maxRecDepth 100000 in
set_option maxHeartbeats 4000000 in
theorem jump_call (hl : Regs l) (ht : takenB op a b c im l = true) (ha : askB op a b c im = true) (hj : jrB op a) (V : Int) (hV : targV ⟨l, pc, ie, eie, epc, tv, cc, cd⟩ op a c im = V) (h22 : (op == 22) = true) (W : World) :
    Calls Tryz.prog 126 #[.agg (cpuC ⟨l, pc, ie, eie, epc, tv, cc, cd⟩), .agg (spC 0 0 op a b c im ln)] W fun e w' => e = .returned (.agg (cpuC (⟨l.set 15 ((pc + ln) % 4294967296), V, ie, eie, epc, tv, cc, cd⟩))) ∧ W.grownBy w' none := by
  have Hz := zero_cpu
  obtain ⟨b1, b2, b3, e1, e2, e3⟩ : ∃ b1 b2 b3, b1 = W.heap.size ∧ b2 = b1 + 1 ∧ b3 = b2 + 1 := ⟨_, _, _, rfl, rfl, rfl⟩
  have N12 : Hid (b1 ≠ b2) := hid (by omega)
  have N13 : Hid (b1 ≠ b3) := hid (by omega)
  have N23 : Hid (b2 ≠ b3) := hid (by omega)
  have B1 : Hid (W.heap.size ≤ b1) := hid (by omega)
  have B3 : Hid (W.heap.size ≤ b3) := hid (by omega)
  have HC : Hid (CpuAt (((W.alloc (.cells (cpuC ⟨l, pc, ie, eie, epc, tv, cc, cd⟩) 39)).alloc (.cells (spC 0 0 op a b c im ln) 138)).alloc (.cells (cpuC zeroP) 39)) b1 ⟨l, pc, ie, eie, epc, tv, cc, cd⟩) := hid (by rw [e1]; exact ((CpuAt.new _ hl.len).alloc _).alloc _)
  have HS : Hid (RwAt (((W.alloc (.cells (cpuC ⟨l, pc, ie, eie, epc, tv, cc, cd⟩) 39)).alloc (.cells (spC 0 0 op a b c im ln) 138)).alloc (.cells (cpuC zeroP) 39)) b2 138 (spC 0 0 op a b c im ln)) := hid (by rw [e2, e1]; exact (RwAt.new2 _ _ _ _).alloc _)
  have HR : Hid (CpuAt (((W.alloc (.cells (cpuC ⟨l, pc, ie, eie, epc, tv, cc, cd⟩) 39)).alloc (.cells (spC 0 0 op a b c im ln) 138)).alloc (.cells (cpuC zeroP) 39)) b3 zeroP) := hid (by
    rw [e3, e2, e1]
    have := CpuAt.new2 (x := zeroP) (W.alloc (.cells (cpuC ⟨l, pc, ie, eie, epc, tv, cc, cd⟩) 39)) (.cells (spC 0 0 op a b c im ln) 138) rfl
    simp only [World.size_alloc] at this
    exact this)
  have HG : Hid (W.grownBy (((W.alloc (.cells (cpuC ⟨l, pc, ie, eie, epc, tv, cc, cd⟩) 39)).alloc (.cells (spC 0 0 op a b c im ln) 138)).alloc (.cells (cpuC zeroP) 39)) none) := hid (grown_alloc (grown_alloc (grown_alloc (grown_refl _ _) _) _) _)
  have HL := hid hl
  have HT := hid ht
  have HA := hid ha
  have HJ := hid hj
  have HV := hid hV
  clear hl ht ha hj hV
  go_enter Tryz.func126, Tryz.ntmps126
  go_upto_region 1 with (fail)
  generalize (((W.alloc (.cells (cpuC ⟨l, pc, ie, eie, epc, tv, cc, cd⟩) 39)).alloc (.cells (spC 0 0 op a b c im ln) 138)).alloc (.cells (cpuC zeroP) 39)) = w3 at HC HS HR HG ⊢
  rw [← e1, ← e2, ← e3]
  clear e1 e2 e3
  have kp := HC.out.pc
  have k7 : w3.cell? ⟨b2, 7, none⟩ = some (.int .u32 ln) := HS.out.cell 7 rfl
  go_wp2_with (first
    | (refine wpList_load_mid rfl 112 _ rfl b2 2 rfl _ _ HS.out.ins Tryz.underlying112 rfl (by kernel_rfl) ?_)
    | (refine wpList_load_mid rfl 37 _ rfl b1 0 rfl _ _ HC.out.regs Tryz.underlying37 rfl (regs16_size HL.out.len) ?_)
    | fail)
  refine (taken_of op a b c im HL.out true true HT.out HA.out _).mono ?_; rintro e w4 ⟨rfl, hg⟩
  clear kp k7
  replace HC := hid (HC.out.kept0 hg)
  replace HS := hid (HS.out.kept0 hg)
  replace HR := hid (HR.out.kept0 hg)
  replace HG := hid (grown_trans HG.out hg)
  clear hg
  go_wp2_with (first
    | (refine wpList_load_cpu rfl _ rfl rfl HC.out ?_)
    | (refine wpList_load_mid rfl 112 _ rfl b2 2 rfl _ _ HS.out.ins Tryz.underlying112 rfl (by kernel_rfl) ?_)
    | fail)
  refine (target_of (b := b) HL.out HJ.out V HV.out _).mono ?_; rintro e w5 ⟨rfl, hg⟩
  replace HC := hid (HC.out.kept0 hg)
  replace HS := hid (HS.out.kept0 hg)
  replace HR := hid (HR.out.kept0 hg)
  replace HG := hid (grown_trans HG.out hg)
  clear hg
  have kp := HC.out.pc
  have kf := fun j => HC.out.free j
  have HC2 := hid (HC.out.sPc V)
  replace HS := hid (HS.out.other b1 16 (.int .u32 V) N12.out.symm)
  replace HR := hid (HR.out.other b1 16 (.int .u32 V) N13.out.symm)
  replace HG := hid (grown_setN HG.out B1.out 16 (.int .u32 V))
  go_upto_region 7 with (fail)
  clear kp kf HC
  generalize (w5.setCell ⟨b1, 16, none⟩ (.int .u32 V)) = w6 at HC2 HS HR HG ⊢
  have k2 : w6.cell? ⟨b2, 2, none⟩ = some (.int .i64 op) := HS.out.cell 2 rfl
  obtain ⟨y, hy⟩ : ∃ y, l[15]? = some y := ⟨_, List.getElem?_eq_getElem (by rw [HL.out.len]; decide)⟩
  have kr : w6.cell? ⟨b1, 15, none⟩ = some (.int .u32 y) := HC2.out.regc hy
  have kf := fun j => HC2.out.free j
  have HC3 := hid (HC2.out.sReg 15 (by decide) ((pc + ln) % 4294967296))
  replace HR := hid (HR.out.other b1 15 (.int .u32 ((pc + ln) % 4294967296)) N13.out.symm)
  replace HG := hid (grown_setN HG.out B1.out 15 (.int .u32 ((pc + ln) % 4294967296)))
  clear hy
  go_upto_region 9 with (fail)
  clear k2 kr kf HC2
  generalize (w6.setCell ⟨b1, 15, none⟩ (.int .u32 ((pc + ln) % 4294967296))) = w7 at HC3 HR HG ⊢
  have E1 := hid (HR.out.row (y := ⟨l.set 15 ((pc + ln) % 4294967296), V, ie, eie, epc, tv, cc, cd⟩) HC3.out.len)
  have EG := hid (grown_setRow HG.out B3.out (cpuC ⟨l.set 15 ((pc + ln) % 4294967296), V, ie, eie, epc, tv, cc, cd⟩))
  go_wp2_with (first
    | (refine wpList_load_cpu rfl _ rfl rfl HC3.out ?_)
    | (refine wpList_store_cpu rfl _ _ rfl rfl rfl HR.out HC3.out.len ?_)
    | fail)
  refine bodyPost_ret (results_cell_row Tryz.results126 _ _ b3 _ _ _ _ rfl E1.out.blk Tryz.underlying39 rfl (cpu_size_info E1.out.len)) rfl ?_
  exact ⟨rfl, EG.out⟩
theorem taken_jal (h : insB 22 a b c im = true) : takenB 22 a b c im l = true := by
  unfold takenB askB goesB
  rw [h]; rfl
theorem jump_of (hl : Regs l) (ha : askB op a b c im = true) (hj : jrB op a) (W : World) :
    Calls Tryz.prog 126 #[.agg (cpuC ⟨l, pc, ie, eie, epc, tv, cc, cd⟩), .agg (spC 0 0 op a b c im ln)] W fun e w' => e = .returned (.agg (cpuC (jumpX ⟨l, pc, ie, eie, epc, tv, cc, cd⟩ op a b c im ln))) ∧ W.grownBy w' none := by
  unfold jumpX behI
  cases ht : takenB op a b c im l
  · have h22 : ¬ op = 22 := by
      rintro rfl
      unfold askB at ha
      simp only [Bool.and_eq_true] at ha
      rw [taken_jal ha.1] at ht; cases ht
    simp only [h22, if_false, Bool.false_eq_true]
    exact jump_not hl ht ha W
  · by_cases h22 : op = 22
    · simp only [h22, if_true]
      subst h22
      exact jump_call hl ht ha hj _ rfl rfl W
    · simp only [h22, if_false, if_true]
      exact jump_taken hl ht ha hj _ rfl (by simpa using h22) W
end
end Go.Proofs.YtkkbhifplbleiaaGreatDoor
