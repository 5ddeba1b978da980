/- bare's processor: an instruction that asks it how it stands, or makes it stand otherwise: a contract. (Made by a program.) -/
import Derived.Test.YtkkbhifplbleiaaGreatDoorZGBareA
import Derived.Test.YtkkbhifplbleiaaGreatDoorZGCore
import Derived.Deep.Cut
namespace Go.Proofs.YtkkbhifplbleiaaGreatDoor
open Go.RowKit
theorem setR_regs {l : List Int} (hl : Regs l) (k : Nat) {x : Int} (h0 : 0 ≤ x) (h1 : x < 4294967296) : (l.set k x).length = 16 := (hl.set k h0 h1).len
section
variable {l : List Int} {pc : Int} {ie eie : Bool} {epc tv cc cd : Int}
set_option maxRecDepth 100000 in
set_option maxHeartbeats 2000000 in
theorem prc33 (hl : Regs l) (now op : Int) (_n0 : 0 ≤ now) (_n1 : now ≤ 1000000) (hop : op = 33) (k : Nat) (hk : k < 16) (b c im : Int) (w : World) :
    Calls Tryz.prog 112 #[.agg (cpuC ⟨l, pc, ie, eie, epc, tv, cc, cd⟩), .int .i64 now, .agg (inC op (k : Int) b c im)] w fun e w' => e = .returned (.agg (cpuC (prcP now ⟨l, pc, ie, eie, epc, tv, cc, cd⟩ op (k : Int)))) ∧ w.grownBy w' none := by
  have Hz := zero_cpu
  obtain ⟨b1, b2, b3, e1, e2, e3⟩ : ∃ b1 b2 b3, b1 = w.heap.size ∧ b2 = w.heap.size + 1 ∧ b3 = w.heap.size + 1 + 1 := ⟨_, _, _, rfl, rfl, rfl⟩
  have NE : Hid (b1 ≠ b3 ∧ b2 ≠ b1 ∧ w.heap.size ≤ b1 ∧ w.heap.size ≤ b3) := hid (by omega)
  have HC : Hid (CpuAt (((w.alloc (.cells (cpuC ⟨l, pc, ie, eie, epc, tv, cc, cd⟩) 39)).alloc (.cells (inC op (k : Int) b c im) 112)).alloc (.cells (cpuC zeroP) 39)) b1 ⟨l, pc, ie, eie, epc, tv, cc, cd⟩) := hid (by rw [e1]; exact ((CpuAt.new w hl.len).alloc _).alloc _)
  have HI : Hid (RwAt (((w.alloc (.cells (cpuC ⟨l, pc, ie, eie, epc, tv, cc, cd⟩) 39)).alloc (.cells (inC op (k : Int) b c im) 112)).alloc (.cells (cpuC zeroP) 39)) b2 112 (inC op (k : Int) b c im)) := hid (by rw [e2]; exact (RwAt.new2 w _ _ _).alloc _)
  have H3 : Hid (CpuAt (((w.alloc (.cells (cpuC ⟨l, pc, ie, eie, epc, tv, cc, cd⟩) 39)).alloc (.cells (inC op (k : Int) b c im) 112)).alloc (.cells (cpuC zeroP) 39)) b3 zeroP) := hid (by
    have := CpuAt.new2 (x := zeroP) (w.alloc (.cells (cpuC ⟨l, pc, ie, eie, epc, tv, cc, cd⟩) 39)) (.cells (inC op (k : Int) b c im) 112) rfl
    rw [e3]; rw [World.size_alloc] at this; exact this)
  have HG := hid (grown_alloc (grown_alloc (grown_alloc (grown_refl w none) (.cells (cpuC ⟨l, pc, ie, eie, epc, tv, cc, cd⟩) 39)) (.cells (inC op (k : Int) b c im) 112)) (.cells (cpuC zeroP) 39))
  have Hop := hid hop
  have t33 : (op == 33) = true := by rw [hop]; decide
  obtain ⟨R, hR⟩ : ∃ R, l[k]? = some R := ⟨_, List.getElem?_eq_getElem (by rw [hl.len]; exact hk)⟩
  have hRI : regI l (k : Int) = R := by unfold regI; rw [Int.toNat_natCast, List.getD_eq_getElem?_getD, hR]; rfl
  have R0 : 0 ≤ R := (hl.bd R (List.mem_of_getElem? hR)).1
  have R1 : R < 4294967296 := (hl.bd R (List.mem_of_getElem? hR)).2
  have HL := hid hl
  have HR := hid hR
  have HRI := hid hRI
  have k0 : (0 : Int) ≤ (k : Int) := by omega
  have k1 : (k : Int) < 16 := by omega
  clear hop hl hR hRI
  go_enter Tryz.func112, Tryz.ntmps112
  go_upto_region 1 with (fail)
  generalize (((w.alloc (.cells (cpuC ⟨l, pc, ie, eie, epc, tv, cc, cd⟩) 39)).alloc (.cells (inC op (k : Int) b c im) 112)).alloc (.cells (cpuC zeroP) 39)) = w3 at HC HI H3 HG ⊢
  rw [← e3, ← e2, ← e1]
  clear e1 e2 e3
  have i0 := HI.out.cell 0 (v := .int .i64 op) rfl
  have i1 := HI.out.cell 1 (v := .int .i64 (k : Int)) rfl
  have hr := HC.out.regc HR.out
  have hf := fun j => HC.out.free j
  have hie := HC.out.ie
  have htv := HC.out.tv
  have HC4 : Hid (CpuAt (w3.setCell ⟨b1, 20, none⟩ (.int .u32 R)) b1 ⟨l, pc, ie, eie, epc, R, cc, cd⟩) := hid (HC.out.sTv R)
  have HG4 : Hid (w.grownBy (w3.setCell ⟨b1, 20, none⟩ (.int .u32 R)) none) := hid (grown_setN HG.out NE.out.2.2.1 _ _)
  have H34 : Hid (CpuAt (w3.setCell ⟨b1, 20, none⟩ (.int .u32 R)) b3 zeroP) := hid (H3.out.other _ _ _ NE.out.1.symm)
  go_upto_region 20 with (fail)
  generalize (w3.setCell ⟨b1, 20, none⟩ (.int .u32 R)) = w4 at HC4 HG4 H34 ⊢
  clear i0 i1 hr hf hie
  have E4 := hid (H34.out.row (y := ⟨l, pc, ie, eie, epc, R, cc, cd⟩) HL.out.len)
  have EG := hid (grown_setRow HG4.out NE.out.2.2.2 (cpuC ⟨l, pc, ie, eie, epc, R, cc, cd⟩))
  go_wp2_with (first
    | (refine wpList_load_cpu rfl _ rfl rfl HC4.out ?_)
    | (refine wpList_store_cpu (y := ⟨l, pc, ie, eie, epc, R, cc, cd⟩) rfl _ _ rfl rfl rfl H34.out HL.out.len ?_)
    | fail)
  refine bodyPost_ret (results_cell_row Tryz.results112 _ _ b3 _ _ _ _ rfl E4.out.blk Tryz.underlying39 rfl (cpu_size_info E4.out.len)) rfl ?_
  have He : prcP now ⟨l, pc, ie, eie, epc, tv, cc, cd⟩ op (k : Int) = ⟨l, pc, ie, eie, epc, R, cc, cd⟩ := by unfold prcP; rw [if_pos Hop.out, HRI.out]
  rw [He]
  exact ⟨rfl, EG.out⟩
set_option maxRecDepth 100000 in
set_option maxHeartbeats 2000000 in
theorem prc40 (hl : Regs l) (now op : Int) (n0 : 0 ≤ now) (n1 : now ≤ 1000000) (hop : op = 40) (k : Nat) (hk : k < 16) (b c im : Int) (w : World) :
    Calls Tryz.prog 112 #[.agg (cpuC ⟨l, pc, ie, eie, epc, tv, cc, cd⟩), .int .i64 now, .agg (inC op (k : Int) b c im)] w fun e w' => e = .returned (.agg (cpuC (prcP now ⟨l, pc, ie, eie, epc, tv, cc, cd⟩ op (k : Int)))) ∧ w.grownBy w' none := by
  have Hz := zero_cpu
  obtain ⟨b1, b2, b3, e1, e2, e3⟩ : ∃ b1 b2 b3, b1 = w.heap.size ∧ b2 = w.heap.size + 1 ∧ b3 = w.heap.size + 1 + 1 := ⟨_, _, _, rfl, rfl, rfl⟩
  have NE : Hid (b1 ≠ b3 ∧ b2 ≠ b1 ∧ w.heap.size ≤ b1 ∧ w.heap.size ≤ b3) := hid (by omega)
  have HC : Hid (CpuAt (((w.alloc (.cells (cpuC ⟨l, pc, ie, eie, epc, tv, cc, cd⟩) 39)).alloc (.cells (inC op (k : Int) b c im) 112)).alloc (.cells (cpuC zeroP) 39)) b1 ⟨l, pc, ie, eie, epc, tv, cc, cd⟩) := hid (by rw [e1]; exact ((CpuAt.new w hl.len).alloc _).alloc _)
  have HI : Hid (RwAt (((w.alloc (.cells (cpuC ⟨l, pc, ie, eie, epc, tv, cc, cd⟩) 39)).alloc (.cells (inC op (k : Int) b c im) 112)).alloc (.cells (cpuC zeroP) 39)) b2 112 (inC op (k : Int) b c im)) := hid (by rw [e2]; exact (RwAt.new2 w _ _ _).alloc _)
  have H3 : Hid (CpuAt (((w.alloc (.cells (cpuC ⟨l, pc, ie, eie, epc, tv, cc, cd⟩) 39)).alloc (.cells (inC op (k : Int) b c im) 112)).alloc (.cells (cpuC zeroP) 39)) b3 zeroP) := hid (by
    have := CpuAt.new2 (x := zeroP) (w.alloc (.cells (cpuC ⟨l, pc, ie, eie, epc, tv, cc, cd⟩) 39)) (.cells (inC op (k : Int) b c im) 112) rfl
    rw [e3]; rw [World.size_alloc] at this; exact this)
  have HG := hid (grown_alloc (grown_alloc (grown_alloc (grown_refl w none) (.cells (cpuC ⟨l, pc, ie, eie, epc, tv, cc, cd⟩) 39)) (.cells (inC op (k : Int) b c im) 112)) (.cells (cpuC zeroP) 39))
  have Hop := hid hop
  have t33 : (op == 33) = false := by rw [hop]; decide
  have t40 : (op == 40) = true := by rw [hop]; decide
  obtain ⟨R, hR⟩ : ∃ R, l[k]? = some R := ⟨_, List.getElem?_eq_getElem (by rw [hl.len]; exact hk)⟩
  have hRI : regI l (k : Int) = R := by unfold regI; rw [Int.toNat_natCast, List.getD_eq_getElem?_getD, hR]; rfl
  have R0 : 0 ≤ R := (hl.bd R (List.mem_of_getElem? hR)).1
  have R1 : R < 4294967296 := (hl.bd R (List.mem_of_getElem? hR)).2
  have HL := hid hl
  have HR := hid hR
  have HRI := hid hRI
  have k0 : (0 : Int) ≤ (k : Int) := by omega
  have k1 : (k : Int) < 16 := by omega
  clear hop hl hR hRI
  go_enter Tryz.func112, Tryz.ntmps112
  go_upto_region 1 with (fail)
  generalize (((w.alloc (.cells (cpuC ⟨l, pc, ie, eie, epc, tv, cc, cd⟩) 39)).alloc (.cells (inC op (k : Int) b c im) 112)).alloc (.cells (cpuC zeroP) 39)) = w3 at HC HI H3 HG ⊢
  rw [← e3, ← e2, ← e1]
  clear e1 e2 e3
  have i0 := HI.out.cell 0 (v := .int .i64 op) rfl
  have i1 := HI.out.cell 1 (v := .int .i64 (k : Int)) rfl
  have hr := HC.out.regc HR.out
  have hf := fun j => HC.out.free j
  have hie := HC.out.ie
  have HC4 : Hid (CpuAt (w3.setCell ⟨b1, k, none⟩ (.int .u32 now)) b1 ⟨l.set k now, pc, ie, eie, epc, tv, cc, cd⟩) := hid (HC.out.sReg k hk now)
  have HG4 : Hid (w.grownBy (w3.setCell ⟨b1, k, none⟩ (.int .u32 now)) none) := hid (grown_setN HG.out NE.out.2.2.1 _ _)
  have H34 : Hid (CpuAt (w3.setCell ⟨b1, k, none⟩ (.int .u32 now)) b3 zeroP) := hid (H3.out.other _ _ _ NE.out.1.symm)
  go_upto_region 20 with (fail)
  generalize (w3.setCell ⟨b1, k, none⟩ (.int .u32 now)) = w4 at HC4 HG4 H34 ⊢
  clear i0 i1 hr hf hie
  have E4 := hid (H34.out.row (y := ⟨l.set k now, pc, ie, eie, epc, tv, cc, cd⟩) (by rw [List.length_set]; exact HL.out.len))
  have EG := hid (grown_setRow HG4.out NE.out.2.2.2 (cpuC ⟨l.set k now, pc, ie, eie, epc, tv, cc, cd⟩))
  go_wp2_with (first
    | (refine wpList_load_cpu rfl _ rfl rfl HC4.out ?_)
    | (refine wpList_store_cpu (y := ⟨l.set k now, pc, ie, eie, epc, tv, cc, cd⟩) rfl _ _ rfl rfl rfl H34.out (by rw [List.length_set]; exact HL.out.len) ?_)
    | fail)
  refine bodyPost_ret (results_cell_row Tryz.results112 _ _ b3 _ _ _ _ rfl E4.out.blk Tryz.underlying39 rfl (cpu_size_info E4.out.len)) rfl ?_
  have He : prcP now ⟨l, pc, ie, eie, epc, tv, cc, cd⟩ op (k : Int) = ⟨l.set k now, pc, ie, eie, epc, tv, cc, cd⟩ := by unfold prcP setR; rw [if_neg (by rw [Hop.out]; decide), if_pos Hop.out, Int.toNat_natCast, show now % 4294967296 = now by omega]
  rw [He]
  exact ⟨rfl, EG.out⟩
set_option maxRecDepth 100000 in
set_option maxHeartbeats 2000000 in
theorem prc43 (hl : Regs l) (now op : Int) (_n0 : 0 ≤ now) (_n1 : now ≤ 1000000) (hop : op = 43) (k : Nat) (hk : k < 16) (b c im : Int) (w : World) :
    Calls Tryz.prog 112 #[.agg (cpuC ⟨l, pc, ie, eie, epc, tv, cc, cd⟩), .int .i64 now, .agg (inC op (k : Int) b c im)] w fun e w' => e = .returned (.agg (cpuC (prcP now ⟨l, pc, ie, eie, epc, tv, cc, cd⟩ op (k : Int)))) ∧ w.grownBy w' none := by
  have Hz := zero_cpu
  obtain ⟨b1, b2, b3, e1, e2, e3⟩ : ∃ b1 b2 b3, b1 = w.heap.size ∧ b2 = w.heap.size + 1 ∧ b3 = w.heap.size + 1 + 1 := ⟨_, _, _, rfl, rfl, rfl⟩
  have NE : Hid (b1 ≠ b3 ∧ b2 ≠ b1 ∧ w.heap.size ≤ b1 ∧ w.heap.size ≤ b3) := hid (by omega)
  have HC : Hid (CpuAt (((w.alloc (.cells (cpuC ⟨l, pc, ie, eie, epc, tv, cc, cd⟩) 39)).alloc (.cells (inC op (k : Int) b c im) 112)).alloc (.cells (cpuC zeroP) 39)) b1 ⟨l, pc, ie, eie, epc, tv, cc, cd⟩) := hid (by rw [e1]; exact ((CpuAt.new w hl.len).alloc _).alloc _)
  have HI : Hid (RwAt (((w.alloc (.cells (cpuC ⟨l, pc, ie, eie, epc, tv, cc, cd⟩) 39)).alloc (.cells (inC op (k : Int) b c im) 112)).alloc (.cells (cpuC zeroP) 39)) b2 112 (inC op (k : Int) b c im)) := hid (by rw [e2]; exact (RwAt.new2 w _ _ _).alloc _)
  have H3 : Hid (CpuAt (((w.alloc (.cells (cpuC ⟨l, pc, ie, eie, epc, tv, cc, cd⟩) 39)).alloc (.cells (inC op (k : Int) b c im) 112)).alloc (.cells (cpuC zeroP) 39)) b3 zeroP) := hid (by
    have := CpuAt.new2 (x := zeroP) (w.alloc (.cells (cpuC ⟨l, pc, ie, eie, epc, tv, cc, cd⟩) 39)) (.cells (inC op (k : Int) b c im) 112) rfl
    rw [e3]; rw [World.size_alloc] at this; exact this)
  have HG := hid (grown_alloc (grown_alloc (grown_alloc (grown_refl w none) (.cells (cpuC ⟨l, pc, ie, eie, epc, tv, cc, cd⟩) 39)) (.cells (inC op (k : Int) b c im) 112)) (.cells (cpuC zeroP) 39))
  have Hop := hid hop
  have t33 : (op == 33) = false := by rw [hop]; decide
  have t40 : (op == 40) = false := by rw [hop]; decide
  have t43 : (op == 43) = true := by rw [hop]; decide
  obtain ⟨R, hR⟩ : ∃ R, l[k]? = some R := ⟨_, List.getElem?_eq_getElem (by rw [hl.len]; exact hk)⟩
  have hRI : regI l (k : Int) = R := by unfold regI; rw [Int.toNat_natCast, List.getD_eq_getElem?_getD, hR]; rfl
  have R0 : 0 ≤ R := (hl.bd R (List.mem_of_getElem? hR)).1
  have R1 : R < 4294967296 := (hl.bd R (List.mem_of_getElem? hR)).2
  have HL := hid hl
  have HR := hid hR
  have HRI := hid hRI
  have k0 : (0 : Int) ≤ (k : Int) := by omega
  have k1 : (k : Int) < 16 := by omega
  clear hop hl hR hRI
  go_enter Tryz.func112, Tryz.ntmps112
  go_upto_region 1 with (fail)
  generalize (((w.alloc (.cells (cpuC ⟨l, pc, ie, eie, epc, tv, cc, cd⟩) 39)).alloc (.cells (inC op (k : Int) b c im) 112)).alloc (.cells (cpuC zeroP) 39)) = w3 at HC HI H3 HG ⊢
  rw [← e3, ← e2, ← e1]
  clear e1 e2 e3
  have i0 := HI.out.cell 0 (v := .int .i64 op) rfl
  have i1 := HI.out.cell 1 (v := .int .i64 (k : Int)) rfl
  have hr := HC.out.regc HR.out
  have hf := fun j => HC.out.free j
  have hie := HC.out.ie
  have hca := HC.out.ca
  have HC4 : Hid (CpuAt (w3.setCell ⟨b1, k, none⟩ (.int .u32 cc)) b1 ⟨l.set k cc, pc, ie, eie, epc, tv, cc, cd⟩) := hid (HC.out.sReg k hk cc)
  have HG4 : Hid (w.grownBy (w3.setCell ⟨b1, k, none⟩ (.int .u32 cc)) none) := hid (grown_setN HG.out NE.out.2.2.1 _ _)
  have H34 : Hid (CpuAt (w3.setCell ⟨b1, k, none⟩ (.int .u32 cc)) b3 zeroP) := hid (H3.out.other _ _ _ NE.out.1.symm)
  go_upto_region 20 with (fail)
  generalize (w3.setCell ⟨b1, k, none⟩ (.int .u32 cc)) = w4 at HC4 HG4 H34 ⊢
  clear i0 i1 hr hf hie
  have E4 := hid (H34.out.row (y := ⟨l.set k cc, pc, ie, eie, epc, tv, cc, cd⟩) (by rw [List.length_set]; exact HL.out.len))
  have EG := hid (grown_setRow HG4.out NE.out.2.2.2 (cpuC ⟨l.set k cc, pc, ie, eie, epc, tv, cc, cd⟩))
  go_wp2_with (first
    | (refine wpList_load_cpu rfl _ rfl rfl HC4.out ?_)
    | (refine wpList_store_cpu (y := ⟨l.set k cc, pc, ie, eie, epc, tv, cc, cd⟩) rfl _ _ rfl rfl rfl H34.out (by rw [List.length_set]; exact HL.out.len) ?_)
    | fail)
  refine bodyPost_ret (results_cell_row Tryz.results112 _ _ b3 _ _ _ _ rfl E4.out.blk Tryz.underlying39 rfl (cpu_size_info E4.out.len)) rfl ?_
  have He : prcP now ⟨l, pc, ie, eie, epc, tv, cc, cd⟩ op (k : Int) = ⟨l.set k cc, pc, ie, eie, epc, tv, cc, cd⟩ := by unfold prcP setR; rw [if_neg (by rw [Hop.out]; decide), if_neg (by rw [Hop.out]; decide), if_pos Hop.out, Int.toNat_natCast]
  rw [He]
  exact ⟨rfl, EG.out⟩
set_option maxRecDepth 100000 in
set_option maxHeartbeats 2000000 in
theorem prc44 (hl : Regs l) (now op : Int) (_n0 : 0 ≤ now) (_n1 : now ≤ 1000000) (hop : op = 44) (k : Nat) (hk : k < 16) (b c im : Int) (w : World) :
    Calls Tryz.prog 112 #[.agg (cpuC ⟨l, pc, ie, eie, epc, tv, cc, cd⟩), .int .i64 now, .agg (inC op (k : Int) b c im)] w fun e w' => e = .returned (.agg (cpuC (prcP now ⟨l, pc, ie, eie, epc, tv, cc, cd⟩ op (k : Int)))) ∧ w.grownBy w' none := by
  have Hz := zero_cpu
  obtain ⟨b1, b2, b3, e1, e2, e3⟩ : ∃ b1 b2 b3, b1 = w.heap.size ∧ b2 = w.heap.size + 1 ∧ b3 = w.heap.size + 1 + 1 := ⟨_, _, _, rfl, rfl, rfl⟩
  have NE : Hid (b1 ≠ b3 ∧ b2 ≠ b1 ∧ w.heap.size ≤ b1 ∧ w.heap.size ≤ b3) := hid (by omega)
  have HC : Hid (CpuAt (((w.alloc (.cells (cpuC ⟨l, pc, ie, eie, epc, tv, cc, cd⟩) 39)).alloc (.cells (inC op (k : Int) b c im) 112)).alloc (.cells (cpuC zeroP) 39)) b1 ⟨l, pc, ie, eie, epc, tv, cc, cd⟩) := hid (by rw [e1]; exact ((CpuAt.new w hl.len).alloc _).alloc _)
  have HI : Hid (RwAt (((w.alloc (.cells (cpuC ⟨l, pc, ie, eie, epc, tv, cc, cd⟩) 39)).alloc (.cells (inC op (k : Int) b c im) 112)).alloc (.cells (cpuC zeroP) 39)) b2 112 (inC op (k : Int) b c im)) := hid (by rw [e2]; exact (RwAt.new2 w _ _ _).alloc _)
  have H3 : Hid (CpuAt (((w.alloc (.cells (cpuC ⟨l, pc, ie, eie, epc, tv, cc, cd⟩) 39)).alloc (.cells (inC op (k : Int) b c im) 112)).alloc (.cells (cpuC zeroP) 39)) b3 zeroP) := hid (by
    have := CpuAt.new2 (x := zeroP) (w.alloc (.cells (cpuC ⟨l, pc, ie, eie, epc, tv, cc, cd⟩) 39)) (.cells (inC op (k : Int) b c im) 112) rfl
    rw [e3]; rw [World.size_alloc] at this; exact this)
  have HG := hid (grown_alloc (grown_alloc (grown_alloc (grown_refl w none) (.cells (cpuC ⟨l, pc, ie, eie, epc, tv, cc, cd⟩) 39)) (.cells (inC op (k : Int) b c im) 112)) (.cells (cpuC zeroP) 39))
  have Hop := hid hop
  have t33 : (op == 33) = false := by rw [hop]; decide
  have t40 : (op == 40) = false := by rw [hop]; decide
  have t43 : (op == 43) = false := by rw [hop]; decide
  have t44 : (op == 44) = true := by rw [hop]; decide
  obtain ⟨R, hR⟩ : ∃ R, l[k]? = some R := ⟨_, List.getElem?_eq_getElem (by rw [hl.len]; exact hk)⟩
  have hRI : regI l (k : Int) = R := by unfold regI; rw [Int.toNat_natCast, List.getD_eq_getElem?_getD, hR]; rfl
  have R0 : 0 ≤ R := (hl.bd R (List.mem_of_getElem? hR)).1
  have R1 : R < 4294967296 := (hl.bd R (List.mem_of_getElem? hR)).2
  have HL := hid hl
  have HR := hid hR
  have HRI := hid hRI
  have k0 : (0 : Int) ≤ (k : Int) := by omega
  have k1 : (k : Int) < 16 := by omega
  clear hop hl hR hRI
  go_enter Tryz.func112, Tryz.ntmps112
  go_upto_region 1 with (fail)
  generalize (((w.alloc (.cells (cpuC ⟨l, pc, ie, eie, epc, tv, cc, cd⟩) 39)).alloc (.cells (inC op (k : Int) b c im) 112)).alloc (.cells (cpuC zeroP) 39)) = w3 at HC HI H3 HG ⊢
  rw [← e3, ← e2, ← e1]
  clear e1 e2 e3
  have i0 := HI.out.cell 0 (v := .int .i64 op) rfl
  have i1 := HI.out.cell 1 (v := .int .i64 (k : Int)) rfl
  have hr := HC.out.regc HR.out
  have hf := fun j => HC.out.free j
  have hie := HC.out.ie
  have had := HC.out.ad
  have HC4 : Hid (CpuAt (w3.setCell ⟨b1, k, none⟩ (.int .u32 cd)) b1 ⟨l.set k cd, pc, ie, eie, epc, tv, cc, cd⟩) := hid (HC.out.sReg k hk cd)
  have HG4 : Hid (w.grownBy (w3.setCell ⟨b1, k, none⟩ (.int .u32 cd)) none) := hid (grown_setN HG.out NE.out.2.2.1 _ _)
  have H34 : Hid (CpuAt (w3.setCell ⟨b1, k, none⟩ (.int .u32 cd)) b3 zeroP) := hid (H3.out.other _ _ _ NE.out.1.symm)
  go_upto_region 20 with (fail)
  generalize (w3.setCell ⟨b1, k, none⟩ (.int .u32 cd)) = w4 at HC4 HG4 H34 ⊢
  clear i0 i1 hr hf hie
  have E4 := hid (H34.out.row (y := ⟨l.set k cd, pc, ie, eie, epc, tv, cc, cd⟩) (by rw [List.length_set]; exact HL.out.len))
  have EG := hid (grown_setRow HG4.out NE.out.2.2.2 (cpuC ⟨l.set k cd, pc, ie, eie, epc, tv, cc, cd⟩))
  go_wp2_with (first
    | (refine wpList_load_cpu rfl _ rfl rfl HC4.out ?_)
    | (refine wpList_store_cpu (y := ⟨l.set k cd, pc, ie, eie, epc, tv, cc, cd⟩) rfl _ _ rfl rfl rfl H34.out (by rw [List.length_set]; exact HL.out.len) ?_)
    | fail)
  refine bodyPost_ret (results_cell_row Tryz.results112 _ _ b3 _ _ _ _ rfl E4.out.blk Tryz.underlying39 rfl (cpu_size_info E4.out.len)) rfl ?_
  have He : prcP now ⟨l, pc, ie, eie, epc, tv, cc, cd⟩ op (k : Int) = ⟨l.set k cd, pc, ie, eie, epc, tv, cc, cd⟩ := by unfold prcP setR; rw [if_neg (by rw [Hop.out]; decide), if_neg (by rw [Hop.out]; decide), if_neg (by rw [Hop.out]; decide), if_pos Hop.out, Int.toNat_natCast]
  rw [He]
  exact ⟨rfl, EG.out⟩
set_option maxRecDepth 100000 in
set_option maxHeartbeats 2000000 in
theorem prc64 (hl : Regs l) (now op : Int) (_n0 : 0 ≤ now) (_n1 : now ≤ 1000000) (hop : op = 64) (k : Nat) (hk : k < 16) (b c im : Int) (w : World) :
    Calls Tryz.prog 112 #[.agg (cpuC ⟨l, pc, ie, eie, epc, tv, cc, cd⟩), .int .i64 now, .agg (inC op (k : Int) b c im)] w fun e w' => e = .returned (.agg (cpuC (prcP now ⟨l, pc, ie, eie, epc, tv, cc, cd⟩ op (k : Int)))) ∧ w.grownBy w' none := by
  have Hz := zero_cpu
  obtain ⟨b1, b2, b3, e1, e2, e3⟩ : ∃ b1 b2 b3, b1 = w.heap.size ∧ b2 = w.heap.size + 1 ∧ b3 = w.heap.size + 1 + 1 := ⟨_, _, _, rfl, rfl, rfl⟩
  have NE : Hid (b1 ≠ b3 ∧ b2 ≠ b1 ∧ w.heap.size ≤ b1 ∧ w.heap.size ≤ b3) := hid (by omega)
  have HC : Hid (CpuAt (((w.alloc (.cells (cpuC ⟨l, pc, ie, eie, epc, tv, cc, cd⟩) 39)).alloc (.cells (inC op (k : Int) b c im) 112)).alloc (.cells (cpuC zeroP) 39)) b1 ⟨l, pc, ie, eie, epc, tv, cc, cd⟩) := hid (by rw [e1]; exact ((CpuAt.new w hl.len).alloc _).alloc _)
  have HI : Hid (RwAt (((w.alloc (.cells (cpuC ⟨l, pc, ie, eie, epc, tv, cc, cd⟩) 39)).alloc (.cells (inC op (k : Int) b c im) 112)).alloc (.cells (cpuC zeroP) 39)) b2 112 (inC op (k : Int) b c im)) := hid (by rw [e2]; exact (RwAt.new2 w _ _ _).alloc _)
  have H3 : Hid (CpuAt (((w.alloc (.cells (cpuC ⟨l, pc, ie, eie, epc, tv, cc, cd⟩) 39)).alloc (.cells (inC op (k : Int) b c im) 112)).alloc (.cells (cpuC zeroP) 39)) b3 zeroP) := hid (by
    have := CpuAt.new2 (x := zeroP) (w.alloc (.cells (cpuC ⟨l, pc, ie, eie, epc, tv, cc, cd⟩) 39)) (.cells (inC op (k : Int) b c im) 112) rfl
    rw [e3]; rw [World.size_alloc] at this; exact this)
  have HG := hid (grown_alloc (grown_alloc (grown_alloc (grown_refl w none) (.cells (cpuC ⟨l, pc, ie, eie, epc, tv, cc, cd⟩) 39)) (.cells (inC op (k : Int) b c im) 112)) (.cells (cpuC zeroP) 39))
  have Hop := hid hop
  have t33 : (op == 33) = false := by rw [hop]; decide
  have t40 : (op == 40) = false := by rw [hop]; decide
  have t43 : (op == 43) = false := by rw [hop]; decide
  have t44 : (op == 44) = false := by rw [hop]; decide
  have t64 : (op == 64) = true := by rw [hop]; decide
  obtain ⟨R, hR⟩ : ∃ R, l[k]? = some R := ⟨_, List.getElem?_eq_getElem (by rw [hl.len]; exact hk)⟩
  have hRI : regI l (k : Int) = R := by unfold regI; rw [Int.toNat_natCast, List.getD_eq_getElem?_getD, hR]; rfl
  have R0 : 0 ≤ R := (hl.bd R (List.mem_of_getElem? hR)).1
  have R1 : R < 4294967296 := (hl.bd R (List.mem_of_getElem? hR)).2
  have HL := hid hl
  have HR := hid hR
  have HRI := hid hRI
  have k0 : (0 : Int) ≤ (k : Int) := by omega
  have k1 : (k : Int) < 16 := by omega
  clear hop hl hR hRI
  go_enter Tryz.func112, Tryz.ntmps112
  go_upto_region 1 with (fail)
  generalize (((w.alloc (.cells (cpuC ⟨l, pc, ie, eie, epc, tv, cc, cd⟩) 39)).alloc (.cells (inC op (k : Int) b c im) 112)).alloc (.cells (cpuC zeroP) 39)) = w3 at HC HI H3 HG ⊢
  rw [← e3, ← e2, ← e1]
  clear e1 e2 e3
  have i0 := HI.out.cell 0 (v := .int .i64 op) rfl
  have i1 := HI.out.cell 1 (v := .int .i64 (k : Int)) rfl
  have hr := HC.out.regc HR.out
  have hf := fun j => HC.out.free j
  have hie := HC.out.ie
  have HC4 : Hid (CpuAt (w3.setCell ⟨b1, 17, none⟩ (.bool false)) b1 ⟨l, pc, false, eie, epc, tv, cc, cd⟩) := hid (HC.out.sIe false)
  have HG4 : Hid (w.grownBy (w3.setCell ⟨b1, 17, none⟩ (.bool false)) none) := hid (grown_setN HG.out NE.out.2.2.1 _ _)
  have H34 : Hid (CpuAt (w3.setCell ⟨b1, 17, none⟩ (.bool false)) b3 zeroP) := hid (H3.out.other _ _ _ NE.out.1.symm)
  go_upto_region 20 with (fail)
  generalize (w3.setCell ⟨b1, 17, none⟩ (.bool false)) = w4 at HC4 HG4 H34 ⊢
  clear i0 i1 hr hf hie
  have E4 := hid (H34.out.row (y := ⟨l, pc, false, eie, epc, tv, cc, cd⟩) HL.out.len)
  have EG := hid (grown_setRow HG4.out NE.out.2.2.2 (cpuC ⟨l, pc, false, eie, epc, tv, cc, cd⟩))
  go_wp2_with (first
    | (refine wpList_load_cpu rfl _ rfl rfl HC4.out ?_)
    | (refine wpList_store_cpu (y := ⟨l, pc, false, eie, epc, tv, cc, cd⟩) rfl _ _ rfl rfl rfl H34.out HL.out.len ?_)
    | fail)
  refine bodyPost_ret (results_cell_row Tryz.results112 _ _ b3 _ _ _ _ rfl E4.out.blk Tryz.underlying39 rfl (cpu_size_info E4.out.len)) rfl ?_
  have He : prcP now ⟨l, pc, ie, eie, epc, tv, cc, cd⟩ op (k : Int) = ⟨l, pc, false, eie, epc, tv, cc, cd⟩ := by unfold prcP; rw [if_neg (by rw [Hop.out]; decide), if_neg (by rw [Hop.out]; decide), if_neg (by rw [Hop.out]; decide), if_neg (by rw [Hop.out]; decide), if_pos Hop.out]
  rw [He]
  exact ⟨rfl, EG.out⟩
set_option maxRecDepth 100000 in
set_option maxHeartbeats 2000000 in
theorem prc65 (hl : Regs l) (now op : Int) (_n0 : 0 ≤ now) (_n1 : now ≤ 1000000) (hop : op = 65) (k : Nat) (hk : k < 16) (b c im : Int) (w : World) :
    Calls Tryz.prog 112 #[.agg (cpuC ⟨l, pc, ie, eie, epc, tv, cc, cd⟩), .int .i64 now, .agg (inC op (k : Int) b c im)] w fun e w' => e = .returned (.agg (cpuC (prcP now ⟨l, pc, ie, eie, epc, tv, cc, cd⟩ op (k : Int)))) ∧ w.grownBy w' none := by
  have Hz := zero_cpu
  obtain ⟨b1, b2, b3, e1, e2, e3⟩ : ∃ b1 b2 b3, b1 = w.heap.size ∧ b2 = w.heap.size + 1 ∧ b3 = w.heap.size + 1 + 1 := ⟨_, _, _, rfl, rfl, rfl⟩
  have NE : Hid (b1 ≠ b3 ∧ b2 ≠ b1 ∧ w.heap.size ≤ b1 ∧ w.heap.size ≤ b3) := hid (by omega)
  have HC : Hid (CpuAt (((w.alloc (.cells (cpuC ⟨l, pc, ie, eie, epc, tv, cc, cd⟩) 39)).alloc (.cells (inC op (k : Int) b c im) 112)).alloc (.cells (cpuC zeroP) 39)) b1 ⟨l, pc, ie, eie, epc, tv, cc, cd⟩) := hid (by rw [e1]; exact ((CpuAt.new w hl.len).alloc _).alloc _)
  have HI : Hid (RwAt (((w.alloc (.cells (cpuC ⟨l, pc, ie, eie, epc, tv, cc, cd⟩) 39)).alloc (.cells (inC op (k : Int) b c im) 112)).alloc (.cells (cpuC zeroP) 39)) b2 112 (inC op (k : Int) b c im)) := hid (by rw [e2]; exact (RwAt.new2 w _ _ _).alloc _)
  have H3 : Hid (CpuAt (((w.alloc (.cells (cpuC ⟨l, pc, ie, eie, epc, tv, cc, cd⟩) 39)).alloc (.cells (inC op (k : Int) b c im) 112)).alloc (.cells (cpuC zeroP) 39)) b3 zeroP) := hid (by
    have := CpuAt.new2 (x := zeroP) (w.alloc (.cells (cpuC ⟨l, pc, ie, eie, epc, tv, cc, cd⟩) 39)) (.cells (inC op (k : Int) b c im) 112) rfl
    rw [e3]; rw [World.size_alloc] at this; exact this)
  have HG := hid (grown_alloc (grown_alloc (grown_alloc (grown_refl w none) (.cells (cpuC ⟨l, pc, ie, eie, epc, tv, cc, cd⟩) 39)) (.cells (inC op (k : Int) b c im) 112)) (.cells (cpuC zeroP) 39))
  have Hop := hid hop
  have t33 : (op == 33) = false := by rw [hop]; decide
  have t40 : (op == 40) = false := by rw [hop]; decide
  have t43 : (op == 43) = false := by rw [hop]; decide
  have t44 : (op == 44) = false := by rw [hop]; decide
  have t64 : (op == 64) = false := by rw [hop]; decide
  have t65 : (op == 65) = true := by rw [hop]; decide
  obtain ⟨R, hR⟩ : ∃ R, l[k]? = some R := ⟨_, List.getElem?_eq_getElem (by rw [hl.len]; exact hk)⟩
  have hRI : regI l (k : Int) = R := by unfold regI; rw [Int.toNat_natCast, List.getD_eq_getElem?_getD, hR]; rfl
  have R0 : 0 ≤ R := (hl.bd R (List.mem_of_getElem? hR)).1
  have R1 : R < 4294967296 := (hl.bd R (List.mem_of_getElem? hR)).2
  have HL := hid hl
  have HR := hid hR
  have HRI := hid hRI
  have k0 : (0 : Int) ≤ (k : Int) := by omega
  have k1 : (k : Int) < 16 := by omega
  clear hop hl hR hRI
  go_enter Tryz.func112, Tryz.ntmps112
  go_upto_region 1 with (fail)
  generalize (((w.alloc (.cells (cpuC ⟨l, pc, ie, eie, epc, tv, cc, cd⟩) 39)).alloc (.cells (inC op (k : Int) b c im) 112)).alloc (.cells (cpuC zeroP) 39)) = w3 at HC HI H3 HG ⊢
  rw [← e3, ← e2, ← e1]
  clear e1 e2 e3
  have i0 := HI.out.cell 0 (v := .int .i64 op) rfl
  have i1 := HI.out.cell 1 (v := .int .i64 (k : Int)) rfl
  have hr := HC.out.regc HR.out
  have hf := fun j => HC.out.free j
  have hie := HC.out.ie
  have HC4 : Hid (CpuAt (w3.setCell ⟨b1, 17, none⟩ (.bool true)) b1 ⟨l, pc, true, eie, epc, tv, cc, cd⟩) := hid (HC.out.sIe true)
  have HG4 : Hid (w.grownBy (w3.setCell ⟨b1, 17, none⟩ (.bool true)) none) := hid (grown_setN HG.out NE.out.2.2.1 _ _)
  have H34 : Hid (CpuAt (w3.setCell ⟨b1, 17, none⟩ (.bool true)) b3 zeroP) := hid (H3.out.other _ _ _ NE.out.1.symm)
  go_upto_region 20 with (fail)
  generalize (w3.setCell ⟨b1, 17, none⟩ (.bool true)) = w4 at HC4 HG4 H34 ⊢
  clear i0 i1 hr hf hie
  have E4 := hid (H34.out.row (y := ⟨l, pc, true, eie, epc, tv, cc, cd⟩) HL.out.len)
  have EG := hid (grown_setRow HG4.out NE.out.2.2.2 (cpuC ⟨l, pc, true, eie, epc, tv, cc, cd⟩))
  go_wp2_with (first
    | (refine wpList_load_cpu rfl _ rfl rfl HC4.out ?_)
    | (refine wpList_store_cpu (y := ⟨l, pc, true, eie, epc, tv, cc, cd⟩) rfl _ _ rfl rfl rfl H34.out HL.out.len ?_)
    | fail)
  refine bodyPost_ret (results_cell_row Tryz.results112 _ _ b3 _ _ _ _ rfl E4.out.blk Tryz.underlying39 rfl (cpu_size_info E4.out.len)) rfl ?_
  have He : prcP now ⟨l, pc, ie, eie, epc, tv, cc, cd⟩ op (k : Int) = ⟨l, pc, true, eie, epc, tv, cc, cd⟩ := by unfold prcP; rw [if_neg (by rw [Hop.out]; decide), if_neg (by rw [Hop.out]; decide), if_neg (by rw [Hop.out]; decide), if_neg (by rw [Hop.out]; decide), if_neg (by rw [Hop.out]; decide), if_pos Hop.out]
  rw [He]
  exact ⟨rfl, EG.out⟩
set_option maxRecDepth 100000 in
set_option maxHeartbeats 2000000 in
theorem prc66_f (hl : Regs l) (now op : Int) (_n0 : 0 ≤ now) (_n1 : now ≤ 1000000) (hop : op = 66) (k : Nat) (hk : k < 16) (b c im : Int) (w : World) :
    Calls Tryz.prog 112 #[.agg (cpuC ⟨l, pc, false, eie, epc, tv, cc, cd⟩), .int .i64 now, .agg (inC op (k : Int) b c im)] w fun e w' => e = .returned (.agg (cpuC (prcP now ⟨l, pc, false, eie, epc, tv, cc, cd⟩ op (k : Int)))) ∧ w.grownBy w' none := by
  have Hz := zero_cpu
  obtain ⟨b1, b2, b3, e1, e2, e3⟩ : ∃ b1 b2 b3, b1 = w.heap.size ∧ b2 = w.heap.size + 1 ∧ b3 = w.heap.size + 1 + 1 := ⟨_, _, _, rfl, rfl, rfl⟩
  have NE : Hid (b1 ≠ b3 ∧ b2 ≠ b1 ∧ w.heap.size ≤ b1 ∧ w.heap.size ≤ b3) := hid (by omega)
  have HC : Hid (CpuAt (((w.alloc (.cells (cpuC ⟨l, pc, false, eie, epc, tv, cc, cd⟩) 39)).alloc (.cells (inC op (k : Int) b c im) 112)).alloc (.cells (cpuC zeroP) 39)) b1 ⟨l, pc, false, eie, epc, tv, cc, cd⟩) := hid (by rw [e1]; exact ((CpuAt.new w hl.len).alloc _).alloc _)
  have HI : Hid (RwAt (((w.alloc (.cells (cpuC ⟨l, pc, false, eie, epc, tv, cc, cd⟩) 39)).alloc (.cells (inC op (k : Int) b c im) 112)).alloc (.cells (cpuC zeroP) 39)) b2 112 (inC op (k : Int) b c im)) := hid (by rw [e2]; exact (RwAt.new2 w _ _ _).alloc _)
  have H3 : Hid (CpuAt (((w.alloc (.cells (cpuC ⟨l, pc, false, eie, epc, tv, cc, cd⟩) 39)).alloc (.cells (inC op (k : Int) b c im) 112)).alloc (.cells (cpuC zeroP) 39)) b3 zeroP) := hid (by
    have := CpuAt.new2 (x := zeroP) (w.alloc (.cells (cpuC ⟨l, pc, false, eie, epc, tv, cc, cd⟩) 39)) (.cells (inC op (k : Int) b c im) 112) rfl
    rw [e3]; rw [World.size_alloc] at this; exact this)
  have HG := hid (grown_alloc (grown_alloc (grown_alloc (grown_refl w none) (.cells (cpuC ⟨l, pc, false, eie, epc, tv, cc, cd⟩) 39)) (.cells (inC op (k : Int) b c im) 112)) (.cells (cpuC zeroP) 39))
  have Hop := hid hop
  have t33 : (op == 33) = false := by rw [hop]; decide
  have t40 : (op == 40) = false := by rw [hop]; decide
  have t43 : (op == 43) = false := by rw [hop]; decide
  have t44 : (op == 44) = false := by rw [hop]; decide
  have t64 : (op == 64) = false := by rw [hop]; decide
  have t65 : (op == 65) = false := by rw [hop]; decide
  have t66 : (op == 66) = true := by rw [hop]; decide
  obtain ⟨R, hR⟩ : ∃ R, l[k]? = some R := ⟨_, List.getElem?_eq_getElem (by rw [hl.len]; exact hk)⟩
  have hRI : regI l (k : Int) = R := by unfold regI; rw [Int.toNat_natCast, List.getD_eq_getElem?_getD, hR]; rfl
  have R0 : 0 ≤ R := (hl.bd R (List.mem_of_getElem? hR)).1
  have R1 : R < 4294967296 := (hl.bd R (List.mem_of_getElem? hR)).2
  have HL := hid hl
  have HR := hid hR
  have HRI := hid hRI
  have k0 : (0 : Int) ≤ (k : Int) := by omega
  have k1 : (k : Int) < 16 := by omega
  clear hop hl hR hRI
  go_enter Tryz.func112, Tryz.ntmps112
  go_upto_region 1 with (fail)
  generalize (((w.alloc (.cells (cpuC ⟨l, pc, false, eie, epc, tv, cc, cd⟩) 39)).alloc (.cells (inC op (k : Int) b c im) 112)).alloc (.cells (cpuC zeroP) 39)) = w3 at HC HI H3 HG ⊢
  rw [← e3, ← e2, ← e1]
  clear e1 e2 e3
  have i0 := HI.out.cell 0 (v := .int .i64 op) rfl
  have i1 := HI.out.cell 1 (v := .int .i64 (k : Int)) rfl
  have hr := HC.out.regc HR.out
  have hf := fun j => HC.out.free j
  have hie := HC.out.ie
  have hie2 : (w3.setCell ⟨b1, k, none⟩ (.int .u32 2)).cell? ⟨b1, 17, none⟩ = some (.bool false) := (HC.out.sReg k hk 2).ie
  have hr2 : (w3.setCell ⟨b1, k, none⟩ (.int .u32 2)).cell? ⟨b1, k, none⟩ = some (.int .u32 2) := (HC.out.sReg k hk 2).regc (by rw [List.getElem?_set_self (by rw [HL.out.len]; exact hk)])
  have hi2 : (w3.setCell ⟨b1, k, none⟩ (.int .u32 2)).cell? ⟨b2, 1, none⟩ = some (.int .i64 (k : Int)) := (HI.out.other b1 k (.int .u32 2) NE.out.2.1).cell 1 (v := .int .i64 (k : Int)) rfl
  clear hie
  have HC4 : Hid (CpuAt (w3.setCell ⟨b1, k, none⟩ (.int .u32 2)) b1 ⟨l.set k 2, pc, false, eie, epc, tv, cc, cd⟩) := hid (HC.out.sReg k hk 2)
  have HG4 : Hid (w.grownBy (w3.setCell ⟨b1, k, none⟩ (.int .u32 2)) none) := hid (grown_setN HG.out NE.out.2.2.1 _ _)
  have H34 : Hid (CpuAt (w3.setCell ⟨b1, k, none⟩ (.int .u32 2)) b3 zeroP) := hid (H3.out.other _ _ _ NE.out.1.symm)
  go_upto_region 20 with (fail)
  generalize (w3.setCell ⟨b1, k, none⟩ (.int .u32 2)) = w4 at HC4 HG4 H34 ⊢
  clear i0 i1 hr hf hie2 hr2 hi2
  have E4 := hid (H34.out.row (y := ⟨l.set k 2, pc, false, eie, epc, tv, cc, cd⟩) (by rw [List.length_set]; exact HL.out.len))
  have EG := hid (grown_setRow HG4.out NE.out.2.2.2 (cpuC ⟨l.set k 2, pc, false, eie, epc, tv, cc, cd⟩))
  go_wp2_with (first
    | (refine wpList_load_cpu rfl _ rfl rfl HC4.out ?_)
    | (refine wpList_store_cpu (y := ⟨l.set k 2, pc, false, eie, epc, tv, cc, cd⟩) rfl _ _ rfl rfl rfl H34.out (by rw [List.length_set]; exact HL.out.len) ?_)
    | fail)
  refine bodyPost_ret (results_cell_row Tryz.results112 _ _ b3 _ _ _ _ rfl E4.out.blk Tryz.underlying39 rfl (cpu_size_info E4.out.len)) rfl ?_
  have He : prcP now ⟨l, pc, false, eie, epc, tv, cc, cd⟩ op (k : Int) = ⟨l.set k 2, pc, false, eie, epc, tv, cc, cd⟩ := by unfold prcP setR; rw [if_neg (by rw [Hop.out]; decide), if_neg (by rw [Hop.out]; decide), if_neg (by rw [Hop.out]; decide), if_neg (by rw [Hop.out]; decide), if_neg (by rw [Hop.out]; decide), if_neg (by rw [Hop.out]; decide), if_pos Hop.out, Int.toNat_natCast]; simp
  rw [He]
  exact ⟨rfl, EG.out⟩
set_option maxRecDepth 100000 in
set_option maxHeartbeats 2000000 in
theorem prc66_t (hl : Regs l) (now op : Int) (_n0 : 0 ≤ now) (_n1 : now ≤ 1000000) (hop : op = 66) (k : Nat) (hk : k < 16) (b c im : Int) (w : World) :
    Calls Tryz.prog 112 #[.agg (cpuC ⟨l, pc, true, eie, epc, tv, cc, cd⟩), .int .i64 now, .agg (inC op (k : Int) b c im)] w fun e w' => e = .returned (.agg (cpuC (prcP now ⟨l, pc, true, eie, epc, tv, cc, cd⟩ op (k : Int)))) ∧ w.grownBy w' none := by
  have Hz := zero_cpu
  obtain ⟨b1, b2, b3, e1, e2, e3⟩ : ∃ b1 b2 b3, b1 = w.heap.size ∧ b2 = w.heap.size + 1 ∧ b3 = w.heap.size + 1 + 1 := ⟨_, _, _, rfl, rfl, rfl⟩
  have NE : Hid (b1 ≠ b3 ∧ b2 ≠ b1 ∧ w.heap.size ≤ b1 ∧ w.heap.size ≤ b3) := hid (by omega)
  have HC : Hid (CpuAt (((w.alloc (.cells (cpuC ⟨l, pc, true, eie, epc, tv, cc, cd⟩) 39)).alloc (.cells (inC op (k : Int) b c im) 112)).alloc (.cells (cpuC zeroP) 39)) b1 ⟨l, pc, true, eie, epc, tv, cc, cd⟩) := hid (by rw [e1]; exact ((CpuAt.new w hl.len).alloc _).alloc _)
  have HI : Hid (RwAt (((w.alloc (.cells (cpuC ⟨l, pc, true, eie, epc, tv, cc, cd⟩) 39)).alloc (.cells (inC op (k : Int) b c im) 112)).alloc (.cells (cpuC zeroP) 39)) b2 112 (inC op (k : Int) b c im)) := hid (by rw [e2]; exact (RwAt.new2 w _ _ _).alloc _)
  have H3 : Hid (CpuAt (((w.alloc (.cells (cpuC ⟨l, pc, true, eie, epc, tv, cc, cd⟩) 39)).alloc (.cells (inC op (k : Int) b c im) 112)).alloc (.cells (cpuC zeroP) 39)) b3 zeroP) := hid (by
    have := CpuAt.new2 (x := zeroP) (w.alloc (.cells (cpuC ⟨l, pc, true, eie, epc, tv, cc, cd⟩) 39)) (.cells (inC op (k : Int) b c im) 112) rfl
    rw [e3]; rw [World.size_alloc] at this; exact this)
  have HG := hid (grown_alloc (grown_alloc (grown_alloc (grown_refl w none) (.cells (cpuC ⟨l, pc, true, eie, epc, tv, cc, cd⟩) 39)) (.cells (inC op (k : Int) b c im) 112)) (.cells (cpuC zeroP) 39))
  have Hop := hid hop
  have t33 : (op == 33) = false := by rw [hop]; decide
  have t40 : (op == 40) = false := by rw [hop]; decide
  have t43 : (op == 43) = false := by rw [hop]; decide
  have t44 : (op == 44) = false := by rw [hop]; decide
  have t64 : (op == 64) = false := by rw [hop]; decide
  have t65 : (op == 65) = false := by rw [hop]; decide
  have t66 : (op == 66) = true := by rw [hop]; decide
  obtain ⟨R, hR⟩ : ∃ R, l[k]? = some R := ⟨_, List.getElem?_eq_getElem (by rw [hl.len]; exact hk)⟩
  have hRI : regI l (k : Int) = R := by unfold regI; rw [Int.toNat_natCast, List.getD_eq_getElem?_getD, hR]; rfl
  have R0 : 0 ≤ R := (hl.bd R (List.mem_of_getElem? hR)).1
  have R1 : R < 4294967296 := (hl.bd R (List.mem_of_getElem? hR)).2
  have HL := hid hl
  have HR := hid hR
  have HRI := hid hRI
  have k0 : (0 : Int) ≤ (k : Int) := by omega
  have k1 : (k : Int) < 16 := by omega
  clear hop hl hR hRI
  go_enter Tryz.func112, Tryz.ntmps112
  go_upto_region 1 with (fail)
  generalize (((w.alloc (.cells (cpuC ⟨l, pc, true, eie, epc, tv, cc, cd⟩) 39)).alloc (.cells (inC op (k : Int) b c im) 112)).alloc (.cells (cpuC zeroP) 39)) = w3 at HC HI H3 HG ⊢
  rw [← e3, ← e2, ← e1]
  clear e1 e2 e3
  have i0 := HI.out.cell 0 (v := .int .i64 op) rfl
  have i1 := HI.out.cell 1 (v := .int .i64 (k : Int)) rfl
  have hr := HC.out.regc HR.out
  have hf := fun j => HC.out.free j
  have hie := HC.out.ie
  have hie2 : (w3.setCell ⟨b1, k, none⟩ (.int .u32 2)).cell? ⟨b1, 17, none⟩ = some (.bool true) := (HC.out.sReg k hk 2).ie
  have hr2 : (w3.setCell ⟨b1, k, none⟩ (.int .u32 2)).cell? ⟨b1, k, none⟩ = some (.int .u32 2) := (HC.out.sReg k hk 2).regc (by rw [List.getElem?_set_self (by rw [HL.out.len]; exact hk)])
  have hi2 : (w3.setCell ⟨b1, k, none⟩ (.int .u32 2)).cell? ⟨b2, 1, none⟩ = some (.int .i64 (k : Int)) := (HI.out.other b1 k (.int .u32 2) NE.out.2.1).cell 1 (v := .int .i64 (k : Int)) rfl
  clear hie
  have HC4 : Hid (CpuAt ((w3.setCell ⟨b1, k, none⟩ (.int .u32 2)).setCell ⟨b1, k, none⟩ (.int .u32 3)) b1 ⟨(l.set k 2).set k 3, pc, true, eie, epc, tv, cc, cd⟩) := hid ((HC.out.sReg k hk 2).sReg k hk 3)
  have HG4 : Hid (w.grownBy ((w3.setCell ⟨b1, k, none⟩ (.int .u32 2)).setCell ⟨b1, k, none⟩ (.int .u32 3)) none) := hid (grown_setN (grown_setN HG.out NE.out.2.2.1 _ _) NE.out.2.2.1 _ _)
  have H34 : Hid (CpuAt ((w3.setCell ⟨b1, k, none⟩ (.int .u32 2)).setCell ⟨b1, k, none⟩ (.int .u32 3)) b3 zeroP) := hid ((H3.out.other _ _ _ NE.out.1.symm).other _ _ _ NE.out.1.symm)
  go_upto_region 20 with (fail)
  generalize ((w3.setCell ⟨b1, k, none⟩ (.int .u32 2)).setCell ⟨b1, k, none⟩ (.int .u32 3)) = w4 at HC4 HG4 H34 ⊢
  clear i0 i1 hr hf hie2 hr2 hi2
  have E4 := hid (H34.out.row (y := ⟨(l.set k 2).set k 3, pc, true, eie, epc, tv, cc, cd⟩) (by rw [List.length_set, List.length_set]; exact HL.out.len))
  have EG := hid (grown_setRow HG4.out NE.out.2.2.2 (cpuC ⟨(l.set k 2).set k 3, pc, true, eie, epc, tv, cc, cd⟩))
  go_wp2_with (first
    | (refine wpList_load_cpu rfl _ rfl rfl HC4.out ?_)
    | (refine wpList_store_cpu (y := ⟨(l.set k 2).set k 3, pc, true, eie, epc, tv, cc, cd⟩) rfl _ _ rfl rfl rfl H34.out (by rw [List.length_set, List.length_set]; exact HL.out.len) ?_)
    | fail)
  refine bodyPost_ret (results_cell_row Tryz.results112 _ _ b3 _ _ _ _ rfl E4.out.blk Tryz.underlying39 rfl (cpu_size_info E4.out.len)) rfl ?_
  have He : prcP now ⟨l, pc, true, eie, epc, tv, cc, cd⟩ op (k : Int) = ⟨(l.set k 2).set k 3, pc, true, eie, epc, tv, cc, cd⟩ := by unfold prcP setR; rw [if_neg (by rw [Hop.out]; decide), if_neg (by rw [Hop.out]; decide), if_neg (by rw [Hop.out]; decide), if_neg (by rw [Hop.out]; decide), if_neg (by rw [Hop.out]; decide), if_neg (by rw [Hop.out]; decide), if_pos Hop.out, Int.toNat_natCast]; simp
  rw [He]
  exact ⟨rfl, EG.out⟩
set_option maxRecDepth 100000 in
set_option maxHeartbeats 2000000 in
theorem prc67 (hl : Regs l) (now op : Int) (_n0 : 0 ≤ now) (_n1 : now ≤ 1000000) (hop : op = 67) (k : Nat) (hk : k < 16) (b c im : Int) (w : World) :
    Calls Tryz.prog 112 #[.agg (cpuC ⟨l, pc, ie, eie, epc, tv, cc, cd⟩), .int .i64 now, .agg (inC op (k : Int) b c im)] w fun e w' => e = .returned (.agg (cpuC (prcP now ⟨l, pc, ie, eie, epc, tv, cc, cd⟩ op (k : Int)))) ∧ w.grownBy w' none := by
  have Hz := zero_cpu
  obtain ⟨b1, b2, b3, e1, e2, e3⟩ : ∃ b1 b2 b3, b1 = w.heap.size ∧ b2 = w.heap.size + 1 ∧ b3 = w.heap.size + 1 + 1 := ⟨_, _, _, rfl, rfl, rfl⟩
  have NE : Hid (b1 ≠ b3 ∧ b2 ≠ b1 ∧ w.heap.size ≤ b1 ∧ w.heap.size ≤ b3) := hid (by omega)
  have HC : Hid (CpuAt (((w.alloc (.cells (cpuC ⟨l, pc, ie, eie, epc, tv, cc, cd⟩) 39)).alloc (.cells (inC op (k : Int) b c im) 112)).alloc (.cells (cpuC zeroP) 39)) b1 ⟨l, pc, ie, eie, epc, tv, cc, cd⟩) := hid (by rw [e1]; exact ((CpuAt.new w hl.len).alloc _).alloc _)
  have HI : Hid (RwAt (((w.alloc (.cells (cpuC ⟨l, pc, ie, eie, epc, tv, cc, cd⟩) 39)).alloc (.cells (inC op (k : Int) b c im) 112)).alloc (.cells (cpuC zeroP) 39)) b2 112 (inC op (k : Int) b c im)) := hid (by rw [e2]; exact (RwAt.new2 w _ _ _).alloc _)
  have H3 : Hid (CpuAt (((w.alloc (.cells (cpuC ⟨l, pc, ie, eie, epc, tv, cc, cd⟩) 39)).alloc (.cells (inC op (k : Int) b c im) 112)).alloc (.cells (cpuC zeroP) 39)) b3 zeroP) := hid (by
    have := CpuAt.new2 (x := zeroP) (w.alloc (.cells (cpuC ⟨l, pc, ie, eie, epc, tv, cc, cd⟩) 39)) (.cells (inC op (k : Int) b c im) 112) rfl
    rw [e3]; rw [World.size_alloc] at this; exact this)
  have HG := hid (grown_alloc (grown_alloc (grown_alloc (grown_refl w none) (.cells (cpuC ⟨l, pc, ie, eie, epc, tv, cc, cd⟩) 39)) (.cells (inC op (k : Int) b c im) 112)) (.cells (cpuC zeroP) 39))
  have Hop := hid hop
  have t33 : (op == 33) = false := by rw [hop]; decide
  have t40 : (op == 40) = false := by rw [hop]; decide
  have t43 : (op == 43) = false := by rw [hop]; decide
  have t44 : (op == 44) = false := by rw [hop]; decide
  have t64 : (op == 64) = false := by rw [hop]; decide
  have t65 : (op == 65) = false := by rw [hop]; decide
  have t66 : (op == 66) = false := by rw [hop]; decide
  have t67 : (op == 67) = true := by rw [hop]; decide
  obtain ⟨R, hR⟩ : ∃ R, l[k]? = some R := ⟨_, List.getElem?_eq_getElem (by rw [hl.len]; exact hk)⟩
  have hRI : regI l (k : Int) = R := by unfold regI; rw [Int.toNat_natCast, List.getD_eq_getElem?_getD, hR]; rfl
  have R0 : 0 ≤ R := (hl.bd R (List.mem_of_getElem? hR)).1
  have R1 : R < 4294967296 := (hl.bd R (List.mem_of_getElem? hR)).2
  have HL := hid hl
  have HR := hid hR
  have HRI := hid hRI
  have k0 : (0 : Int) ≤ (k : Int) := by omega
  have k1 : (k : Int) < 16 := by omega
  clear hop hl hR hRI
  go_enter Tryz.func112, Tryz.ntmps112
  go_upto_region 1 with (fail)
  generalize (((w.alloc (.cells (cpuC ⟨l, pc, ie, eie, epc, tv, cc, cd⟩) 39)).alloc (.cells (inC op (k : Int) b c im) 112)).alloc (.cells (cpuC zeroP) 39)) = w3 at HC HI H3 HG ⊢
  rw [← e3, ← e2, ← e1]
  clear e1 e2 e3
  have i0 := HI.out.cell 0 (v := .int .i64 op) rfl
  have i1 := HI.out.cell 1 (v := .int .i64 (k : Int)) rfl
  have hr := HC.out.regc HR.out
  have hf := fun j => HC.out.free j
  have hie := HC.out.ie
  have HC4 : Hid (CpuAt (w3.setCell ⟨b1, 17, none⟩ (.bool (R % 2 == 1))) b1 ⟨l, pc, R % 2 == 1, eie, epc, tv, cc, cd⟩) := hid (HC.out.sIe (R % 2 == 1))
  have HG4 : Hid (w.grownBy (w3.setCell ⟨b1, 17, none⟩ (.bool (R % 2 == 1))) none) := hid (grown_setN HG.out NE.out.2.2.1 _ _)
  have H34 : Hid (CpuAt (w3.setCell ⟨b1, 17, none⟩ (.bool (R % 2 == 1))) b3 zeroP) := hid (H3.out.other _ _ _ NE.out.1.symm)
  go_upto_region 20 with (fail)
  generalize (w3.setCell ⟨b1, 17, none⟩ (.bool (R % 2 == 1))) = w4 at HC4 HG4 H34 ⊢
  clear i0 i1 hr hf hie
  have E4 := hid (H34.out.row (y := ⟨l, pc, R % 2 == 1, eie, epc, tv, cc, cd⟩) HL.out.len)
  have EG := hid (grown_setRow HG4.out NE.out.2.2.2 (cpuC ⟨l, pc, R % 2 == 1, eie, epc, tv, cc, cd⟩))
  go_wp2_with (first
    | (refine wpList_load_cpu rfl _ rfl rfl HC4.out ?_)
    | (refine wpList_store_cpu (y := ⟨l, pc, R % 2 == 1, eie, epc, tv, cc, cd⟩) rfl _ _ rfl rfl rfl H34.out HL.out.len ?_)
    | fail)
  refine bodyPost_ret (results_cell_row Tryz.results112 _ _ b3 _ _ _ _ rfl E4.out.blk Tryz.underlying39 rfl (cpu_size_info E4.out.len)) rfl ?_
  have He : prcP now ⟨l, pc, ie, eie, epc, tv, cc, cd⟩ op (k : Int) = ⟨l, pc, R % 2 == 1, eie, epc, tv, cc, cd⟩ := by unfold prcP; rw [if_neg (by rw [Hop.out]; decide), if_neg (by rw [Hop.out]; decide), if_neg (by rw [Hop.out]; decide), if_neg (by rw [Hop.out]; decide), if_neg (by rw [Hop.out]; decide), if_neg (by rw [Hop.out]; decide), if_neg (by rw [Hop.out]; decide), if_pos Hop.out, HRI.out]; rfl
  rw [He]
  exact ⟨rfl, EG.out⟩
end
end Go.Proofs.YtkkbhifplbleiaaGreatDoor
