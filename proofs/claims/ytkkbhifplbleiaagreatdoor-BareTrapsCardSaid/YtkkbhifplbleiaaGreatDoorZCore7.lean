/- core's move: contracts. (Made by a program.) -/
import Derived.Test.YtkkbhifplbleiaaGreatDoorZCore6
namespace Go.Proofs.YtkkbhifplbleiaaGreatDoor
open Go.RowKit
theorem addr_wrap {R c : Int} (_ : 0 ≤ c) (_ : c ≤ 255) : IntKind.u32.wrap (R + IntKind.u32.wrap c) = (R + c) % 4294967296 := by
  rw [IntKind.wrap_u32, IntKind.wrap_u32]; omega
theorem u32_id {c : Int} (c0 : 0 ≤ c) (c1 : c ≤ 255) : IntKind.u32.wrap c = c := by rw [IntKind.wrap_u32]; omega
theorem addr_wrap2 (R c : Int) : IntKind.u32.wrap (R + c) = (R + c) % 4294967296 := by rw [IntKind.wrap_u32]
theorem MemAt.keptL {w w1 : World} {m b n c : Nat} {xs : List Int} {R : List Nat} (h : MemAt w m b n c xs) (hg : Lv w w1 R) (hm : m ∉ R) (hb : b ∉ R) : MemAt w1 m b n c xs := by
  obtain ⟨cur, hb', hs, ht⟩ := h.hb
  exact { h with hm := (hg.block _ h.mlt hm).trans h.hm, hb := ⟨cur, (hg.block _ h.blt hb).trans hb', hs, ht⟩ }
theorem Lv.afterR {w0 w w1 : World} {R : List Nat} {r : Option Nat} (h0 : w0.grownBy w r) (h : Lv w w1 R) (hR : ∀ i ∈ R, w0.heap.size ≤ i) : w0.grownBy w1 r :=
  ⟨h.os.trans h0.os, h.tape.trans h0.tape, h.output.trans h0.output, Nat.le_trans h0.size h.size, fun i hi hr => (h.block i (Nat.lt_of_lt_of_le hi h0.size) (fun e => by have := hR i e; omega)).trans (h0.block i hi hr)⟩
theorem mem_word {xs : List Int} {n : Nat} (hl : xs.length = n * 16) {root addr : Int} {user : Bool} (hb : atB xs n root addr false user = true) : ∃ k : Nat, atV xs n root addr false user = (k : Int) ∧ xs[k]? = some (rdV xs n root addr user) := by
  obtain ⟨k, hk, hk2⟩ := at_in hb
  refine ⟨k, hk, ?_⟩
  unfold rdV
  rw [if_pos hb]
  have hx : xs[k]? = some xs[k] := List.getElem?_eq_getElem (by omega)
  rw [wordI_get hx hk, hx]
section
variable {m bm n cap : Nat} {xs : List Int} {l : List Int} {pc : Int} {ie eie : Bool} {epc tv cc cd im ln c : Int} {W : World}
set_option maxRecDepth 100000 in
set_option maxHeartbeats 4000000 in
theorem move_no12 (h : MemAt W m bm n cap xs) (hu : U32s xs) (hl : Regs l) (root : Int) (user : Bool) (ka kb : Nat) (_ : ka < 16) (hb : kb < 16) (c0 : 0 ≤ c) (c1 : c ≤ 255) (AD : Int) (hA : (regI l (kb : Int) + c) % 4294967296 = AD) (hp : atB xs n root AD false user = false) :
    Calls Tryz.prog 124 #[.agg #[.pointer (some ⟨m, 0, none⟩), .int .i64 root, .bool user], .agg (cpuC ⟨l, pc, ie, eie, epc, tv, cc, cd⟩), .agg (spC 0 0 12 (ka : Int) (kb : Int) c im ln)] W fun e w' => e = .returned (.tuple #[.agg (cpuC ⟨l, pc, ie, eie, epc, tv, cc, cd⟩), .agg (spC 1 AD 12 (ka : Int) (kb : Int) c im ln)]) ∧ W.grownBy w' none := by
  have hkb0 : (0 : Int) ≤ (kb : Int) := by omega
  have hkb1 : (kb : Int) < 16 := by omega
  have A0 : 0 ≤ AD := by rw [← hA]; omega
  have A1 : AD < 4294967296 := by rw [← hA]; omega
  have hw : IntKind.u32.wrap (regI l (kb : Int) + c) = AD := (addr_wrap2 _ _).trans hA
  have hwc : IntKind.u32.wrap c = c := u32_id c0 c1
  have hR := hl.get (k := (kb : Int)) (by omega) (by omega)
  rw [Int.toNat_natCast] at hR
  have HR := hid hR
  clear hR
  have HB1 := hid hp
  obtain ⟨V0, hV0⟩ : ∃ V, atV xs n root AD false user = V := ⟨_, rfl⟩
  have HV1 := hid hV0
  clear hV0
  clear hp
  have Hz := zero_cpu
  have Hz2 := zero_stop
  obtain ⟨b0, b1, b2, b3, b4, e0, e1, e2, e3, e4⟩ : ∃ b0 b1 b2 b3 b4, b0 = W.heap.size ∧ b1 = b0 + 1 ∧ b2 = b1 + 1 ∧ b3 = b2 + 1 ∧ b4 = b3 + 1 := ⟨_, _, _, _, _, rfl, rfl, rfl, rfl, rfl⟩
  have HO : Hid (Ord4 b1 b2 b3 b4) := hid (by unfold Ord4; omega)
  have NV : Hid (b0 ∉ [b1, b2, b3, b4]) := hid (by simp only [List.mem_cons, List.not_mem_nil, or_false]; omega)
  have HB : Hid (∀ i ∈ [b1, b2, b3, b4], W.heap.size ≤ i) := hid (by simp only [List.mem_cons, List.not_mem_nil, or_false]; omega)
  have HF := hid (FAt.init (W.alloc (.cells #[.pointer (some ⟨m, 0, none⟩), .int .i64 root, .bool user] 168)) 138 (x := ⟨l, pc, ie, eie, epc, tv, cc, cd⟩) hl.len (spC 0 0 12 (ka : Int) (kb : Int) c im ln))
  have HV : Hid (RwAt (((((W.alloc (.cells #[.pointer (some ⟨m, 0, none⟩), .int .i64 root, .bool user] 168)).alloc (.cells (cpuC ⟨l, pc, ie, eie, epc, tv, cc, cd⟩) 39)).alloc (.cells (spC 0 0 12 (ka : Int) (kb : Int) c im ln) 138)).alloc (.cells (cpuC zeroP) 39)).alloc (.cells (spC 0 0 0 0 0 0 0 0) 138)) b0 168 #[.pointer (some ⟨m, 0, none⟩), .int .i64 root, .bool user]) := hid (by rw [e0]; exact ((((RwAt.new _ _ _).alloc _).alloc _).alloc _).alloc _)
  have HG : Hid (W.grownBy (((((W.alloc (.cells #[.pointer (some ⟨m, 0, none⟩), .int .i64 root, .bool user] 168)).alloc (.cells (cpuC ⟨l, pc, ie, eie, epc, tv, cc, cd⟩) 39)).alloc (.cells (spC 0 0 12 (ka : Int) (kb : Int) c im ln) 138)).alloc (.cells (cpuC zeroP) 39)).alloc (.cells (spC 0 0 0 0 0 0 0 0) 138)) none) := hid (grown_alloc (grown_alloc (grown_alloc (grown_alloc (grown_alloc (grown_refl _ _) _) _) _) _) _)
  have HM := hid (h.kept0 HG.out)
  simp only [World.size_alloc] at HF
  rw [← e0, ← e1, ← e2, ← e3, ← e4] at HF
  have HL := hid hl
  have Hu := hid hu
  clear h hl hu
  go_enter Tryz.func124, Tryz.ntmps124
  go_upto_region 1 with (fail)
  generalize (((((W.alloc (.cells #[.pointer (some ⟨m, 0, none⟩), .int .i64 root, .bool user] 168)).alloc (.cells (cpuC ⟨l, pc, ie, eie, epc, tv, cc, cd⟩) 39)).alloc (.cells (spC 0 0 12 (ka : Int) (kb : Int) c im ln) 138)).alloc (.cells (cpuC zeroP) 39)).alloc (.cells (spC 0 0 0 0 0 0 0 0) 138)) = w4 at HF HV HM HG ⊢
  rw [← e0, ← e1, ← e2, ← e3, ← e4]
  clear e0 e1 e2 e3 e4
  have k2 : w4.cell? ⟨b2, 2, none⟩ = some (.int .i64 12) := HF.out.hs.cell 2 rfl
  have k4 : w4.cell? ⟨b2, 4, none⟩ = some (.int .i64 (kb : Int)) := HF.out.hs.cell 4 rfl
  have k5 : w4.cell? ⟨b2, 5, none⟩ = some (.int .i64 c) := HF.out.hs.cell 5 rfl
  have kr : w4.cell? ⟨b1, kb, none⟩ = some (.int .u32 (regI l (kb : Int))) := HF.out.hc.regc HR.out
  go_upto_region 2 with (fail)
  go_quiet (fail)
  replace HF := hid (HF.out.kept (grown_drewN (grown_refl _ none) nq))
  replace HV := hid (HV.out.kept0 (grown_drewN (grown_refl _ none) nq))
  replace HM := hid (HM.out.kept0 (grown_drewN (grown_refl _ none) nq))
  replace HG := hid (grown_drewN HG.out nq)
  clear k2 k4 k5 kr
  generalize w4.drewN nq = w5 at HF HV HM HG ⊢
  go_wp2_with (first
    | (refine wpList_load_rw rfl 168 _ rfl rfl HV.out rfl Tryz.underlying168 (by kernel_rfl) ?_)
    | fail)
  refine (place_of HM.out Hu.out root AD A0 A1 false user _ false HB1.out HV1.out).mono ?_; rintro e w6 ⟨rfl, hg⟩
  replace HF := hid (HF.out.kept hg)
  replace HV := hid (HV.out.kept0 hg)
  replace HM := hid (HM.out.kept0 hg)
  replace HG := hid (grown_trans HG.out hg)
  clear hg
  have k0 : w6.cell? ⟨b2, 0, none⟩ = some (.int .i64 0) := HF.out.hs.cell 0 rfl
  have k1 : w6.cell? ⟨b2, 1, none⟩ = some (.int .u32 0) := HF.out.hs.cell 1 rfl
  have kf := fun j => HF.out.hs.free j
  have HF2 := hid ((HF.out.sCa HO.out 1).sAd HO.out AD)
  go_upto_region 6 with (fail)
  clear k0 k1 kf
  generalize (w6.setCell ⟨b2, 0, none⟩ (.int .i64 1)).setCell ⟨b2, 1, none⟩ (.int .u32 AD) = w7 at HF2 ⊢
  go_upto_region 6 with (fail)
  refine region_ret2 HF2.out HO.out rfl (sp_one _ _ _ _ _ _ _ _) rfl rfl rfl rfl rfl rfl rfl rfl rfl rfl rfl rfl rfl (by kernel_rfl) (by kernel_rfl) (by kernel_rfl) (by kernel_rfl) rfl Tryz.underlying138 (by kernel_rfl) rfl rfl rfl rfl rfl rfl (fun _ _ _ h => h) (fun _ _ _ h => h) ?_
  intro w9 hE
  have HE := hid hE
  clear hE
  go_wp2
  refine bodyPost_ret (HE.out.results Tryz.results124 _ rfl rfl rfl rfl Tryz.underlying39 Tryz.underlying138 (cpu_size_info HE.out.r1.len) (by kernel_rfl)) rfl ?_
  exact ⟨rfl, Lv.after HG.out HE.out.lv HB.out⟩
set_option maxRecDepth 100000 in
set_option maxHeartbeats 4000000 in
theorem move_no13 (h : MemAt W m bm n cap xs) (hu : U32s xs) (hl : Regs l) (root : Int) (user : Bool) (ka kb : Nat) (_ : ka < 16) (hb : kb < 16) (c0 : 0 ≤ c) (c1 : c ≤ 255) (AD : Int) (hA : (regI l (kb : Int) + c) % 4294967296 = AD) (hp : atB xs n root AD true user = false) :
    Calls Tryz.prog 124 #[.agg #[.pointer (some ⟨m, 0, none⟩), .int .i64 root, .bool user], .agg (cpuC ⟨l, pc, ie, eie, epc, tv, cc, cd⟩), .agg (spC 0 0 13 (ka : Int) (kb : Int) c im ln)] W fun e w' => e = .returned (.tuple #[.agg (cpuC ⟨l, pc, ie, eie, epc, tv, cc, cd⟩), .agg (spC 1 AD 13 (ka : Int) (kb : Int) c im ln)]) ∧ W.grownBy w' none := by
  have hkb0 : (0 : Int) ≤ (kb : Int) := by omega
  have hkb1 : (kb : Int) < 16 := by omega
  have A0 : 0 ≤ AD := by rw [← hA]; omega
  have A1 : AD < 4294967296 := by rw [← hA]; omega
  have hw : IntKind.u32.wrap (regI l (kb : Int) + c) = AD := (addr_wrap2 _ _).trans hA
  have hwc : IntKind.u32.wrap c = c := u32_id c0 c1
  have hR := hl.get (k := (kb : Int)) (by omega) (by omega)
  rw [Int.toNat_natCast] at hR
  have HR := hid hR
  clear hR
  have HB1 := hid hp
  obtain ⟨V0, hV0⟩ : ∃ V, atV xs n root AD true user = V := ⟨_, rfl⟩
  have HV1 := hid hV0
  clear hV0
  clear hp
  have Hz := zero_cpu
  have Hz2 := zero_stop
  obtain ⟨b0, b1, b2, b3, b4, e0, e1, e2, e3, e4⟩ : ∃ b0 b1 b2 b3 b4, b0 = W.heap.size ∧ b1 = b0 + 1 ∧ b2 = b1 + 1 ∧ b3 = b2 + 1 ∧ b4 = b3 + 1 := ⟨_, _, _, _, _, rfl, rfl, rfl, rfl, rfl⟩
  have HO : Hid (Ord4 b1 b2 b3 b4) := hid (by unfold Ord4; omega)
  have NV : Hid (b0 ∉ [b1, b2, b3, b4]) := hid (by simp only [List.mem_cons, List.not_mem_nil, or_false]; omega)
  have HB : Hid (∀ i ∈ [b1, b2, b3, b4], W.heap.size ≤ i) := hid (by simp only [List.mem_cons, List.not_mem_nil, or_false]; omega)
  have HF := hid (FAt.init (W.alloc (.cells #[.pointer (some ⟨m, 0, none⟩), .int .i64 root, .bool user] 168)) 138 (x := ⟨l, pc, ie, eie, epc, tv, cc, cd⟩) hl.len (spC 0 0 13 (ka : Int) (kb : Int) c im ln))
  have HV : Hid (RwAt (((((W.alloc (.cells #[.pointer (some ⟨m, 0, none⟩), .int .i64 root, .bool user] 168)).alloc (.cells (cpuC ⟨l, pc, ie, eie, epc, tv, cc, cd⟩) 39)).alloc (.cells (spC 0 0 13 (ka : Int) (kb : Int) c im ln) 138)).alloc (.cells (cpuC zeroP) 39)).alloc (.cells (spC 0 0 0 0 0 0 0 0) 138)) b0 168 #[.pointer (some ⟨m, 0, none⟩), .int .i64 root, .bool user]) := hid (by rw [e0]; exact ((((RwAt.new _ _ _).alloc _).alloc _).alloc _).alloc _)
  have HG : Hid (W.grownBy (((((W.alloc (.cells #[.pointer (some ⟨m, 0, none⟩), .int .i64 root, .bool user] 168)).alloc (.cells (cpuC ⟨l, pc, ie, eie, epc, tv, cc, cd⟩) 39)).alloc (.cells (spC 0 0 13 (ka : Int) (kb : Int) c im ln) 138)).alloc (.cells (cpuC zeroP) 39)).alloc (.cells (spC 0 0 0 0 0 0 0 0) 138)) none) := hid (grown_alloc (grown_alloc (grown_alloc (grown_alloc (grown_alloc (grown_refl _ _) _) _) _) _) _)
  have HM := hid (h.kept0 HG.out)
  simp only [World.size_alloc] at HF
  rw [← e0, ← e1, ← e2, ← e3, ← e4] at HF
  have HL := hid hl
  have Hu := hid hu
  clear h hl hu
  go_enter Tryz.func124, Tryz.ntmps124
  go_upto_region 1 with (fail)
  generalize (((((W.alloc (.cells #[.pointer (some ⟨m, 0, none⟩), .int .i64 root, .bool user] 168)).alloc (.cells (cpuC ⟨l, pc, ie, eie, epc, tv, cc, cd⟩) 39)).alloc (.cells (spC 0 0 13 (ka : Int) (kb : Int) c im ln) 138)).alloc (.cells (cpuC zeroP) 39)).alloc (.cells (spC 0 0 0 0 0 0 0 0) 138)) = w4 at HF HV HM HG ⊢
  rw [← e0, ← e1, ← e2, ← e3, ← e4]
  clear e0 e1 e2 e3 e4
  have k2 : w4.cell? ⟨b2, 2, none⟩ = some (.int .i64 13) := HF.out.hs.cell 2 rfl
  have k4 : w4.cell? ⟨b2, 4, none⟩ = some (.int .i64 (kb : Int)) := HF.out.hs.cell 4 rfl
  have k5 : w4.cell? ⟨b2, 5, none⟩ = some (.int .i64 c) := HF.out.hs.cell 5 rfl
  have kr : w4.cell? ⟨b1, kb, none⟩ = some (.int .u32 (regI l (kb : Int))) := HF.out.hc.regc HR.out
  go_upto_region 2 with (fail)
  go_quiet (fail)
  replace HF := hid (HF.out.kept (grown_drewN (grown_refl _ none) nq))
  replace HV := hid (HV.out.kept0 (grown_drewN (grown_refl _ none) nq))
  replace HM := hid (HM.out.kept0 (grown_drewN (grown_refl _ none) nq))
  replace HG := hid (grown_drewN HG.out nq)
  clear k2 k4 k5 kr
  generalize w4.drewN nq = w5 at HF HV HM HG ⊢
  go_wp2_with (first
    | (refine wpList_load_rw rfl 168 _ rfl rfl HV.out rfl Tryz.underlying168 (by kernel_rfl) ?_)
    | fail)
  refine (place_of HM.out Hu.out root AD A0 A1 true user _ false HB1.out HV1.out).mono ?_; rintro e w6 ⟨rfl, hg⟩
  replace HF := hid (HF.out.kept hg)
  replace HV := hid (HV.out.kept0 hg)
  replace HM := hid (HM.out.kept0 hg)
  replace HG := hid (grown_trans HG.out hg)
  clear hg
  have k0 : w6.cell? ⟨b2, 0, none⟩ = some (.int .i64 0) := HF.out.hs.cell 0 rfl
  have k1 : w6.cell? ⟨b2, 1, none⟩ = some (.int .u32 0) := HF.out.hs.cell 1 rfl
  have kf := fun j => HF.out.hs.free j
  have HF2 := hid ((HF.out.sCa HO.out 1).sAd HO.out AD)
  go_upto_region 6 with (fail)
  clear k0 k1 kf
  generalize (w6.setCell ⟨b2, 0, none⟩ (.int .i64 1)).setCell ⟨b2, 1, none⟩ (.int .u32 AD) = w7 at HF2 ⊢
  go_upto_region 6 with (fail)
  refine region_ret2 HF2.out HO.out rfl (sp_one _ _ _ _ _ _ _ _) rfl rfl rfl rfl rfl rfl rfl rfl rfl rfl rfl rfl rfl (by kernel_rfl) (by kernel_rfl) (by kernel_rfl) (by kernel_rfl) rfl Tryz.underlying138 (by kernel_rfl) rfl rfl rfl rfl rfl rfl (fun _ _ _ h => h) (fun _ _ _ h => h) ?_
  intro w9 hE
  have HE := hid hE
  clear hE
  go_wp2
  refine bodyPost_ret (HE.out.results Tryz.results124 _ rfl rfl rfl rfl Tryz.underlying39 Tryz.underlying138 (cpu_size_info HE.out.r1.len) (by kernel_rfl)) rfl ?_
  exact ⟨rfl, Lv.after HG.out HE.out.lv HB.out⟩
set_option maxRecDepth 100000 in
set_option maxHeartbeats 4000000 in
theorem move_ld (h : MemAt W m bm n cap xs) (hu : U32s xs) (hl : Regs l) (root : Int) (user : Bool) (ka kb : Nat) (ha : ka < 16) (hb : kb < 16) (c0 : 0 ≤ c) (c1 : c ≤ 255) (AD : Int) (hA : (regI l (kb : Int) + c) % 4294967296 = AD) (hp : atB xs n root AD false user = true) (X : Int) (hX : rdV xs n root AD user = X) :
    Calls Tryz.prog 124 #[.agg #[.pointer (some ⟨m, 0, none⟩), .int .i64 root, .bool user], .agg (cpuC ⟨l, pc, ie, eie, epc, tv, cc, cd⟩), .agg (spC 0 0 12 (ka : Int) (kb : Int) c im ln)] W fun e w' => e = .returned (.tuple #[.agg (cpuC ⟨l.set ka X, (pc + ln) % 4294967296, ie, eie, epc, tv, cc, cd⟩), .agg (spC 0 0 12 (ka : Int) (kb : Int) c im ln)]) ∧ W.grownBy w' none := by
  have hkb0 : (0 : Int) ≤ (kb : Int) := by omega
  have hkb1 : (kb : Int) < 16 := by omega
  have A0 : 0 ≤ AD := by rw [← hA]; omega
  have A1 : AD < 4294967296 := by rw [← hA]; omega
  have hw : IntKind.u32.wrap (regI l (kb : Int) + c) = AD := (addr_wrap2 _ _).trans hA
  have hwc : IntKind.u32.wrap c = c := u32_id c0 c1
  have hR := hl.get (k := (kb : Int)) (by omega) (by omega)
  rw [Int.toNat_natCast] at hR
  have HR := hid hR
  clear hR
  have HB1 := hid hp
  obtain ⟨k, hk, hx⟩ := mem_word h.len hp
  obtain ⟨V, hV⟩ : ∃ V, atV xs n root AD false user = V := ⟨_, rfl⟩
  rw [hX] at hx
  rw [hV] at hk
  have HK := hid hk
  have Hx := hid hx
  have HV1 := hid hV
  clear hk hx hV hp hX
  obtain ⟨y, hy⟩ : ∃ y, l[ka]? = some y := ⟨_, List.getElem?_eq_getElem (by rw [hl.len]; exact ha)⟩
  have HY := hid hy
  clear hy
  have hka0 : (0 : Int) ≤ (ka : Int) := by omega
  have hka1 : (ka : Int) < 16 := by omega
  have Hz := zero_cpu
  have Hz2 := zero_stop
  obtain ⟨b0, b1, b2, b3, b4, e0, e1, e2, e3, e4⟩ : ∃ b0 b1 b2 b3 b4, b0 = W.heap.size ∧ b1 = b0 + 1 ∧ b2 = b1 + 1 ∧ b3 = b2 + 1 ∧ b4 = b3 + 1 := ⟨_, _, _, _, _, rfl, rfl, rfl, rfl, rfl⟩
  have HO : Hid (Ord4 b1 b2 b3 b4) := hid (by unfold Ord4; omega)
  have NV : Hid (b0 ∉ [b1, b2, b3, b4]) := hid (by simp only [List.mem_cons, List.not_mem_nil, or_false]; omega)
  have HB : Hid (∀ i ∈ [b1, b2, b3, b4], W.heap.size ≤ i) := hid (by simp only [List.mem_cons, List.not_mem_nil, or_false]; omega)
  have HF := hid (FAt.init (W.alloc (.cells #[.pointer (some ⟨m, 0, none⟩), .int .i64 root, .bool user] 168)) 138 (x := ⟨l, pc, ie, eie, epc, tv, cc, cd⟩) hl.len (spC 0 0 12 (ka : Int) (kb : Int) c im ln))
  have HV : Hid (RwAt (((((W.alloc (.cells #[.pointer (some ⟨m, 0, none⟩), .int .i64 root, .bool user] 168)).alloc (.cells (cpuC ⟨l, pc, ie, eie, epc, tv, cc, cd⟩) 39)).alloc (.cells (spC 0 0 12 (ka : Int) (kb : Int) c im ln) 138)).alloc (.cells (cpuC zeroP) 39)).alloc (.cells (spC 0 0 0 0 0 0 0 0) 138)) b0 168 #[.pointer (some ⟨m, 0, none⟩), .int .i64 root, .bool user]) := hid (by rw [e0]; exact ((((RwAt.new _ _ _).alloc _).alloc _).alloc _).alloc _)
  have HG : Hid (W.grownBy (((((W.alloc (.cells #[.pointer (some ⟨m, 0, none⟩), .int .i64 root, .bool user] 168)).alloc (.cells (cpuC ⟨l, pc, ie, eie, epc, tv, cc, cd⟩) 39)).alloc (.cells (spC 0 0 12 (ka : Int) (kb : Int) c im ln) 138)).alloc (.cells (cpuC zeroP) 39)).alloc (.cells (spC 0 0 0 0 0 0 0 0) 138)) none) := hid (grown_alloc (grown_alloc (grown_alloc (grown_alloc (grown_alloc (grown_refl _ _) _) _) _) _) _)
  have HM := hid (h.kept0 HG.out)
  simp only [World.size_alloc] at HF
  rw [← e0, ← e1, ← e2, ← e3, ← e4] at HF
  have HL := hid hl
  have Hu := hid hu
  clear h hl hu
  go_enter Tryz.func124, Tryz.ntmps124
  go_upto_region 1 with (fail)
  generalize (((((W.alloc (.cells #[.pointer (some ⟨m, 0, none⟩), .int .i64 root, .bool user] 168)).alloc (.cells (cpuC ⟨l, pc, ie, eie, epc, tv, cc, cd⟩) 39)).alloc (.cells (spC 0 0 12 (ka : Int) (kb : Int) c im ln) 138)).alloc (.cells (cpuC zeroP) 39)).alloc (.cells (spC 0 0 0 0 0 0 0 0) 138)) = w4 at HF HV HM HG ⊢
  rw [← e0, ← e1, ← e2, ← e3, ← e4]
  clear e0 e1 e2 e3 e4
  have k2 : w4.cell? ⟨b2, 2, none⟩ = some (.int .i64 12) := HF.out.hs.cell 2 rfl
  have k4 : w4.cell? ⟨b2, 4, none⟩ = some (.int .i64 (kb : Int)) := HF.out.hs.cell 4 rfl
  have k5 : w4.cell? ⟨b2, 5, none⟩ = some (.int .i64 c) := HF.out.hs.cell 5 rfl
  have kr : w4.cell? ⟨b1, kb, none⟩ = some (.int .u32 (regI l (kb : Int))) := HF.out.hc.regc HR.out
  go_upto_region 2 with (fail)
  go_quiet (fail)
  replace HF := hid (HF.out.kept (grown_drewN (grown_refl _ none) nq))
  replace HV := hid (HV.out.kept0 (grown_drewN (grown_refl _ none) nq))
  replace HM := hid (HM.out.kept0 (grown_drewN (grown_refl _ none) nq))
  replace HG := hid (grown_drewN HG.out nq)
  clear k2 k4 k5 kr
  generalize w4.drewN nq = w5 at HF HV HM HG ⊢
  go_wp2_with (first
    | (refine wpList_load_rw rfl 168 _ rfl rfl HV.out rfl Tryz.underlying168 (by kernel_rfl) ?_)
    | fail)
  refine (place_of HM.out Hu.out root AD A0 A1 false user V true HB1.out HV1.out).mono ?_; rintro e w6 ⟨rfl, hg⟩
  replace HF := hid (HF.out.kept hg)
  replace HV := hid (HV.out.kept0 hg)
  replace HM := hid (HM.out.kept0 hg)
  replace HG := hid (grown_trans HG.out hg)
  clear hg
  have k3 : w6.cell? ⟨b2, 3, none⟩ = some (.int .i64 (ka : Int)) := HF.out.hs.cell 3 rfl
  have kv : w6.cell? ⟨b0, 0, none⟩ = some (.pointer (some ⟨m, 0, none⟩)) := HV.out.cell 0 rfl
  have HFd := hid HF.out.drew
  have HVd := hid (HV.out.kept0 (grown_drew (grown_refl _ none)))
  have N01 : Hid (b0 ≠ b1) := hid (fun e => NV.out (by simp [e]))
  have kr : w6.cell? ⟨b1, ka, none⟩ = some (.int .u32 y) := HF.out.hc.regc HY.out
  have kf := fun j => HF.out.hc.free j
  have HF2 := hid (HF.out.sReg HO.out ka ha X).drew
  go_upto_region 9 with (fail)
  go_region_held3 (fun W => W.cell? ⟨b2, 3, none⟩ = some (.int .i64 (ka : Int)) ∧ W.cell? ⟨b0, 0, none⟩ = some (.pointer (some ⟨m, 0, none⟩)))
    (first | (exact ⟨k3, kv⟩) | (exact ⟨(HFd.out.hs.other b1 ka _ HO.out.1.symm).cell 3 rfl, (HVd.out.other b1 ka _ N01.out).cell 0 rfl⟩))
    (first | (go_at_call 32; refine (read_of (HM.out.kept0 (grown_drew (grown_refl _ none))) V k X HK.out Hx.out).mono ?_; rintro e w' ⟨rfl, rfl⟩))
  go_split_ands
  clear k3 kv
  go_upto_region 10 with (fail)
  clear kr kf HF HFd
  generalize (w6.setCell ⟨b1, ka, none⟩ (.int .u32 X)).drew = w8 at HF2 ⊢
  have HF3 := hid (HF2.out.sPc HO.out ((pc + ln) % 4294967296))
  have k7 : w8.cell? ⟨b2, 7, none⟩ = some (.int .u32 ln) := HF2.out.hs.cell 7 rfl
  have kp := HF2.out.hc.pc
  have kf := fun k => HF2.out.hc.free k
  go_upto_region 11 with (fail)
  refine region_ret2 HF3.out HO.out rfl (sp_one _ _ _ _ _ _ _ _) rfl rfl rfl rfl rfl rfl rfl rfl rfl rfl rfl rfl rfl (by kernel_rfl) (by kernel_rfl) (by kernel_rfl) (by kernel_rfl) rfl Tryz.underlying138 (by kernel_rfl) rfl rfl rfl rfl rfl rfl (fun _ _ _ h => h) (fun _ _ _ h => h) ?_
  intro w9 hE
  have HE := hid hE
  clear hE
  go_wp2
  refine bodyPost_ret (HE.out.results Tryz.results124 _ rfl rfl rfl rfl Tryz.underlying39 Tryz.underlying138 (cpu_size_info HE.out.r1.len) (by kernel_rfl)) rfl ?_
  exact ⟨rfl, Lv.after HG.out HE.out.lv HB.out⟩
set_option maxRecDepth 100000 in
set_option maxHeartbeats 4000000 in
theorem move_st (h : MemAt W m bm n cap xs) (hu : U32s xs) (hl : Regs l) (root : Int) (user : Bool) (ka kb : Nat) (ha : ka < 16) (hb : kb < 16) (c0 : 0 ≤ c) (c1 : c ≤ 255) (AD : Int) (hA : (regI l (kb : Int) + c) % 4294967296 = AD) (hp : atB xs n root AD true user = true) (k : Nat) (hk : atV xs n root AD true user = (k : Int)) (hk2 : k < n * 16) :
    Calls Tryz.prog 124 #[.agg #[.pointer (some ⟨m, 0, none⟩), .int .i64 root, .bool user], .agg (cpuC ⟨l, pc, ie, eie, epc, tv, cc, cd⟩), .agg (spC 0 0 13 (ka : Int) (kb : Int) c im ln)] W fun e w' => e = .returned (.tuple #[.agg (cpuC ⟨l, (pc + ln) % 4294967296, ie, eie, epc, tv, cc, cd⟩), .agg (spC 0 0 13 (ka : Int) (kb : Int) c im ln)]) ∧ MemAt w' m bm n cap (xs.set k (regI l (ka : Int))) ∧ W.grownBy w' (some bm) := by
  have hkb0 : (0 : Int) ≤ (kb : Int) := by omega
  have hkb1 : (kb : Int) < 16 := by omega
  have A0 : 0 ≤ AD := by rw [← hA]; omega
  have A1 : AD < 4294967296 := by rw [← hA]; omega
  have hw : IntKind.u32.wrap (regI l (kb : Int) + c) = AD := (addr_wrap2 _ _).trans hA
  have hwc : IntKind.u32.wrap c = c := u32_id c0 c1
  have hR := hl.get (k := (kb : Int)) (by omega) (by omega)
  rw [Int.toNat_natCast] at hR
  have HR := hid hR
  clear hR
  have HB1 := hid hp
  obtain ⟨V, hV⟩ : ∃ V, atV xs n root AD true user = V := ⟨_, rfl⟩
  rw [hV] at hk
  have HK := hid hk
  have HK2 := hid hk2
  have HV1 := hid hV
  clear hk hk2 hV hp
  have hA2 := hl.get (k := (ka : Int)) (by omega) (by omega)
  rw [Int.toNat_natCast] at hA2
  have HA2 := hid hA2
  clear hA2
  have hka0 : (0 : Int) ≤ (ka : Int) := by omega
  have hka1 : (ka : Int) < 16 := by omega
  have Hm := hid h.mlt
  have Hbm := hid h.blt
  have Hz := zero_cpu
  have Hz2 := zero_stop
  obtain ⟨b0, b1, b2, b3, b4, e0, e1, e2, e3, e4⟩ : ∃ b0 b1 b2 b3 b4, b0 = W.heap.size ∧ b1 = b0 + 1 ∧ b2 = b1 + 1 ∧ b3 = b2 + 1 ∧ b4 = b3 + 1 := ⟨_, _, _, _, _, rfl, rfl, rfl, rfl, rfl⟩
  have HO : Hid (Ord4 b1 b2 b3 b4) := hid (by unfold Ord4; omega)
  have NV : Hid (b0 ∉ [b1, b2, b3, b4]) := hid (by simp only [List.mem_cons, List.not_mem_nil, or_false]; omega)
  have HB : Hid (∀ i ∈ [b1, b2, b3, b4], W.heap.size ≤ i) := hid (by simp only [List.mem_cons, List.not_mem_nil, or_false]; omega)
  have HF := hid (FAt.init (W.alloc (.cells #[.pointer (some ⟨m, 0, none⟩), .int .i64 root, .bool user] 168)) 138 (x := ⟨l, pc, ie, eie, epc, tv, cc, cd⟩) hl.len (spC 0 0 13 (ka : Int) (kb : Int) c im ln))
  have HV : Hid (RwAt (((((W.alloc (.cells #[.pointer (some ⟨m, 0, none⟩), .int .i64 root, .bool user] 168)).alloc (.cells (cpuC ⟨l, pc, ie, eie, epc, tv, cc, cd⟩) 39)).alloc (.cells (spC 0 0 13 (ka : Int) (kb : Int) c im ln) 138)).alloc (.cells (cpuC zeroP) 39)).alloc (.cells (spC 0 0 0 0 0 0 0 0) 138)) b0 168 #[.pointer (some ⟨m, 0, none⟩), .int .i64 root, .bool user]) := hid (by rw [e0]; exact ((((RwAt.new _ _ _).alloc _).alloc _).alloc _).alloc _)
  have HG : Hid (W.grownBy (((((W.alloc (.cells #[.pointer (some ⟨m, 0, none⟩), .int .i64 root, .bool user] 168)).alloc (.cells (cpuC ⟨l, pc, ie, eie, epc, tv, cc, cd⟩) 39)).alloc (.cells (spC 0 0 13 (ka : Int) (kb : Int) c im ln) 138)).alloc (.cells (cpuC zeroP) 39)).alloc (.cells (spC 0 0 0 0 0 0 0 0) 138)) none) := hid (grown_alloc (grown_alloc (grown_alloc (grown_alloc (grown_alloc (grown_refl _ _) _) _) _) _) _)
  have HM := hid (h.kept0 HG.out)
  simp only [World.size_alloc] at HF
  rw [← e0, ← e1, ← e2, ← e3, ← e4] at HF
  have HL := hid hl
  have Hu := hid hu
  clear h hl hu
  go_enter Tryz.func124, Tryz.ntmps124
  go_upto_region 1 with (fail)
  generalize (((((W.alloc (.cells #[.pointer (some ⟨m, 0, none⟩), .int .i64 root, .bool user] 168)).alloc (.cells (cpuC ⟨l, pc, ie, eie, epc, tv, cc, cd⟩) 39)).alloc (.cells (spC 0 0 13 (ka : Int) (kb : Int) c im ln) 138)).alloc (.cells (cpuC zeroP) 39)).alloc (.cells (spC 0 0 0 0 0 0 0 0) 138)) = w4 at HF HV HM HG ⊢
  rw [← e0, ← e1, ← e2, ← e3, ← e4]
  clear e0 e1 e2 e3 e4
  have k2 : w4.cell? ⟨b2, 2, none⟩ = some (.int .i64 13) := HF.out.hs.cell 2 rfl
  have k4 : w4.cell? ⟨b2, 4, none⟩ = some (.int .i64 (kb : Int)) := HF.out.hs.cell 4 rfl
  have k5 : w4.cell? ⟨b2, 5, none⟩ = some (.int .i64 c) := HF.out.hs.cell 5 rfl
  have kr : w4.cell? ⟨b1, kb, none⟩ = some (.int .u32 (regI l (kb : Int))) := HF.out.hc.regc HR.out
  go_upto_region 2 with (fail)
  go_quiet (fail)
  replace HF := hid (HF.out.kept (grown_drewN (grown_refl _ none) nq))
  replace HV := hid (HV.out.kept0 (grown_drewN (grown_refl _ none) nq))
  replace HM := hid (HM.out.kept0 (grown_drewN (grown_refl _ none) nq))
  replace HG := hid (grown_drewN HG.out nq)
  clear k2 k4 k5 kr
  generalize w4.drewN nq = w5 at HF HV HM HG ⊢
  go_wp2_with (first
    | (refine wpList_load_rw rfl 168 _ rfl rfl HV.out rfl Tryz.underlying168 (by kernel_rfl) ?_)
    | fail)
  refine (place_of HM.out Hu.out root AD A0 A1 true user V true HB1.out HV1.out).mono ?_; rintro e w6 ⟨rfl, hg⟩
  replace HF := hid (HF.out.kept hg)
  replace HV := hid (HV.out.kept0 hg)
  replace HM := hid (HM.out.kept0 hg)
  replace HG := hid (grown_trans HG.out hg)
  clear hg
  have k3 : w6.cell? ⟨b2, 3, none⟩ = some (.int .i64 (ka : Int)) := HF.out.hs.cell 3 rfl
  have kv : w6.cell? ⟨b0, 0, none⟩ = some (.pointer (some ⟨m, 0, none⟩)) := HV.out.cell 0 rfl
  have kr : w6.cell? ⟨b1, ka, none⟩ = some (.int .u32 (regI l (ka : Int))) := HF.out.hc.regc HA2.out
  go_upto_region 8 with (fail)
  go_still_tail 9, (by kernel_rfl)
  change wpList _ _ _ _ _ w6.drew
  replace HF := hid (HF.out.kept (grown_drew (grown_refl _ none)))
  replace HM := hid (HM.out.kept0 (grown_drew (grown_refl _ none)))
  replace HG := hid (grown_drew HG.out)
  clear k3 kv kr
  generalize w6.drew = w7 at HF HM HG ⊢
  go_wp2_with fail
  refine (write_of HM.out V (regI l (ka : Int)) k HK.out HK2.out).mono ?_; rintro e w8 ⟨rfl, hM2, hg⟩
  have HM2 := hid hM2
  have NR : Hid (∀ i ∈ [b1, b2, b3, b4], i ≠ bm ∧ i ≠ m) := hid (fun i hi => by have := HB.out i hi; have := Hm.out; have := Hbm.out; omega)
  have HF2 := hid (HF.out.aside hg (NR.out b1 (by simp)).1 (NR.out b2 (by simp)).1 (NR.out b3 (by simp)).1 (NR.out b4 (by simp)).1)
  have HGR := hid (grown_trans (grown_none (r := some bm) HG.out) hg)
  clear hM2 hg HM HF
  go_upto_region 10 with (fail)
  have HF3 := hid (HF2.out.sPc HO.out ((pc + ln) % 4294967296))
  have k7 : w8.cell? ⟨b2, 7, none⟩ = some (.int .u32 ln) := HF2.out.hs.cell 7 rfl
  have kp := HF2.out.hc.pc
  have kf := fun k => HF2.out.hc.free k
  go_upto_region 11 with (fail)
  refine region_ret2 HF3.out HO.out rfl (sp_one _ _ _ _ _ _ _ _) rfl rfl rfl rfl rfl rfl rfl rfl rfl rfl rfl rfl rfl (by kernel_rfl) (by kernel_rfl) (by kernel_rfl) (by kernel_rfl) rfl Tryz.underlying138 (by kernel_rfl) rfl rfl rfl rfl rfl rfl (fun _ _ _ h => h) (fun _ _ _ h => h) ?_
  intro w9 hE
  have HE := hid hE
  clear hE
  go_wp2
  refine bodyPost_ret (HE.out.results Tryz.results124 _ rfl rfl rfl rfl Tryz.underlying39 Tryz.underlying138 (cpu_size_info HE.out.r1.len) (by kernel_rfl)) rfl ?_
  exact ⟨rfl, HM2.out.keptL HE.out.lv (fun hi => (NR.out m hi).2 rfl) (fun hi => (NR.out bm hi).1 rfl), Lv.afterR HGR.out HE.out.lv HB.out⟩
end
end Go.Proofs.YtkkbhifplbleiaaGreatDoor
