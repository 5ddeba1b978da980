/- The document's own Once: contracts (moves). (Made by a program.) -/
import Derived.Test.YtaecbekobpgkoaaDoorZRCore1
import Derived.Test.YtaecbekobpgkoaaDoorZGCoreB
namespace Go.Proofs.YtaecbekobpgkoaaDoor
open Go.RowKit
theorem RefAt.keptL {w w1 : World} {m b N : Nat} {xs : List Int} {R : List Nat} (h : RefAt w m b N xs) (hg : Lv w w1 R) (hm : m ∉ R) (hb : b ∉ R) : RefAt w1 m b N xs :=
  { h with hm := (hg.block _ h.mlt hm).trans h.hm, hb := (hg.block _ h.blt hb).trans h.hb }
theorem rwrite_at {w : World} {m b N : Nat} {xs : List Int} (h : RefAt w m b N xs) (a x : Int) (k : Nat) (ha : a = (k : Int)) (hk : k < N) :
    Calls Tryd.prog 32 #[.pointer (some ⟨m, 0, none⟩), .int .i64 a, .int .u32 x] w fun e w' => e = .returned (.bool true) ∧ RefAt w' m b N (xs.set k x) ∧ w.grownBy w' (some b) := by
  subst ha; exact rwrite_yes h k x hk
section
variable {m b0 n N : Nat} {xs : List Int} {l : List Int} {pc : Int} {ie eie : Bool} {epc tv cc cd ca ad op a b c im ln : Int} {W : World}
set_option maxRecDepth 100000 in
set_option maxHeartbeats 4000000 in
theorem rmove_no12 (h : RefAt W m b0 N xs) (hN : N = n * 16) (hn2 : n ≤ 1024) (hu : U32s xs) (hl : Regs l) (p0 : 0 ≤ pc) (p1 : pc < 4294967296) (root : Int) (user : Bool) (ka kb : Nat) (ha : ka < 16) (hb : kb < 16) (c0 : 0 ≤ c) (c1 : c ≤ 255) (AD : Int) (hA : (regI l (kb : Int) + c) % 4294967296 = AD) (hp : atB xs n root AD false user = false) (hs : fetchP xs n root pc user = ⟨0, 0, 12, (ka : Int), (kb : Int), c, im, ln⟩) :
    Calls Tryd.prog 20 #[.pointer (some ⟨m, 0, none⟩), .int .i64 root, .agg (cpuC ⟨l, pc, ie, eie, epc, tv, cc, cd⟩), .bool user] W fun e w' => e = .returned (.tuple #[.agg (cpuC ⟨l, pc, ie, eie, epc, tv, cc, cd⟩), .agg (spC 1 AD 12 (ka : Int) (kb : Int) c im ln)]) ∧ W.grownBy w' none := by
  have hkb0 : (0 : Int) ≤ (kb : Int) := by omega
  have hkb1 : (kb : Int) < 16 := by omega
  have hka0 : (0 : Int) ≤ (ka : Int) := by omega
  have hka1 : (ka : Int) < 16 := by omega
  have A0 : 0 ≤ AD := by rw [← hA]; omega
  have A1 : AD < 4294967296 := by rw [← hA]; omega
  have hw : IntKind.u32.wrap (regI l (kb : Int) + c) = AD := (addr_wrap2 _ _).trans hA
  have hwc : IntKind.u32.wrap c = c := u32_id c0 c1
  have hR := hl.get (k := (kb : Int)) (by omega) (by omega)
  rw [Int.toNat_natCast] at hR
  have HR := hid hR
  clear hR
  have HK : Hid (clsI 12 = 1) := hid (by decide)
  have HB1 := hid hp
  obtain ⟨V0, hV0⟩ : ∃ V, atV xs n root AD false user = V := ⟨_, rfl⟩
  have HV1 := hid hV0
  clear hV0 hp
  have Hz := zero_cpu
  have Hz2 := zero_rstop
  have Hz3 := zero_ins
  obtain ⟨b1, b3, b4, e1, e3, e4⟩ : ∃ b1 b3 b4, b1 = W.heap.size ∧ b3 = b1 + 1 ∧ b4 = b3 + 1 := ⟨_, _, _, rfl, rfl, rfl⟩
  have B13 : Hid (b1 ≠ b3 ∧ b1 ≠ b4 ∧ b3 ≠ b4 ∧ W.heap.size ≤ b1 ∧ W.heap.size ≤ b3 ∧ W.heap.size ≤ b4) := hid (by omega)
  have HC : Hid (CpuAt (((W.alloc (.cells (cpuC ⟨l, pc, ie, eie, epc, tv, cc, cd⟩) 46)).alloc (.cells (cpuC zeroP) 46)).alloc (.cells (spC 0 0 0 0 0 0 0 0) 47)) b1 ⟨l, pc, ie, eie, epc, tv, cc, cd⟩) := hid (by rw [e1]; exact ((CpuAt.new _ hl.len).alloc _).alloc _)
  have HR1 : Hid (CpuAt (((W.alloc (.cells (cpuC ⟨l, pc, ie, eie, epc, tv, cc, cd⟩) 46)).alloc (.cells (cpuC zeroP) 46)).alloc (.cells (spC 0 0 0 0 0 0 0 0) 47)) b3 zeroP) := hid (by rw [e3, e1]; exact (CpuAt.new2 _ _ rfl).alloc _)
  have HR2 : Hid (RwAt (((W.alloc (.cells (cpuC ⟨l, pc, ie, eie, epc, tv, cc, cd⟩) 46)).alloc (.cells (cpuC zeroP) 46)).alloc (.cells (spC 0 0 0 0 0 0 0 0) 47)) b4 47 (spC 0 0 0 0 0 0 0 0)) := hid (by
    rw [e4, e3, e1]
    have := RwAt.new2 (W.alloc (.cells (cpuC ⟨l, pc, ie, eie, epc, tv, cc, cd⟩) 46)) (.cells (cpuC zeroP) 46) 47 (spC 0 0 0 0 0 0 0 0)
    simp only [World.size_alloc] at this
    exact this)
  have HG : Hid (W.grownBy (((W.alloc (.cells (cpuC ⟨l, pc, ie, eie, epc, tv, cc, cd⟩) 46)).alloc (.cells (cpuC zeroP) 46)).alloc (.cells (spC 0 0 0 0 0 0 0 0) 47)) none) := hid (grown_alloc (grown_alloc (grown_alloc (grown_refl _ _) _) _) _)
  have HM := hid (h.kept0 HG.out)
  have Hm := hid h.mlt
  have Hbm := hid h.blt
  have HLen := hid (h.len.trans hN)
  have HN := hid hN
  have Hn2 := hid hn2
  have HL := hid hl
  have Hu := hid hu
  have HS := hid hs
  clear h hl hu hs hN hn2
  go_enter Tryd.func20, Tryd.ntmps20
  go_upto_region 1 with (fail)
  generalize (((W.alloc (.cells (cpuC ⟨l, pc, ie, eie, epc, tv, cc, cd⟩) 46)).alloc (.cells (cpuC zeroP) 46)).alloc (.cells (spC 0 0 0 0 0 0 0 0) 47)) = w3 at HC HR1 HR2 HM HG ⊢
  rw [← e1, ← e3, ← e4]
  clear e1 e3 e4
  have kp := HC.out.pc
  go_wp2_with fail
  refine (rfetch_of HM.out HN.out Hn2.out Hu.out root pc p0 p1 user 0 0 12 (ka : Int) (kb : Int) c im ln HS.out).mono ?_; rintro e w5 ⟨rfl, hg⟩
  clear kp
  replace HC := hid (HC.out.kept0 hg)
  replace HR1 := hid (HR1.out.kept0 hg)
  replace HR2 := hid (HR2.out.kept0 hg)
  replace HM := hid (HM.out.kept0 hg)
  replace HG := hid (grown_trans HG.out hg)
  clear hg
  have hg : w5.grownBy ((((w5.alloc (.cells (inC 0 0 0 0 0) 27)).alloc (.cells (spC 0 0 0 0 0 0 0 0) 47)).setRow w5.heap.size (inC 12 (ka : Int) (kb : Int) c im)).setRow (w5.heap.size + 1) (spC 0 0 12 (ka : Int) (kb : Int) c im ln)) none := grown_setRow (grown_setRow (grown_alloc (grown_alloc (grown_refl _ _) _) _) (Nat.le_refl _) _) (Nat.le_succ _) _
  have HI := hid ((((RwAt.new w5 27 (inC 0 0 0 0 0)).alloc (.cells (spC 0 0 0 0 0 0 0 0) 47)).row (inC 12 (ka : Int) (kb : Int) c im)).rowOther (w5.heap.size + 1) (spC 0 0 12 (ka : Int) (kb : Int) c im ln) (by omega))
  have HSt := hid (((RwAt.new2 w5 (.cells (inC 0 0 0 0 0) 27) 47 (spC 0 0 0 0 0 0 0 0)).rowOther w5.heap.size (inC 12 (ka : Int) (kb : Int) c im) (by omega)).row (spC 0 0 12 (ka : Int) (kb : Int) c im ln))
  have NW : Hid (b1 < w5.heap.size ∧ b3 < w5.heap.size ∧ b4 < w5.heap.size ∧ W.heap.size ≤ w5.heap.size) := hid ⟨HC.out.lt, HR1.out.lt, HR2.out.lt, HG.out.size⟩
  replace HC := hid (HC.out.kept0 hg)
  replace HR1 := hid (HR1.out.kept0 hg)
  replace HR2 := hid (HR2.out.kept0 hg)
  replace HM := hid (HM.out.kept0 hg)
  replace HG := hid (grown_trans HG.out hg)
  clear hg
  go_upto_region 2 with (first
    | (refine wpList_store_rw rfl 27 _ _ rfl rfl rfl ((RwAt.new _ _ _).alloc _) (by kernel_rfl) rfl (in_one _ _ _ _ _) ?_)
    | (refine wpList_store_rw rfl 47 _ _ rfl rfl rfl ((RwAt.new2 _ _ _ _).rowOther _ _ (by omega)) (by kernel_rfl) rfl (sp_one _ _ _ _ _ _ _ _) ?_)
    | fail)
  generalize ((((w5.alloc (.cells (inC 0 0 0 0 0) 27)).alloc (.cells (spC 0 0 0 0 0 0 0 0) 47)).setRow w5.heap.size (inC 12 (ka : Int) (kb : Int) c im)).setRow (w5.heap.size + 1) (spC 0 0 12 (ka : Int) (kb : Int) c im ln)) = w6 at HC HR1 HR2 HM HG HI HSt ⊢
  obtain ⟨b2, e2⟩ : ∃ b2, b2 = w5.heap.size + 1 := ⟨_, rfl⟩
  have HO : Hid (Ord4 b1 b2 b3 b4) := hid (by unfold Ord4; have := NW.out; have := B13.out; omega)
  have HB : Hid (∀ i ∈ [b1, b2, b3, b4], W.heap.size ≤ i) := hid (by have := NW.out; have := B13.out; simp only [List.mem_cons, List.not_mem_nil, or_false]; omega)
  have N5 : Hid (w5.heap.size ≠ b1 ∧ w5.heap.size ≠ b2) := hid (by have := NW.out; omega)
  rw [← e2] at HSt ⊢
  clear e2
  generalize w5.heap.size = b5 at HI N5 ⊢
  have HF : Hid (FAt w6 47 b1 b2 b3 b4 ⟨l, pc, ie, eie, epc, tv, cc, cd⟩ (spC 0 0 12 (ka : Int) (kb : Int) c im ln) w6) := hid ⟨HC.out, HSt.out, HR1.out, HR2.out, Lv.refl _ _⟩
  clear HC HSt HR1 HR2 NW B13
  have k0 : w6.cell? ⟨b2, 0, none⟩ = some (.int .i64 0) := HF.out.hs.cell 0 rfl
  have kop : w6.cell? ⟨b5, 0, none⟩ = some (.int .i64 12) := HI.out.cell 0 rfl
  have kp := HF.out.hc.pc
  have k7 : w6.cell? ⟨b2, 7, none⟩ = some (.int .u32 ln) := HF.out.hs.cell 7 rfl
  go_wp2_with fail
  refine (rclass_any _ _).mono ?_; rw [HK.out]; rintro e w7 ⟨rfl, rfl⟩
  have k2 : w6.cell? ⟨b5, 2, none⟩ = some (.int .i64 (kb : Int)) := HI.out.cell 2 rfl
  have k3 : w6.cell? ⟨b5, 3, none⟩ = some (.int .i64 c) := HI.out.cell 3 rfl
  have kr : w6.cell? ⟨b1, kb, none⟩ = some (.int .u32 (regI l (kb : Int))) := HF.out.hc.regc HR.out
  go_upto_region 21 with (fail)
  go_quiet (fail)
  replace HF := hid (HF.out.kept (grown_drewN (grown_refl _ none) nq))
  replace HI := hid (HI.out.kept0 (grown_drewN (grown_refl _ none) nq))
  replace HM := hid (HM.out.kept0 (grown_drewN (grown_refl _ none) nq))
  replace HG := hid (grown_drewN HG.out nq)
  clear k0 k2 k3 kr kop kp k7
  generalize w6.drewN nq = w8 at HF HI HM HG ⊢
  have kop : w8.cell? ⟨b5, 0, none⟩ = some (.int .i64 12) := HI.out.cell 0 rfl
  go_wp2_with fail
  refine (rwalk_any HM.out HN.out Hn2.out Hu.out root AD A0 A1 false user V0 false HB1.out HV1.out).mono ?_; rintro e w9 ⟨rfl, hg⟩
  clear kop
  replace HF := hid (HF.out.kept hg)
  replace HI := hid (HI.out.kept0 hg)
  replace HM := hid (HM.out.kept0 hg)
  replace HG := hid (grown_trans HG.out hg)
  clear hg
  have kop : w9.cell? ⟨b5, 0, none⟩ = some (.int .i64 12) := HI.out.cell 0 rfl
  have k0 : w9.cell? ⟨b2, 0, none⟩ = some (.int .i64 0) := HF.out.hs.cell 0 rfl
  have k1 : w9.cell? ⟨b2, 1, none⟩ = some (.int .u32 0) := HF.out.hs.cell 1 rfl
  have kf := fun j => HF.out.hs.free j
  have HF2 := hid ((HF.out.sCa HO.out 1).sAd HO.out AD)
  go_upto_region 26 with (fail)
  clear k0 k1 kf kop HI
  generalize (w9.setCell ⟨b2, 0, none⟩ (.int .i64 1)).setCell ⟨b2, 1, none⟩ (.int .u32 AD) = w10 at HF2 ⊢
  go_upto_region 26 with (fail)
  refine region_ret2 HF2.out HO.out rfl (sp_one _ _ _ _ _ _ _ _) rfl rfl rfl rfl rfl rfl rfl rfl rfl rfl rfl rfl rfl (by kernel_rfl) (by kernel_rfl) (by kernel_rfl) (by kernel_rfl) rfl Tryd.underlying47 (by kernel_rfl) rfl rfl rfl rfl rfl rfl (fun _ _ _ h => h) (fun _ _ _ h => h) ?_
  intro w9 hE
  have HE := hid hE
  clear hE
  go_wp2
  refine bodyPost_ret (HE.out.results Tryd.results20 _ rfl rfl rfl rfl Tryd.underlying46 Tryd.underlying47 (cpu_size_info HE.out.r1.len) (by kernel_rfl)) rfl ?_
  exact ⟨rfl, Lv.after HG.out HE.out.lv HB.out⟩
set_option maxRecDepth 100000 in
set_option maxHeartbeats 4000000 in
theorem rmove_no13 (h : RefAt W m b0 N xs) (hN : N = n * 16) (hn2 : n ≤ 1024) (hu : U32s xs) (hl : Regs l) (p0 : 0 ≤ pc) (p1 : pc < 4294967296) (root : Int) (user : Bool) (ka kb : Nat) (ha : ka < 16) (hb : kb < 16) (c0 : 0 ≤ c) (c1 : c ≤ 255) (AD : Int) (hA : (regI l (kb : Int) + c) % 4294967296 = AD) (hp : atB xs n root AD true user = false) (hs : fetchP xs n root pc user = ⟨0, 0, 13, (ka : Int), (kb : Int), c, im, ln⟩) :
    Calls Tryd.prog 20 #[.pointer (some ⟨m, 0, none⟩), .int .i64 root, .agg (cpuC ⟨l, pc, ie, eie, epc, tv, cc, cd⟩), .bool user] W fun e w' => e = .returned (.tuple #[.agg (cpuC ⟨l, pc, ie, eie, epc, tv, cc, cd⟩), .agg (spC 1 AD 13 (ka : Int) (kb : Int) c im ln)]) ∧ W.grownBy w' none := by
  have hkb0 : (0 : Int) ≤ (kb : Int) := by omega
  have hkb1 : (kb : Int) < 16 := by omega
  have hka0 : (0 : Int) ≤ (ka : Int) := by omega
  have hka1 : (ka : Int) < 16 := by omega
  have A0 : 0 ≤ AD := by rw [← hA]; omega
  have A1 : AD < 4294967296 := by rw [← hA]; omega
  have hw : IntKind.u32.wrap (regI l (kb : Int) + c) = AD := (addr_wrap2 _ _).trans hA
  have hwc : IntKind.u32.wrap c = c := u32_id c0 c1
  have hR := hl.get (k := (kb : Int)) (by omega) (by omega)
  rw [Int.toNat_natCast] at hR
  have HR := hid hR
  clear hR
  have HK : Hid (clsI 13 = 1) := hid (by decide)
  have HB1 := hid hp
  obtain ⟨V0, hV0⟩ : ∃ V, atV xs n root AD true user = V := ⟨_, rfl⟩
  have HV1 := hid hV0
  clear hV0 hp
  have Hz := zero_cpu
  have Hz2 := zero_rstop
  have Hz3 := zero_ins
  obtain ⟨b1, b3, b4, e1, e3, e4⟩ : ∃ b1 b3 b4, b1 = W.heap.size ∧ b3 = b1 + 1 ∧ b4 = b3 + 1 := ⟨_, _, _, rfl, rfl, rfl⟩
  have B13 : Hid (b1 ≠ b3 ∧ b1 ≠ b4 ∧ b3 ≠ b4 ∧ W.heap.size ≤ b1 ∧ W.heap.size ≤ b3 ∧ W.heap.size ≤ b4) := hid (by omega)
  have HC : Hid (CpuAt (((W.alloc (.cells (cpuC ⟨l, pc, ie, eie, epc, tv, cc, cd⟩) 46)).alloc (.cells (cpuC zeroP) 46)).alloc (.cells (spC 0 0 0 0 0 0 0 0) 47)) b1 ⟨l, pc, ie, eie, epc, tv, cc, cd⟩) := hid (by rw [e1]; exact ((CpuAt.new _ hl.len).alloc _).alloc _)
  have HR1 : Hid (CpuAt (((W.alloc (.cells (cpuC ⟨l, pc, ie, eie, epc, tv, cc, cd⟩) 46)).alloc (.cells (cpuC zeroP) 46)).alloc (.cells (spC 0 0 0 0 0 0 0 0) 47)) b3 zeroP) := hid (by rw [e3, e1]; exact (CpuAt.new2 _ _ rfl).alloc _)
  have HR2 : Hid (RwAt (((W.alloc (.cells (cpuC ⟨l, pc, ie, eie, epc, tv, cc, cd⟩) 46)).alloc (.cells (cpuC zeroP) 46)).alloc (.cells (spC 0 0 0 0 0 0 0 0) 47)) b4 47 (spC 0 0 0 0 0 0 0 0)) := hid (by
    rw [e4, e3, e1]
    have := RwAt.new2 (W.alloc (.cells (cpuC ⟨l, pc, ie, eie, epc, tv, cc, cd⟩) 46)) (.cells (cpuC zeroP) 46) 47 (spC 0 0 0 0 0 0 0 0)
    simp only [World.size_alloc] at this
    exact this)
  have HG : Hid (W.grownBy (((W.alloc (.cells (cpuC ⟨l, pc, ie, eie, epc, tv, cc, cd⟩) 46)).alloc (.cells (cpuC zeroP) 46)).alloc (.cells (spC 0 0 0 0 0 0 0 0) 47)) none) := hid (grown_alloc (grown_alloc (grown_alloc (grown_refl _ _) _) _) _)
  have HM := hid (h.kept0 HG.out)
  have Hm := hid h.mlt
  have Hbm := hid h.blt
  have HLen := hid (h.len.trans hN)
  have HN := hid hN
  have Hn2 := hid hn2
  have HL := hid hl
  have Hu := hid hu
  have HS := hid hs
  clear h hl hu hs hN hn2
  go_enter Tryd.func20, Tryd.ntmps20
  go_upto_region 1 with (fail)
  generalize (((W.alloc (.cells (cpuC ⟨l, pc, ie, eie, epc, tv, cc, cd⟩) 46)).alloc (.cells (cpuC zeroP) 46)).alloc (.cells (spC 0 0 0 0 0 0 0 0) 47)) = w3 at HC HR1 HR2 HM HG ⊢
  rw [← e1, ← e3, ← e4]
  clear e1 e3 e4
  have kp := HC.out.pc
  go_wp2_with fail
  refine (rfetch_of HM.out HN.out Hn2.out Hu.out root pc p0 p1 user 0 0 13 (ka : Int) (kb : Int) c im ln HS.out).mono ?_; rintro e w5 ⟨rfl, hg⟩
  clear kp
  replace HC := hid (HC.out.kept0 hg)
  replace HR1 := hid (HR1.out.kept0 hg)
  replace HR2 := hid (HR2.out.kept0 hg)
  replace HM := hid (HM.out.kept0 hg)
  replace HG := hid (grown_trans HG.out hg)
  clear hg
  have hg : w5.grownBy ((((w5.alloc (.cells (inC 0 0 0 0 0) 27)).alloc (.cells (spC 0 0 0 0 0 0 0 0) 47)).setRow w5.heap.size (inC 13 (ka : Int) (kb : Int) c im)).setRow (w5.heap.size + 1) (spC 0 0 13 (ka : Int) (kb : Int) c im ln)) none := grown_setRow (grown_setRow (grown_alloc (grown_alloc (grown_refl _ _) _) _) (Nat.le_refl _) _) (Nat.le_succ _) _
  have HI := hid ((((RwAt.new w5 27 (inC 0 0 0 0 0)).alloc (.cells (spC 0 0 0 0 0 0 0 0) 47)).row (inC 13 (ka : Int) (kb : Int) c im)).rowOther (w5.heap.size + 1) (spC 0 0 13 (ka : Int) (kb : Int) c im ln) (by omega))
  have HSt := hid (((RwAt.new2 w5 (.cells (inC 0 0 0 0 0) 27) 47 (spC 0 0 0 0 0 0 0 0)).rowOther w5.heap.size (inC 13 (ka : Int) (kb : Int) c im) (by omega)).row (spC 0 0 13 (ka : Int) (kb : Int) c im ln))
  have NW : Hid (b1 < w5.heap.size ∧ b3 < w5.heap.size ∧ b4 < w5.heap.size ∧ W.heap.size ≤ w5.heap.size) := hid ⟨HC.out.lt, HR1.out.lt, HR2.out.lt, HG.out.size⟩
  replace HC := hid (HC.out.kept0 hg)
  replace HR1 := hid (HR1.out.kept0 hg)
  replace HR2 := hid (HR2.out.kept0 hg)
  replace HM := hid (HM.out.kept0 hg)
  replace HG := hid (grown_trans HG.out hg)
  clear hg
  go_upto_region 2 with (first
    | (refine wpList_store_rw rfl 27 _ _ rfl rfl rfl ((RwAt.new _ _ _).alloc _) (by kernel_rfl) rfl (in_one _ _ _ _ _) ?_)
    | (refine wpList_store_rw rfl 47 _ _ rfl rfl rfl ((RwAt.new2 _ _ _ _).rowOther _ _ (by omega)) (by kernel_rfl) rfl (sp_one _ _ _ _ _ _ _ _) ?_)
    | fail)
  generalize ((((w5.alloc (.cells (inC 0 0 0 0 0) 27)).alloc (.cells (spC 0 0 0 0 0 0 0 0) 47)).setRow w5.heap.size (inC 13 (ka : Int) (kb : Int) c im)).setRow (w5.heap.size + 1) (spC 0 0 13 (ka : Int) (kb : Int) c im ln)) = w6 at HC HR1 HR2 HM HG HI HSt ⊢
  obtain ⟨b2, e2⟩ : ∃ b2, b2 = w5.heap.size + 1 := ⟨_, rfl⟩
  have HO : Hid (Ord4 b1 b2 b3 b4) := hid (by unfold Ord4; have := NW.out; have := B13.out; omega)
  have HB : Hid (∀ i ∈ [b1, b2, b3, b4], W.heap.size ≤ i) := hid (by have := NW.out; have := B13.out; simp only [List.mem_cons, List.not_mem_nil, or_false]; omega)
  have N5 : Hid (w5.heap.size ≠ b1 ∧ w5.heap.size ≠ b2) := hid (by have := NW.out; omega)
  rw [← e2] at HSt ⊢
  clear e2
  generalize w5.heap.size = b5 at HI N5 ⊢
  have HF : Hid (FAt w6 47 b1 b2 b3 b4 ⟨l, pc, ie, eie, epc, tv, cc, cd⟩ (spC 0 0 13 (ka : Int) (kb : Int) c im ln) w6) := hid ⟨HC.out, HSt.out, HR1.out, HR2.out, Lv.refl _ _⟩
  clear HC HSt HR1 HR2 NW B13
  have k0 : w6.cell? ⟨b2, 0, none⟩ = some (.int .i64 0) := HF.out.hs.cell 0 rfl
  have kop : w6.cell? ⟨b5, 0, none⟩ = some (.int .i64 13) := HI.out.cell 0 rfl
  have kp := HF.out.hc.pc
  have k7 : w6.cell? ⟨b2, 7, none⟩ = some (.int .u32 ln) := HF.out.hs.cell 7 rfl
  go_wp2_with fail
  refine (rclass_any _ _).mono ?_; rw [HK.out]; rintro e w7 ⟨rfl, rfl⟩
  have k2 : w6.cell? ⟨b5, 2, none⟩ = some (.int .i64 (kb : Int)) := HI.out.cell 2 rfl
  have k3 : w6.cell? ⟨b5, 3, none⟩ = some (.int .i64 c) := HI.out.cell 3 rfl
  have kr : w6.cell? ⟨b1, kb, none⟩ = some (.int .u32 (regI l (kb : Int))) := HF.out.hc.regc HR.out
  go_upto_region 21 with (fail)
  go_quiet (fail)
  replace HF := hid (HF.out.kept (grown_drewN (grown_refl _ none) nq))
  replace HI := hid (HI.out.kept0 (grown_drewN (grown_refl _ none) nq))
  replace HM := hid (HM.out.kept0 (grown_drewN (grown_refl _ none) nq))
  replace HG := hid (grown_drewN HG.out nq)
  clear k0 k2 k3 kr kop kp k7
  generalize w6.drewN nq = w8 at HF HI HM HG ⊢
  have kop : w8.cell? ⟨b5, 0, none⟩ = some (.int .i64 13) := HI.out.cell 0 rfl
  go_wp2_with fail
  refine (rwalk_any HM.out HN.out Hn2.out Hu.out root AD A0 A1 true user V0 false HB1.out HV1.out).mono ?_; rintro e w9 ⟨rfl, hg⟩
  clear kop
  replace HF := hid (HF.out.kept hg)
  replace HI := hid (HI.out.kept0 hg)
  replace HM := hid (HM.out.kept0 hg)
  replace HG := hid (grown_trans HG.out hg)
  clear hg
  have kop : w9.cell? ⟨b5, 0, none⟩ = some (.int .i64 13) := HI.out.cell 0 rfl
  have k0 : w9.cell? ⟨b2, 0, none⟩ = some (.int .i64 0) := HF.out.hs.cell 0 rfl
  have k1 : w9.cell? ⟨b2, 1, none⟩ = some (.int .u32 0) := HF.out.hs.cell 1 rfl
  have kf := fun j => HF.out.hs.free j
  have HF2 := hid ((HF.out.sCa HO.out 1).sAd HO.out AD)
  go_upto_region 26 with (fail)
  clear k0 k1 kf kop HI
  generalize (w9.setCell ⟨b2, 0, none⟩ (.int .i64 1)).setCell ⟨b2, 1, none⟩ (.int .u32 AD) = w10 at HF2 ⊢
  go_upto_region 26 with (fail)
  refine region_ret2 HF2.out HO.out rfl (sp_one _ _ _ _ _ _ _ _) rfl rfl rfl rfl rfl rfl rfl rfl rfl rfl rfl rfl rfl (by kernel_rfl) (by kernel_rfl) (by kernel_rfl) (by kernel_rfl) rfl Tryd.underlying47 (by kernel_rfl) rfl rfl rfl rfl rfl rfl (fun _ _ _ h => h) (fun _ _ _ h => h) ?_
  intro w9 hE
  have HE := hid hE
  clear hE
  go_wp2
  refine bodyPost_ret (HE.out.results Tryd.results20 _ rfl rfl rfl rfl Tryd.underlying46 Tryd.underlying47 (cpu_size_info HE.out.r1.len) (by kernel_rfl)) rfl ?_
  exact ⟨rfl, Lv.after HG.out HE.out.lv HB.out⟩
set_option maxRecDepth 100000 in
set_option maxHeartbeats 4000000 in
theorem rmove_ld (h : RefAt W m b0 N xs) (hN : N = n * 16) (hn2 : n ≤ 1024) (hu : U32s xs) (hl : Regs l) (p0 : 0 ≤ pc) (p1 : pc < 4294967296) (root : Int) (user : Bool) (ka kb : Nat) (ha : ka < 16) (hb : kb < 16) (c0 : 0 ≤ c) (c1 : c ≤ 255) (AD : Int) (hA : (regI l (kb : Int) + c) % 4294967296 = AD) (hp : atB xs n root AD false user = true) (X : Int) (hX : rdV xs n root AD user = X) (hs : fetchP xs n root pc user = ⟨0, 0, 12, (ka : Int), (kb : Int), c, im, ln⟩) :
    Calls Tryd.prog 20 #[.pointer (some ⟨m, 0, none⟩), .int .i64 root, .agg (cpuC ⟨l, pc, ie, eie, epc, tv, cc, cd⟩), .bool user] W fun e w' => e = .returned (.tuple #[.agg (cpuC ⟨l.set ka X, (pc + ln) % 4294967296, ie, eie, epc, tv, cc, cd⟩), .agg (spC 0 0 12 (ka : Int) (kb : Int) c im ln)]) ∧ W.grownBy w' none := by
  have hkb0 : (0 : Int) ≤ (kb : Int) := by omega
  have hkb1 : (kb : Int) < 16 := by omega
  have hka0 : (0 : Int) ≤ (ka : Int) := by omega
  have hka1 : (ka : Int) < 16 := by omega
  have A0 : 0 ≤ AD := by rw [← hA]; omega
  have A1 : AD < 4294967296 := by rw [← hA]; omega
  have hw : IntKind.u32.wrap (regI l (kb : Int) + c) = AD := (addr_wrap2 _ _).trans hA
  have hwc : IntKind.u32.wrap c = c := u32_id c0 c1
  have hR := hl.get (k := (kb : Int)) (by omega) (by omega)
  rw [Int.toNat_natCast] at hR
  have HR := hid hR
  clear hR
  have HK : Hid (clsI 12 = 1) := hid (by decide)
  have HB1 := hid hp
  obtain ⟨k, hk, hx⟩ := rd_word (h.len.trans hN) hp
  obtain ⟨V, hV⟩ : ∃ V, atV xs n root AD false user = V := ⟨_, rfl⟩
  rw [hX] at hx
  rw [hV] at hk
  have HK2 := hid hk
  have Hx := hid hx
  have HV1 := hid hV
  clear hk hx hV hp hX
  obtain ⟨y, hy⟩ : ∃ y, l[ka]? = some y := ⟨_, List.getElem?_eq_getElem (by rw [hl.len]; exact ha)⟩
  have HY := hid hy
  clear hy
  have Hz := zero_cpu
  have Hz2 := zero_rstop
  have Hz3 := zero_ins
  obtain ⟨b1, b3, b4, e1, e3, e4⟩ : ∃ b1 b3 b4, b1 = W.heap.size ∧ b3 = b1 + 1 ∧ b4 = b3 + 1 := ⟨_, _, _, rfl, rfl, rfl⟩
  have B13 : Hid (b1 ≠ b3 ∧ b1 ≠ b4 ∧ b3 ≠ b4 ∧ W.heap.size ≤ b1 ∧ W.heap.size ≤ b3 ∧ W.heap.size ≤ b4) := hid (by omega)
  have HC : Hid (CpuAt (((W.alloc (.cells (cpuC ⟨l, pc, ie, eie, epc, tv, cc, cd⟩) 46)).alloc (.cells (cpuC zeroP) 46)).alloc (.cells (spC 0 0 0 0 0 0 0 0) 47)) b1 ⟨l, pc, ie, eie, epc, tv, cc, cd⟩) := hid (by rw [e1]; exact ((CpuAt.new _ hl.len).alloc _).alloc _)
  have HR1 : Hid (CpuAt (((W.alloc (.cells (cpuC ⟨l, pc, ie, eie, epc, tv, cc, cd⟩) 46)).alloc (.cells (cpuC zeroP) 46)).alloc (.cells (spC 0 0 0 0 0 0 0 0) 47)) b3 zeroP) := hid (by rw [e3, e1]; exact (CpuAt.new2 _ _ rfl).alloc _)
  have HR2 : Hid (RwAt (((W.alloc (.cells (cpuC ⟨l, pc, ie, eie, epc, tv, cc, cd⟩) 46)).alloc (.cells (cpuC zeroP) 46)).alloc (.cells (spC 0 0 0 0 0 0 0 0) 47)) b4 47 (spC 0 0 0 0 0 0 0 0)) := hid (by
    rw [e4, e3, e1]
    have := RwAt.new2 (W.alloc (.cells (cpuC ⟨l, pc, ie, eie, epc, tv, cc, cd⟩) 46)) (.cells (cpuC zeroP) 46) 47 (spC 0 0 0 0 0 0 0 0)
    simp only [World.size_alloc] at this
    exact this)
  have HG : Hid (W.grownBy (((W.alloc (.cells (cpuC ⟨l, pc, ie, eie, epc, tv, cc, cd⟩) 46)).alloc (.cells (cpuC zeroP) 46)).alloc (.cells (spC 0 0 0 0 0 0 0 0) 47)) none) := hid (grown_alloc (grown_alloc (grown_alloc (grown_refl _ _) _) _) _)
  have HM := hid (h.kept0 HG.out)
  have Hm := hid h.mlt
  have Hbm := hid h.blt
  have HLen := hid (h.len.trans hN)
  have HN := hid hN
  have Hn2 := hid hn2
  have HL := hid hl
  have Hu := hid hu
  have HS := hid hs
  clear h hl hu hs hN hn2
  go_enter Tryd.func20, Tryd.ntmps20
  go_upto_region 1 with (fail)
  generalize (((W.alloc (.cells (cpuC ⟨l, pc, ie, eie, epc, tv, cc, cd⟩) 46)).alloc (.cells (cpuC zeroP) 46)).alloc (.cells (spC 0 0 0 0 0 0 0 0) 47)) = w3 at HC HR1 HR2 HM HG ⊢
  rw [← e1, ← e3, ← e4]
  clear e1 e3 e4
  have kp := HC.out.pc
  go_wp2_with fail
  refine (rfetch_of HM.out HN.out Hn2.out Hu.out root pc p0 p1 user 0 0 12 (ka : Int) (kb : Int) c im ln HS.out).mono ?_; rintro e w5 ⟨rfl, hg⟩
  clear kp
  replace HC := hid (HC.out.kept0 hg)
  replace HR1 := hid (HR1.out.kept0 hg)
  replace HR2 := hid (HR2.out.kept0 hg)
  replace HM := hid (HM.out.kept0 hg)
  replace HG := hid (grown_trans HG.out hg)
  clear hg
  have hg : w5.grownBy ((((w5.alloc (.cells (inC 0 0 0 0 0) 27)).alloc (.cells (spC 0 0 0 0 0 0 0 0) 47)).setRow w5.heap.size (inC 12 (ka : Int) (kb : Int) c im)).setRow (w5.heap.size + 1) (spC 0 0 12 (ka : Int) (kb : Int) c im ln)) none := grown_setRow (grown_setRow (grown_alloc (grown_alloc (grown_refl _ _) _) _) (Nat.le_refl _) _) (Nat.le_succ _) _
  have HI := hid ((((RwAt.new w5 27 (inC 0 0 0 0 0)).alloc (.cells (spC 0 0 0 0 0 0 0 0) 47)).row (inC 12 (ka : Int) (kb : Int) c im)).rowOther (w5.heap.size + 1) (spC 0 0 12 (ka : Int) (kb : Int) c im ln) (by omega))
  have HSt := hid (((RwAt.new2 w5 (.cells (inC 0 0 0 0 0) 27) 47 (spC 0 0 0 0 0 0 0 0)).rowOther w5.heap.size (inC 12 (ka : Int) (kb : Int) c im) (by omega)).row (spC 0 0 12 (ka : Int) (kb : Int) c im ln))
  have NW : Hid (b1 < w5.heap.size ∧ b3 < w5.heap.size ∧ b4 < w5.heap.size ∧ W.heap.size ≤ w5.heap.size) := hid ⟨HC.out.lt, HR1.out.lt, HR2.out.lt, HG.out.size⟩
  replace HC := hid (HC.out.kept0 hg)
  replace HR1 := hid (HR1.out.kept0 hg)
  replace HR2 := hid (HR2.out.kept0 hg)
  replace HM := hid (HM.out.kept0 hg)
  replace HG := hid (grown_trans HG.out hg)
  clear hg
  go_upto_region 2 with (first
    | (refine wpList_store_rw rfl 27 _ _ rfl rfl rfl ((RwAt.new _ _ _).alloc _) (by kernel_rfl) rfl (in_one _ _ _ _ _) ?_)
    | (refine wpList_store_rw rfl 47 _ _ rfl rfl rfl ((RwAt.new2 _ _ _ _).rowOther _ _ (by omega)) (by kernel_rfl) rfl (sp_one _ _ _ _ _ _ _ _) ?_)
    | fail)
  generalize ((((w5.alloc (.cells (inC 0 0 0 0 0) 27)).alloc (.cells (spC 0 0 0 0 0 0 0 0) 47)).setRow w5.heap.size (inC 12 (ka : Int) (kb : Int) c im)).setRow (w5.heap.size + 1) (spC 0 0 12 (ka : Int) (kb : Int) c im ln)) = w6 at HC HR1 HR2 HM HG HI HSt ⊢
  obtain ⟨b2, e2⟩ : ∃ b2, b2 = w5.heap.size + 1 := ⟨_, rfl⟩
  have HO : Hid (Ord4 b1 b2 b3 b4) := hid (by unfold Ord4; have := NW.out; have := B13.out; omega)
  have HB : Hid (∀ i ∈ [b1, b2, b3, b4], W.heap.size ≤ i) := hid (by have := NW.out; have := B13.out; simp only [List.mem_cons, List.not_mem_nil, or_false]; omega)
  have N5 : Hid (w5.heap.size ≠ b1 ∧ w5.heap.size ≠ b2) := hid (by have := NW.out; omega)
  rw [← e2] at HSt ⊢
  clear e2
  generalize w5.heap.size = b5 at HI N5 ⊢
  have HF : Hid (FAt w6 47 b1 b2 b3 b4 ⟨l, pc, ie, eie, epc, tv, cc, cd⟩ (spC 0 0 12 (ka : Int) (kb : Int) c im ln) w6) := hid ⟨HC.out, HSt.out, HR1.out, HR2.out, Lv.refl _ _⟩
  clear HC HSt HR1 HR2 NW B13
  have k0 : w6.cell? ⟨b2, 0, none⟩ = some (.int .i64 0) := HF.out.hs.cell 0 rfl
  have kop : w6.cell? ⟨b5, 0, none⟩ = some (.int .i64 12) := HI.out.cell 0 rfl
  have kp := HF.out.hc.pc
  have k7 : w6.cell? ⟨b2, 7, none⟩ = some (.int .u32 ln) := HF.out.hs.cell 7 rfl
  go_wp2_with fail
  refine (rclass_any _ _).mono ?_; rw [HK.out]; rintro e w7 ⟨rfl, rfl⟩
  have k2 : w6.cell? ⟨b5, 2, none⟩ = some (.int .i64 (kb : Int)) := HI.out.cell 2 rfl
  have k3 : w6.cell? ⟨b5, 3, none⟩ = some (.int .i64 c) := HI.out.cell 3 rfl
  have kr : w6.cell? ⟨b1, kb, none⟩ = some (.int .u32 (regI l (kb : Int))) := HF.out.hc.regc HR.out
  go_upto_region 21 with (fail)
  go_quiet (fail)
  replace HF := hid (HF.out.kept (grown_drewN (grown_refl _ none) nq))
  replace HI := hid (HI.out.kept0 (grown_drewN (grown_refl _ none) nq))
  replace HM := hid (HM.out.kept0 (grown_drewN (grown_refl _ none) nq))
  replace HG := hid (grown_drewN HG.out nq)
  clear k0 k2 k3 kr kop kp k7
  generalize w6.drewN nq = w8 at HF HI HM HG ⊢
  have kop : w8.cell? ⟨b5, 0, none⟩ = some (.int .i64 12) := HI.out.cell 0 rfl
  go_wp2_with fail
  refine (rwalk_any HM.out HN.out Hn2.out Hu.out root AD A0 A1 false user V true HB1.out HV1.out).mono ?_; rintro e w9 ⟨rfl, hg⟩
  clear kop
  replace HF := hid (HF.out.kept hg)
  replace HI := hid (HI.out.kept0 hg)
  replace HM := hid (HM.out.kept0 hg)
  replace HG := hid (grown_trans HG.out hg)
  clear hg
  have kop : w9.cell? ⟨b5, 0, none⟩ = some (.int .i64 12) := HI.out.cell 0 rfl
  go_wp2_with fail
  refine (rread_at HM.out V k X HK2.out Hx.out).mono ?_; rintro e w10 ⟨rfl, rfl⟩
  have k1 : w9.cell? ⟨b5, 1, none⟩ = some (.int .i64 (ka : Int)) := HI.out.cell 1 rfl
  have kr : w9.cell? ⟨b1, ka, none⟩ = some (.int .u32 y) := HF.out.hc.regc HY.out
  have kf := fun j => HF.out.hc.free j
  have HF2 := hid (HF.out.sReg HO.out ka ha X)
  go_upto_region 31 with (fail)
  clear k1 kr kf kop HI HF
  generalize w9.setCell ⟨b1, ka, none⟩ (.int .u32 X) = w11 at HF2 ⊢
  have kp := HF2.out.hc.pc
  have kf := fun k => HF2.out.hc.free k
  have HF9 := hid (HF2.out.sPc HO.out ((pc + ln) % 4294967296))
  go_upto_region 32 with (fail)
  refine region_ret2 HF9.out HO.out rfl (sp_one _ _ _ _ _ _ _ _) rfl rfl rfl rfl rfl rfl rfl rfl rfl rfl rfl rfl rfl (by kernel_rfl) (by kernel_rfl) (by kernel_rfl) (by kernel_rfl) rfl Tryd.underlying47 (by kernel_rfl) rfl rfl rfl rfl rfl rfl (fun _ _ _ h => h) (fun _ _ _ h => h) ?_
  intro w9 hE
  have HE := hid hE
  clear hE
  go_wp2
  refine bodyPost_ret (HE.out.results Tryd.results20 _ rfl rfl rfl rfl Tryd.underlying46 Tryd.underlying47 (cpu_size_info HE.out.r1.len) (by kernel_rfl)) rfl ?_
  exact ⟨rfl, Lv.after HG.out HE.out.lv HB.out⟩
set_option maxRecDepth 100000 in
set_option maxHeartbeats 4000000 in
theorem rmove_st (h : RefAt W m b0 N xs) (hN : N = n * 16) (hn2 : n ≤ 1024) (hu : U32s xs) (hl : Regs l) (p0 : 0 ≤ pc) (p1 : pc < 4294967296) (root : Int) (user : Bool) (ka kb : Nat) (ha : ka < 16) (hb : kb < 16) (c0 : 0 ≤ c) (c1 : c ≤ 255) (AD : Int) (hA : (regI l (kb : Int) + c) % 4294967296 = AD) (hp : atB xs n root AD true user = true) (k : Nat) (hk : atV xs n root AD true user = (k : Int)) (hk2 : k < n * 16) (hs : fetchP xs n root pc user = ⟨0, 0, 13, (ka : Int), (kb : Int), c, im, ln⟩) :
    Calls Tryd.prog 20 #[.pointer (some ⟨m, 0, none⟩), .int .i64 root, .agg (cpuC ⟨l, pc, ie, eie, epc, tv, cc, cd⟩), .bool user] W fun e w' => e = .returned (.tuple #[.agg (cpuC ⟨l, (pc + ln) % 4294967296, ie, eie, epc, tv, cc, cd⟩), .agg (spC 0 0 13 (ka : Int) (kb : Int) c im ln)]) ∧ RefAt w' m b0 N (xs.set k (regI l (ka : Int))) ∧ W.grownBy w' (some b0) := by
  have hkb0 : (0 : Int) ≤ (kb : Int) := by omega
  have hkb1 : (kb : Int) < 16 := by omega
  have hka0 : (0 : Int) ≤ (ka : Int) := by omega
  have hka1 : (ka : Int) < 16 := by omega
  have A0 : 0 ≤ AD := by rw [← hA]; omega
  have A1 : AD < 4294967296 := by rw [← hA]; omega
  have hw : IntKind.u32.wrap (regI l (kb : Int) + c) = AD := (addr_wrap2 _ _).trans hA
  have hwc : IntKind.u32.wrap c = c := u32_id c0 c1
  have hR := hl.get (k := (kb : Int)) (by omega) (by omega)
  rw [Int.toNat_natCast] at hR
  have HR := hid hR
  clear hR
  have HK : Hid (clsI 13 = 1) := hid (by decide)
  have HB1 := hid hp
  obtain ⟨V, hV⟩ : ∃ V, atV xs n root AD true user = V := ⟨_, rfl⟩
  rw [hV] at hk
  have HK2 := hid hk
  have HKn : Hid (k < N) := hid (by omega)
  have HV1 := hid hV
  clear hk hk2 hV hp
  have hA2 := hl.get (k := (ka : Int)) (by omega) (by omega)
  rw [Int.toNat_natCast] at hA2
  have HA2 := hid hA2
  clear hA2
  have Hz := zero_cpu
  have Hz2 := zero_rstop
  have Hz3 := zero_ins
  obtain ⟨b1, b3, b4, e1, e3, e4⟩ : ∃ b1 b3 b4, b1 = W.heap.size ∧ b3 = b1 + 1 ∧ b4 = b3 + 1 := ⟨_, _, _, rfl, rfl, rfl⟩
  have B13 : Hid (b1 ≠ b3 ∧ b1 ≠ b4 ∧ b3 ≠ b4 ∧ W.heap.size ≤ b1 ∧ W.heap.size ≤ b3 ∧ W.heap.size ≤ b4) := hid (by omega)
  have HC : Hid (CpuAt (((W.alloc (.cells (cpuC ⟨l, pc, ie, eie, epc, tv, cc, cd⟩) 46)).alloc (.cells (cpuC zeroP) 46)).alloc (.cells (spC 0 0 0 0 0 0 0 0) 47)) b1 ⟨l, pc, ie, eie, epc, tv, cc, cd⟩) := hid (by rw [e1]; exact ((CpuAt.new _ hl.len).alloc _).alloc _)
  have HR1 : Hid (CpuAt (((W.alloc (.cells (cpuC ⟨l, pc, ie, eie, epc, tv, cc, cd⟩) 46)).alloc (.cells (cpuC zeroP) 46)).alloc (.cells (spC 0 0 0 0 0 0 0 0) 47)) b3 zeroP) := hid (by rw [e3, e1]; exact (CpuAt.new2 _ _ rfl).alloc _)
  have HR2 : Hid (RwAt (((W.alloc (.cells (cpuC ⟨l, pc, ie, eie, epc, tv, cc, cd⟩) 46)).alloc (.cells (cpuC zeroP) 46)).alloc (.cells (spC 0 0 0 0 0 0 0 0) 47)) b4 47 (spC 0 0 0 0 0 0 0 0)) := hid (by
    rw [e4, e3, e1]
    have := RwAt.new2 (W.alloc (.cells (cpuC ⟨l, pc, ie, eie, epc, tv, cc, cd⟩) 46)) (.cells (cpuC zeroP) 46) 47 (spC 0 0 0 0 0 0 0 0)
    simp only [World.size_alloc] at this
    exact this)
  have HG : Hid (W.grownBy (((W.alloc (.cells (cpuC ⟨l, pc, ie, eie, epc, tv, cc, cd⟩) 46)).alloc (.cells (cpuC zeroP) 46)).alloc (.cells (spC 0 0 0 0 0 0 0 0) 47)) none) := hid (grown_alloc (grown_alloc (grown_alloc (grown_refl _ _) _) _) _)
  have HM := hid (h.kept0 HG.out)
  have Hm := hid h.mlt
  have Hbm := hid h.blt
  have HLen := hid (h.len.trans hN)
  have HN := hid hN
  have Hn2 := hid hn2
  have HL := hid hl
  have Hu := hid hu
  have HS := hid hs
  clear h hl hu hs hN hn2
  go_enter Tryd.func20, Tryd.ntmps20
  go_upto_region 1 with (fail)
  generalize (((W.alloc (.cells (cpuC ⟨l, pc, ie, eie, epc, tv, cc, cd⟩) 46)).alloc (.cells (cpuC zeroP) 46)).alloc (.cells (spC 0 0 0 0 0 0 0 0) 47)) = w3 at HC HR1 HR2 HM HG ⊢
  rw [← e1, ← e3, ← e4]
  clear e1 e3 e4
  have kp := HC.out.pc
  go_wp2_with fail
  refine (rfetch_of HM.out HN.out Hn2.out Hu.out root pc p0 p1 user 0 0 13 (ka : Int) (kb : Int) c im ln HS.out).mono ?_; rintro e w5 ⟨rfl, hg⟩
  clear kp
  replace HC := hid (HC.out.kept0 hg)
  replace HR1 := hid (HR1.out.kept0 hg)
  replace HR2 := hid (HR2.out.kept0 hg)
  replace HM := hid (HM.out.kept0 hg)
  replace HG := hid (grown_trans HG.out hg)
  clear hg
  have hg : w5.grownBy ((((w5.alloc (.cells (inC 0 0 0 0 0) 27)).alloc (.cells (spC 0 0 0 0 0 0 0 0) 47)).setRow w5.heap.size (inC 13 (ka : Int) (kb : Int) c im)).setRow (w5.heap.size + 1) (spC 0 0 13 (ka : Int) (kb : Int) c im ln)) none := grown_setRow (grown_setRow (grown_alloc (grown_alloc (grown_refl _ _) _) _) (Nat.le_refl _) _) (Nat.le_succ _) _
  have HI := hid ((((RwAt.new w5 27 (inC 0 0 0 0 0)).alloc (.cells (spC 0 0 0 0 0 0 0 0) 47)).row (inC 13 (ka : Int) (kb : Int) c im)).rowOther (w5.heap.size + 1) (spC 0 0 13 (ka : Int) (kb : Int) c im ln) (by omega))
  have HSt := hid (((RwAt.new2 w5 (.cells (inC 0 0 0 0 0) 27) 47 (spC 0 0 0 0 0 0 0 0)).rowOther w5.heap.size (inC 13 (ka : Int) (kb : Int) c im) (by omega)).row (spC 0 0 13 (ka : Int) (kb : Int) c im ln))
  have NW : Hid (b1 < w5.heap.size ∧ b3 < w5.heap.size ∧ b4 < w5.heap.size ∧ W.heap.size ≤ w5.heap.size) := hid ⟨HC.out.lt, HR1.out.lt, HR2.out.lt, HG.out.size⟩
  replace HC := hid (HC.out.kept0 hg)
  replace HR1 := hid (HR1.out.kept0 hg)
  replace HR2 := hid (HR2.out.kept0 hg)
  replace HM := hid (HM.out.kept0 hg)
  replace HG := hid (grown_trans HG.out hg)
  clear hg
  go_upto_region 2 with (first
    | (refine wpList_store_rw rfl 27 _ _ rfl rfl rfl ((RwAt.new _ _ _).alloc _) (by kernel_rfl) rfl (in_one _ _ _ _ _) ?_)
    | (refine wpList_store_rw rfl 47 _ _ rfl rfl rfl ((RwAt.new2 _ _ _ _).rowOther _ _ (by omega)) (by kernel_rfl) rfl (sp_one _ _ _ _ _ _ _ _) ?_)
    | fail)
  generalize ((((w5.alloc (.cells (inC 0 0 0 0 0) 27)).alloc (.cells (spC 0 0 0 0 0 0 0 0) 47)).setRow w5.heap.size (inC 13 (ka : Int) (kb : Int) c im)).setRow (w5.heap.size + 1) (spC 0 0 13 (ka : Int) (kb : Int) c im ln)) = w6 at HC HR1 HR2 HM HG HI HSt ⊢
  obtain ⟨b2, e2⟩ : ∃ b2, b2 = w5.heap.size + 1 := ⟨_, rfl⟩
  have HO : Hid (Ord4 b1 b2 b3 b4) := hid (by unfold Ord4; have := NW.out; have := B13.out; omega)
  have HB : Hid (∀ i ∈ [b1, b2, b3, b4], W.heap.size ≤ i) := hid (by have := NW.out; have := B13.out; simp only [List.mem_cons, List.not_mem_nil, or_false]; omega)
  have N5 : Hid (w5.heap.size ≠ b1 ∧ w5.heap.size ≠ b2) := hid (by have := NW.out; omega)
  rw [← e2] at HSt ⊢
  clear e2
  generalize w5.heap.size = b5 at HI N5 ⊢
  have HF : Hid (FAt w6 47 b1 b2 b3 b4 ⟨l, pc, ie, eie, epc, tv, cc, cd⟩ (spC 0 0 13 (ka : Int) (kb : Int) c im ln) w6) := hid ⟨HC.out, HSt.out, HR1.out, HR2.out, Lv.refl _ _⟩
  clear HC HSt HR1 HR2 NW B13
  have k0 : w6.cell? ⟨b2, 0, none⟩ = some (.int .i64 0) := HF.out.hs.cell 0 rfl
  have kop : w6.cell? ⟨b5, 0, none⟩ = some (.int .i64 13) := HI.out.cell 0 rfl
  have kp := HF.out.hc.pc
  have k7 : w6.cell? ⟨b2, 7, none⟩ = some (.int .u32 ln) := HF.out.hs.cell 7 rfl
  go_wp2_with fail
  refine (rclass_any _ _).mono ?_; rw [HK.out]; rintro e w7 ⟨rfl, rfl⟩
  have k2 : w6.cell? ⟨b5, 2, none⟩ = some (.int .i64 (kb : Int)) := HI.out.cell 2 rfl
  have k3 : w6.cell? ⟨b5, 3, none⟩ = some (.int .i64 c) := HI.out.cell 3 rfl
  have kr : w6.cell? ⟨b1, kb, none⟩ = some (.int .u32 (regI l (kb : Int))) := HF.out.hc.regc HR.out
  go_upto_region 21 with (fail)
  go_quiet (fail)
  replace HF := hid (HF.out.kept (grown_drewN (grown_refl _ none) nq))
  replace HI := hid (HI.out.kept0 (grown_drewN (grown_refl _ none) nq))
  replace HM := hid (HM.out.kept0 (grown_drewN (grown_refl _ none) nq))
  replace HG := hid (grown_drewN HG.out nq)
  clear k0 k2 k3 kr kop kp k7
  generalize w6.drewN nq = w8 at HF HI HM HG ⊢
  have kop : w8.cell? ⟨b5, 0, none⟩ = some (.int .i64 13) := HI.out.cell 0 rfl
  go_wp2_with fail
  refine (rwalk_any HM.out HN.out Hn2.out Hu.out root AD A0 A1 true user V true HB1.out HV1.out).mono ?_; rintro e w9 ⟨rfl, hg⟩
  clear kop
  replace HF := hid (HF.out.kept hg)
  replace HI := hid (HI.out.kept0 hg)
  replace HM := hid (HM.out.kept0 hg)
  replace HG := hid (grown_trans HG.out hg)
  clear hg
  have kop : w9.cell? ⟨b5, 0, none⟩ = some (.int .i64 13) := HI.out.cell 0 rfl
  have k1 : w9.cell? ⟨b5, 1, none⟩ = some (.int .i64 (ka : Int)) := HI.out.cell 1 rfl
  have kr : w9.cell? ⟨b1, ka, none⟩ = some (.int .u32 (regI l (ka : Int))) := HF.out.hc.regc HA2.out
  go_wp2_with fail
  refine (rwrite_at HM.out V (regI l (ka : Int)) k HK2.out HKn.out).mono ?_; rintro e w10 ⟨rfl, hM2, hg⟩
  have HM2 := hid hM2
  have NR : Hid (∀ i ∈ [b1, b2, b3, b4], i ≠ b0 ∧ i ≠ m) := hid (fun i hi => by have := HB.out i hi; have := Hm.out; have := Hbm.out; omega)
  have HF2 := hid (HF.out.aside hg (NR.out b1 (by simp)).1 (NR.out b2 (by simp)).1 (NR.out b3 (by simp)).1 (NR.out b4 (by simp)).1)
  have HGR := hid (grown_trans (grown_none (r := some b0) HG.out) hg)
  clear hM2 hg HM HF k1 kr kop HI
  have kp := HF2.out.hc.pc
  have kf := fun k => HF2.out.hc.free k
  have HF9 := hid (HF2.out.sPc HO.out ((pc + ln) % 4294967296))
  go_upto_region 32 with (fail)
  refine region_ret2 HF9.out HO.out rfl (sp_one _ _ _ _ _ _ _ _) rfl rfl rfl rfl rfl rfl rfl rfl rfl rfl rfl rfl rfl (by kernel_rfl) (by kernel_rfl) (by kernel_rfl) (by kernel_rfl) rfl Tryd.underlying47 (by kernel_rfl) rfl rfl rfl rfl rfl rfl (fun _ _ _ h => h) (fun _ _ _ h => h) ?_
  intro w9 hE
  have HE := hid hE
  clear hE
  go_wp2
  refine bodyPost_ret (HE.out.results Tryd.results20 _ rfl rfl rfl rfl Tryd.underlying46 Tryd.underlying47 (cpu_size_info HE.out.r1.len) (by kernel_rfl)) rfl ?_
  exact ⟨rfl, HM2.out.keptL HE.out.lv (fun hi => (NR.out m hi).2 rfl) (fun hi => (NR.out b0 hi).1 rfl), Lv.afterR HGR.out HE.out.lv HB.out⟩
end
end Go.Proofs.YtaecbekobpgkoaaDoor
