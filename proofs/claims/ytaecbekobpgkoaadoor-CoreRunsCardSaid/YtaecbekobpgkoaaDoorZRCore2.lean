/- The document's own Once: contracts (where nothing is done). (Made by a program.) -/
import Derived.Test.YtaecbekobpgkoaaDoorZRCore1
import Derived.Test.YtaecbekobpgkoaaDoorZGCoreB
import Derived.Test.YtaecbekobpgkoaaDoorZAlu7
namespace Go.Proofs.YtaecbekobpgkoaaDoor
open Go.RowKit
section
variable {m b0 n N : Nat} {xs : List Int} {l : List Int} {pc : Int} {ie eie : Bool} {epc tv cc cd ca ad op a b c im ln : Int} {W : World}
set_option maxRecDepth 100000 in
set_option maxHeartbeats 4000000 in
theorem ronce_stop (h : RefAt W m b0 N xs) (hN : N = n * 16) (hn2 : n ≤ 1024) (hu : U32s xs) (hl : Regs l) (p0 : 0 ≤ pc) (p1 : pc < 4294967296) (root : Int) (user : Bool) (hca : (ca == 0) = false) (hs : fetchP xs n root pc user = ⟨ca, ad, op, a, b, c, im, ln⟩) :
    Calls Tryd.prog 20 #[.pointer (some ⟨m, 0, none⟩), .int .i64 root, .agg (cpuC ⟨l, pc, ie, eie, epc, tv, cc, cd⟩), .bool user] W fun e w' => e = .returned (.tuple #[.agg (cpuC ⟨l, pc, ie, eie, epc, tv, cc, cd⟩), .agg (spC ca ad op a b c im ln)]) ∧ W.grownBy w' none := by
  have Hz := zero_cpu
  have Hz2 := zero_rstop
  have Hz3 := zero_ins
  obtain ⟨b1, b3, b4, e1, e3, e4⟩ : ∃ b1 b3 b4, b1 = W.heap.size ∧ b3 = b1 + 1 ∧ b4 = b3 + 1 := ⟨_, _, _, rfl, rfl, rfl⟩
  have B13 : Hid (b1 ≠ b3 ∧ b1 ≠ b4 ∧ b3 ≠ b4 ∧ W.heap.size ≤ b1 ∧ W.heap.size ≤ b3 ∧ W.heap.size ≤ b4) := hid (by omega)
  have HC : Hid (CpuAt (((W.alloc (.cells (cpuC ⟨l, pc, ie, eie, epc, tv, cc, cd⟩) 46)).alloc (.cells (cpuC zeroP) 46)).alloc (.cells (spC 0 0 0 0 0 0 0 0) 47)) b1 ⟨l, pc, ie, eie, epc, tv, cc, cd⟩) := hid (by rw [e1]; exact ((CpuAt.new _ hl.len).alloc _).alloc _)
  have HR1 : Hid (CpuAt (((W.alloc (.cells (cpuC ⟨l, pc, ie, eie, epc, tv, cc, cd⟩) 46)).alloc (.cells (cpuC zeroP) 46)).alloc (.cells (spC 0 0 0 0 0 0 0 0) 47)) b3 zeroP) := hid (by rw [e3, e1]; exact (CpuAt.new2 _ _ rfl).alloc _)
  have HR2 : Hid (RwAt (((W.alloc (.cells (cpuC ⟨l, pc, ie, eie, epc, tv, cc, cd⟩) 46)).alloc (.cells (cpuC zeroP) 46)).alloc (.cells (spC 0 0 0 0 0 0 0 0) 47)) b4 47 (spC 0 0 0 0 0 0 0 0)) := hid (by
    rw [e4, e3, e1]
    have := RwAt.new2 (W.alloc (.cells (cpuC ⟨l, pc, ie, eie, epc, tv, cc, cd⟩) 46)) (.cells (cpuC zeroP) 46) 47 (spC 0 0 0 0 0 0 0 0)
    simp only [World.size_alloc] at this
    exact this)
  have HG : Hid (W.grownBy (((W.alloc (.cells (cpuC ⟨l, pc, ie, eie, epc, tv, cc, cd⟩) 46)).alloc (.cells (cpuC zeroP) 46)).alloc (.cells (spC 0 0 0 0 0 0 0 0) 47)) none) := hid (grown_alloc (grown_alloc (grown_alloc (grown_refl _ _) _) _) _)
  have HM := hid (h.kept0 HG.out)
  have Hm := hid h.mlt
  have Hbm := hid h.blt
  have HLen := hid (h.len.trans hN)
  have HN := hid hN
  have Hn2 := hid hn2
  have HL := hid hl
  have Hu := hid hu
  have HS := hid hs
  clear h hl hu hs hN hn2
  go_enter Tryd.func20, Tryd.ntmps20
  go_upto_region 1 with (fail)
  generalize (((W.alloc (.cells (cpuC ⟨l, pc, ie, eie, epc, tv, cc, cd⟩) 46)).alloc (.cells (cpuC zeroP) 46)).alloc (.cells (spC 0 0 0 0 0 0 0 0) 47)) = w3 at HC HR1 HR2 HM HG ⊢
  rw [← e1, ← e3, ← e4]
  clear e1 e3 e4
  have kp := HC.out.pc
  go_wp2_with fail
  refine (rfetch_of HM.out HN.out Hn2.out Hu.out root pc p0 p1 user ca ad op a b c im ln HS.out).mono ?_; rintro e w5 ⟨rfl, hg⟩
  clear kp
  replace HC := hid (HC.out.kept0 hg)
  replace HR1 := hid (HR1.out.kept0 hg)
  replace HR2 := hid (HR2.out.kept0 hg)
  replace HM := hid (HM.out.kept0 hg)
  replace HG := hid (grown_trans HG.out hg)
  clear hg
  have hg : w5.grownBy ((((w5.alloc (.cells (inC 0 0 0 0 0) 27)).alloc (.cells (spC 0 0 0 0 0 0 0 0) 47)).setRow w5.heap.size (inC op a b c im)).setRow (w5.heap.size + 1) (spC ca ad op a b c im ln)) none := grown_setRow (grown_setRow (grown_alloc (grown_alloc (grown_refl _ _) _) _) (Nat.le_refl _) _) (Nat.le_succ _) _
  have HI := hid ((((RwAt.new w5 27 (inC 0 0 0 0 0)).alloc (.cells (spC 0 0 0 0 0 0 0 0) 47)).row (inC op a b c im)).rowOther (w5.heap.size + 1) (spC ca ad op a b c im ln) (by omega))
  have HSt := hid (((RwAt.new2 w5 (.cells (inC 0 0 0 0 0) 27) 47 (spC 0 0 0 0 0 0 0 0)).rowOther w5.heap.size (inC op a b c im) (by omega)).row (spC ca ad op a b c im ln))
  have NW : Hid (b1 < w5.heap.size ∧ b3 < w5.heap.size ∧ b4 < w5.heap.size ∧ W.heap.size ≤ w5.heap.size) := hid ⟨HC.out.lt, HR1.out.lt, HR2.out.lt, HG.out.size⟩
  replace HC := hid (HC.out.kept0 hg)
  replace HR1 := hid (HR1.out.kept0 hg)
  replace HR2 := hid (HR2.out.kept0 hg)
  replace HM := hid (HM.out.kept0 hg)
  replace HG := hid (grown_trans HG.out hg)
  clear hg
  go_upto_region 2 with (first
    | (refine wpList_store_rw rfl 27 _ _ rfl rfl rfl ((RwAt.new _ _ _).alloc _) (by kernel_rfl) rfl (in_one _ _ _ _ _) ?_)
    | (refine wpList_store_rw rfl 47 _ _ rfl rfl rfl ((RwAt.new2 _ _ _ _).rowOther _ _ (by omega)) (by kernel_rfl) rfl (sp_one _ _ _ _ _ _ _ _) ?_)
    | fail)
  generalize ((((w5.alloc (.cells (inC 0 0 0 0 0) 27)).alloc (.cells (spC 0 0 0 0 0 0 0 0) 47)).setRow w5.heap.size (inC op a b c im)).setRow (w5.heap.size + 1) (spC ca ad op a b c im ln)) = w6 at HC HR1 HR2 HM HG HI HSt ⊢
  obtain ⟨b2, e2⟩ : ∃ b2, b2 = w5.heap.size + 1 := ⟨_, rfl⟩
  have HO : Hid (Ord4 b1 b2 b3 b4) := hid (by unfold Ord4; have := NW.out; have := B13.out; omega)
  have HB : Hid (∀ i ∈ [b1, b2, b3, b4], W.heap.size ≤ i) := hid (by have := NW.out; have := B13.out; simp only [List.mem_cons, List.not_mem_nil, or_false]; omega)
  have N5 : Hid (w5.heap.size ≠ b1 ∧ w5.heap.size ≠ b2) := hid (by have := NW.out; omega)
  rw [← e2] at HSt ⊢
  clear e2
  generalize w5.heap.size = b5 at HI N5 ⊢
  have HF : Hid (FAt w6 47 b1 b2 b3 b4 ⟨l, pc, ie, eie, epc, tv, cc, cd⟩ (spC ca ad op a b c im ln) w6) := hid ⟨HC.out, HSt.out, HR1.out, HR2.out, Lv.refl _ _⟩
  clear HC HSt HR1 HR2 NW B13
  have k0 : w6.cell? ⟨b2, 0, none⟩ = some (.int .i64 ca) := HF.out.hs.cell 0 rfl
  go_upto_region 3 with (fail)
  refine region_ret2 HF.out HO.out rfl (sp_one _ _ _ _ _ _ _ _) rfl rfl rfl rfl rfl rfl rfl rfl rfl rfl rfl rfl rfl (by kernel_rfl) (by kernel_rfl) (by kernel_rfl) (by kernel_rfl) rfl Tryd.underlying47 (by kernel_rfl) rfl rfl rfl rfl rfl rfl (fun _ _ _ h => h) (fun _ _ _ h => h) ?_
  intro w9 hE
  have HE := hid hE
  clear hE
  go_wp2
  refine bodyPost_ret (HE.out.results Tryd.results20 _ rfl rfl rfl rfl Tryd.underlying46 Tryd.underlying47 (cpu_size_info HE.out.r1.len) (by kernel_rfl)) rfl ?_
  exact ⟨rfl, Lv.after HG.out HE.out.lv HB.out⟩
set_option maxRecDepth 100000 in
set_option maxHeartbeats 4000000 in
theorem ronce_call (h : RefAt W m b0 N xs) (hN : N = n * 16) (hn2 : n ≤ 1024) (hu : U32s xs) (hl : Regs l) (p0 : 0 ≤ pc) (p1 : pc < 4294967296) (root : Int) (user : Bool) (hk : clsI op = 4) (hs : fetchP xs n root pc user = ⟨0, 0, op, a, b, c, im, ln⟩) :
    Calls Tryd.prog 20 #[.pointer (some ⟨m, 0, none⟩), .int .i64 root, .agg (cpuC ⟨l, pc, ie, eie, epc, tv, cc, cd⟩), .bool user] W fun e w' => e = .returned (.tuple #[.agg (cpuC ⟨l, pc, ie, eie, epc, tv, cc, cd⟩), .agg (spC 7 0 op a b c im ln)]) ∧ W.grownBy w' none := by
  have HK := hid hk
  clear hk
  have Hz := zero_cpu
  have Hz2 := zero_rstop
  have Hz3 := zero_ins
  obtain ⟨b1, b3, b4, e1, e3, e4⟩ : ∃ b1 b3 b4, b1 = W.heap.size ∧ b3 = b1 + 1 ∧ b4 = b3 + 1 := ⟨_, _, _, rfl, rfl, rfl⟩
  have B13 : Hid (b1 ≠ b3 ∧ b1 ≠ b4 ∧ b3 ≠ b4 ∧ W.heap.size ≤ b1 ∧ W.heap.size ≤ b3 ∧ W.heap.size ≤ b4) := hid (by omega)
  have HC : Hid (CpuAt (((W.alloc (.cells (cpuC ⟨l, pc, ie, eie, epc, tv, cc, cd⟩) 46)).alloc (.cells (cpuC zeroP) 46)).alloc (.cells (spC 0 0 0 0 0 0 0 0) 47)) b1 ⟨l, pc, ie, eie, epc, tv, cc, cd⟩) := hid (by rw [e1]; exact ((CpuAt.new _ hl.len).alloc _).alloc _)
  have HR1 : Hid (CpuAt (((W.alloc (.cells (cpuC ⟨l, pc, ie, eie, epc, tv, cc, cd⟩) 46)).alloc (.cells (cpuC zeroP) 46)).alloc (.cells (spC 0 0 0 0 0 0 0 0) 47)) b3 zeroP) := hid (by rw [e3, e1]; exact (CpuAt.new2 _ _ rfl).alloc _)
  have HR2 : Hid (RwAt (((W.alloc (.cells (cpuC ⟨l, pc, ie, eie, epc, tv, cc, cd⟩) 46)).alloc (.cells (cpuC zeroP) 46)).alloc (.cells (spC 0 0 0 0 0 0 0 0) 47)) b4 47 (spC 0 0 0 0 0 0 0 0)) := hid (by
    rw [e4, e3, e1]
    have := RwAt.new2 (W.alloc (.cells (cpuC ⟨l, pc, ie, eie, epc, tv, cc, cd⟩) 46)) (.cells (cpuC zeroP) 46) 47 (spC 0 0 0 0 0 0 0 0)
    simp only [World.size_alloc] at this
    exact this)
  have HG : Hid (W.grownBy (((W.alloc (.cells (cpuC ⟨l, pc, ie, eie, epc, tv, cc, cd⟩) 46)).alloc (.cells (cpuC zeroP) 46)).alloc (.cells (spC 0 0 0 0 0 0 0 0) 47)) none) := hid (grown_alloc (grown_alloc (grown_alloc (grown_refl _ _) _) _) _)
  have HM := hid (h.kept0 HG.out)
  have Hm := hid h.mlt
  have Hbm := hid h.blt
  have HLen := hid (h.len.trans hN)
  have HN := hid hN
  have Hn2 := hid hn2
  have HL := hid hl
  have Hu := hid hu
  have HS := hid hs
  clear h hl hu hs hN hn2
  go_enter Tryd.func20, Tryd.ntmps20
  go_upto_region 1 with (fail)
  generalize (((W.alloc (.cells (cpuC ⟨l, pc, ie, eie, epc, tv, cc, cd⟩) 46)).alloc (.cells (cpuC zeroP) 46)).alloc (.cells (spC 0 0 0 0 0 0 0 0) 47)) = w3 at HC HR1 HR2 HM HG ⊢
  rw [← e1, ← e3, ← e4]
  clear e1 e3 e4
  have kp := HC.out.pc
  go_wp2_with fail
  refine (rfetch_of HM.out HN.out Hn2.out Hu.out root pc p0 p1 user 0 0 op a b c im ln HS.out).mono ?_; rintro e w5 ⟨rfl, hg⟩
  clear kp
  replace HC := hid (HC.out.kept0 hg)
  replace HR1 := hid (HR1.out.kept0 hg)
  replace HR2 := hid (HR2.out.kept0 hg)
  replace HM := hid (HM.out.kept0 hg)
  replace HG := hid (grown_trans HG.out hg)
  clear hg
  have hg : w5.grownBy ((((w5.alloc (.cells (inC 0 0 0 0 0) 27)).alloc (.cells (spC 0 0 0 0 0 0 0 0) 47)).setRow w5.heap.size (inC op a b c im)).setRow (w5.heap.size + 1) (spC 0 0 op a b c im ln)) none := grown_setRow (grown_setRow (grown_alloc (grown_alloc (grown_refl _ _) _) _) (Nat.le_refl _) _) (Nat.le_succ _) _
  have HI := hid ((((RwAt.new w5 27 (inC 0 0 0 0 0)).alloc (.cells (spC 0 0 0 0 0 0 0 0) 47)).row (inC op a b c im)).rowOther (w5.heap.size + 1) (spC 0 0 op a b c im ln) (by omega))
  have HSt := hid (((RwAt.new2 w5 (.cells (inC 0 0 0 0 0) 27) 47 (spC 0 0 0 0 0 0 0 0)).rowOther w5.heap.size (inC op a b c im) (by omega)).row (spC 0 0 op a b c im ln))
  have NW : Hid (b1 < w5.heap.size ∧ b3 < w5.heap.size ∧ b4 < w5.heap.size ∧ W.heap.size ≤ w5.heap.size) := hid ⟨HC.out.lt, HR1.out.lt, HR2.out.lt, HG.out.size⟩
  replace HC := hid (HC.out.kept0 hg)
  replace HR1 := hid (HR1.out.kept0 hg)
  replace HR2 := hid (HR2.out.kept0 hg)
  replace HM := hid (HM.out.kept0 hg)
  replace HG := hid (grown_trans HG.out hg)
  clear hg
  go_upto_region 2 with (first
    | (refine wpList_store_rw rfl 27 _ _ rfl rfl rfl ((RwAt.new _ _ _).alloc _) (by kernel_rfl) rfl (in_one _ _ _ _ _) ?_)
    | (refine wpList_store_rw rfl 47 _ _ rfl rfl rfl ((RwAt.new2 _ _ _ _).rowOther _ _ (by omega)) (by kernel_rfl) rfl (sp_one _ _ _ _ _ _ _ _) ?_)
    | fail)
  generalize ((((w5.alloc (.cells (inC 0 0 0 0 0) 27)).alloc (.cells (spC 0 0 0 0 0 0 0 0) 47)).setRow w5.heap.size (inC op a b c im)).setRow (w5.heap.size + 1) (spC 0 0 op a b c im ln)) = w6 at HC HR1 HR2 HM HG HI HSt ⊢
  obtain ⟨b2, e2⟩ : ∃ b2, b2 = w5.heap.size + 1 := ⟨_, rfl⟩
  have HO : Hid (Ord4 b1 b2 b3 b4) := hid (by unfold Ord4; have := NW.out; have := B13.out; omega)
  have HB : Hid (∀ i ∈ [b1, b2, b3, b4], W.heap.size ≤ i) := hid (by have := NW.out; have := B13.out; simp only [List.mem_cons, List.not_mem_nil, or_false]; omega)
  have N5 : Hid (w5.heap.size ≠ b1 ∧ w5.heap.size ≠ b2) := hid (by have := NW.out; omega)
  rw [← e2] at HSt ⊢
  clear e2
  generalize w5.heap.size = b5 at HI N5 ⊢
  have HF : Hid (FAt w6 47 b1 b2 b3 b4 ⟨l, pc, ie, eie, epc, tv, cc, cd⟩ (spC 0 0 op a b c im ln) w6) := hid ⟨HC.out, HSt.out, HR1.out, HR2.out, Lv.refl _ _⟩
  clear HC HSt HR1 HR2 NW B13
  have k0 : w6.cell? ⟨b2, 0, none⟩ = some (.int .i64 0) := HF.out.hs.cell 0 rfl
  have kop : w6.cell? ⟨b5, 0, none⟩ = some (.int .i64 op) := HI.out.cell 0 rfl
  have kp := HF.out.hc.pc
  have k7 : w6.cell? ⟨b2, 7, none⟩ = some (.int .u32 ln) := HF.out.hs.cell 7 rfl
  go_wp2_with fail
  refine (rclass_any _ _).mono ?_; rw [HK.out]; rintro e w7 ⟨rfl, rfl⟩
  have kf := fun k => HF.out.hs.free k
  have HF2 := hid (HF.out.sCa HO.out 7)
  go_upto_region 8 with (fail)
  refine region_ret2 HF2.out HO.out rfl (sp_one _ _ _ _ _ _ _ _) rfl rfl rfl rfl rfl rfl rfl rfl rfl rfl rfl rfl rfl (by kernel_rfl) (by kernel_rfl) (by kernel_rfl) (by kernel_rfl) rfl Tryd.underlying47 (by kernel_rfl) rfl rfl rfl rfl rfl rfl (fun _ _ _ h => h) (fun _ _ _ h => h) ?_
  intro w9 hE
  have HE := hid hE
  clear hE
  go_wp2
  refine bodyPost_ret (HE.out.results Tryd.results20 _ rfl rfl rfl rfl Tryd.underlying46 Tryd.underlying47 (cpu_size_info HE.out.r1.len) (by kernel_rfl)) rfl ?_
  exact ⟨rfl, Lv.after HG.out HE.out.lv HB.out⟩
set_option maxRecDepth 100000 in
set_option maxHeartbeats 4000000 in
theorem ronce_priv (h : RefAt W m b0 N xs) (hN : N = n * 16) (hn2 : n ≤ 1024) (hu : U32s xs) (hl : Regs l) (p0 : 0 ≤ pc) (p1 : pc < 4294967296) (root : Int) (user : Bool) (hk : clsI op = 2) (hs : fetchP xs n root pc user = ⟨0, 0, op, a, b, c, im, ln⟩) :
    Calls Tryd.prog 20 #[.pointer (some ⟨m, 0, none⟩), .int .i64 root, .agg (cpuC ⟨l, pc, ie, eie, epc, tv, cc, cd⟩), .bool user] W fun e w' => e = .returned (.tuple #[.agg (cpuC ⟨l, pc, ie, eie, epc, tv, cc, cd⟩), .agg (spC 6 0 op a b c im ln)]) ∧ W.grownBy w' none := by
  have HK := hid hk
  clear hk
  have Hz := zero_cpu
  have Hz2 := zero_rstop
  have Hz3 := zero_ins
  obtain ⟨b1, b3, b4, e1, e3, e4⟩ : ∃ b1 b3 b4, b1 = W.heap.size ∧ b3 = b1 + 1 ∧ b4 = b3 + 1 := ⟨_, _, _, rfl, rfl, rfl⟩
  have B13 : Hid (b1 ≠ b3 ∧ b1 ≠ b4 ∧ b3 ≠ b4 ∧ W.heap.size ≤ b1 ∧ W.heap.size ≤ b3 ∧ W.heap.size ≤ b4) := hid (by omega)
  have HC : Hid (CpuAt (((W.alloc (.cells (cpuC ⟨l, pc, ie, eie, epc, tv, cc, cd⟩) 46)).alloc (.cells (cpuC zeroP) 46)).alloc (.cells (spC 0 0 0 0 0 0 0 0) 47)) b1 ⟨l, pc, ie, eie, epc, tv, cc, cd⟩) := hid (by rw [e1]; exact ((CpuAt.new _ hl.len).alloc _).alloc _)
  have HR1 : Hid (CpuAt (((W.alloc (.cells (cpuC ⟨l, pc, ie, eie, epc, tv, cc, cd⟩) 46)).alloc (.cells (cpuC zeroP) 46)).alloc (.cells (spC 0 0 0 0 0 0 0 0) 47)) b3 zeroP) := hid (by rw [e3, e1]; exact (CpuAt.new2 _ _ rfl).alloc _)
  have HR2 : Hid (RwAt (((W.alloc (.cells (cpuC ⟨l, pc, ie, eie, epc, tv, cc, cd⟩) 46)).alloc (.cells (cpuC zeroP) 46)).alloc (.cells (spC 0 0 0 0 0 0 0 0) 47)) b4 47 (spC 0 0 0 0 0 0 0 0)) := hid (by
    rw [e4, e3, e1]
    have := RwAt.new2 (W.alloc (.cells (cpuC ⟨l, pc, ie, eie, epc, tv, cc, cd⟩) 46)) (.cells (cpuC zeroP) 46) 47 (spC 0 0 0 0 0 0 0 0)
    simp only [World.size_alloc] at this
    exact this)
  have HG : Hid (W.grownBy (((W.alloc (.cells (cpuC ⟨l, pc, ie, eie, epc, tv, cc, cd⟩) 46)).alloc (.cells (cpuC zeroP) 46)).alloc (.cells (spC 0 0 0 0 0 0 0 0) 47)) none) := hid (grown_alloc (grown_alloc (grown_alloc (grown_refl _ _) _) _) _)
  have HM := hid (h.kept0 HG.out)
  have Hm := hid h.mlt
  have Hbm := hid h.blt
  have HLen := hid (h.len.trans hN)
  have HN := hid hN
  have Hn2 := hid hn2
  have HL := hid hl
  have Hu := hid hu
  have HS := hid hs
  clear h hl hu hs hN hn2
  go_enter Tryd.func20, Tryd.ntmps20
  go_upto_region 1 with (fail)
  generalize (((W.alloc (.cells (cpuC ⟨l, pc, ie, eie, epc, tv, cc, cd⟩) 46)).alloc (.cells (cpuC zeroP) 46)).alloc (.cells (spC 0 0 0 0 0 0 0 0) 47)) = w3 at HC HR1 HR2 HM HG ⊢
  rw [← e1, ← e3, ← e4]
  clear e1 e3 e4
  have kp := HC.out.pc
  go_wp2_with fail
  refine (rfetch_of HM.out HN.out Hn2.out Hu.out root pc p0 p1 user 0 0 op a b c im ln HS.out).mono ?_; rintro e w5 ⟨rfl, hg⟩
  clear kp
  replace HC := hid (HC.out.kept0 hg)
  replace HR1 := hid (HR1.out.kept0 hg)
  replace HR2 := hid (HR2.out.kept0 hg)
  replace HM := hid (HM.out.kept0 hg)
  replace HG := hid (grown_trans HG.out hg)
  clear hg
  have hg : w5.grownBy ((((w5.alloc (.cells (inC 0 0 0 0 0) 27)).alloc (.cells (spC 0 0 0 0 0 0 0 0) 47)).setRow w5.heap.size (inC op a b c im)).setRow (w5.heap.size + 1) (spC 0 0 op a b c im ln)) none := grown_setRow (grown_setRow (grown_alloc (grown_alloc (grown_refl _ _) _) _) (Nat.le_refl _) _) (Nat.le_succ _) _
  have HI := hid ((((RwAt.new w5 27 (inC 0 0 0 0 0)).alloc (.cells (spC 0 0 0 0 0 0 0 0) 47)).row (inC op a b c im)).rowOther (w5.heap.size + 1) (spC 0 0 op a b c im ln) (by omega))
  have HSt := hid (((RwAt.new2 w5 (.cells (inC 0 0 0 0 0) 27) 47 (spC 0 0 0 0 0 0 0 0)).rowOther w5.heap.size (inC op a b c im) (by omega)).row (spC 0 0 op a b c im ln))
  have NW : Hid (b1 < w5.heap.size ∧ b3 < w5.heap.size ∧ b4 < w5.heap.size ∧ W.heap.size ≤ w5.heap.size) := hid ⟨HC.out.lt, HR1.out.lt, HR2.out.lt, HG.out.size⟩
  replace HC := hid (HC.out.kept0 hg)
  replace HR1 := hid (HR1.out.kept0 hg)
  replace HR2 := hid (HR2.out.kept0 hg)
  replace HM := hid (HM.out.kept0 hg)
  replace HG := hid (grown_trans HG.out hg)
  clear hg
  go_upto_region 2 with (first
    | (refine wpList_store_rw rfl 27 _ _ rfl rfl rfl ((RwAt.new _ _ _).alloc _) (by kernel_rfl) rfl (in_one _ _ _ _ _) ?_)
    | (refine wpList_store_rw rfl 47 _ _ rfl rfl rfl ((RwAt.new2 _ _ _ _).rowOther _ _ (by omega)) (by kernel_rfl) rfl (sp_one _ _ _ _ _ _ _ _) ?_)
    | fail)
  generalize ((((w5.alloc (.cells (inC 0 0 0 0 0) 27)).alloc (.cells (spC 0 0 0 0 0 0 0 0) 47)).setRow w5.heap.size (inC op a b c im)).setRow (w5.heap.size + 1) (spC 0 0 op a b c im ln)) = w6 at HC HR1 HR2 HM HG HI HSt ⊢
  obtain ⟨b2, e2⟩ : ∃ b2, b2 = w5.heap.size + 1 := ⟨_, rfl⟩
  have HO : Hid (Ord4 b1 b2 b3 b4) := hid (by unfold Ord4; have := NW.out; have := B13.out; omega)
  have HB : Hid (∀ i ∈ [b1, b2, b3, b4], W.heap.size ≤ i) := hid (by have := NW.out; have := B13.out; simp only [List.mem_cons, List.not_mem_nil, or_false]; omega)
  have N5 : Hid (w5.heap.size ≠ b1 ∧ w5.heap.size ≠ b2) := hid (by have := NW.out; omega)
  rw [← e2] at HSt ⊢
  clear e2
  generalize w5.heap.size = b5 at HI N5 ⊢
  have HF : Hid (FAt w6 47 b1 b2 b3 b4 ⟨l, pc, ie, eie, epc, tv, cc, cd⟩ (spC 0 0 op a b c im ln) w6) := hid ⟨HC.out, HSt.out, HR1.out, HR2.out, Lv.refl _ _⟩
  clear HC HSt HR1 HR2 NW B13
  have k0 : w6.cell? ⟨b2, 0, none⟩ = some (.int .i64 0) := HF.out.hs.cell 0 rfl
  have kop : w6.cell? ⟨b5, 0, none⟩ = some (.int .i64 op) := HI.out.cell 0 rfl
  have kp := HF.out.hc.pc
  have k7 : w6.cell? ⟨b2, 7, none⟩ = some (.int .u32 ln) := HF.out.hs.cell 7 rfl
  go_wp2_with fail
  refine (rclass_any _ _).mono ?_; rw [HK.out]; rintro e w7 ⟨rfl, rfl⟩
  have kf := fun k => HF.out.hs.free k
  have HF2 := hid (HF.out.sCa HO.out 6)
  go_upto_region 11 with (fail)
  refine region_ret2 HF2.out HO.out rfl (sp_one _ _ _ _ _ _ _ _) rfl rfl rfl rfl rfl rfl rfl rfl rfl rfl rfl rfl rfl (by kernel_rfl) (by kernel_rfl) (by kernel_rfl) (by kernel_rfl) rfl Tryd.underlying47 (by kernel_rfl) rfl rfl rfl rfl rfl rfl (fun _ _ _ h => h) (fun _ _ _ h => h) ?_
  intro w9 hE
  have HE := hid hE
  clear hE
  go_wp2
  refine bodyPost_ret (HE.out.results Tryd.results20 _ rfl rfl rfl rfl Tryd.underlying46 Tryd.underlying47 (cpu_size_info HE.out.r1.len) (by kernel_rfl)) rfl ?_
  exact ⟨rfl, Lv.after HG.out HE.out.lv HB.out⟩
set_option maxRecDepth 100000 in
set_option maxHeartbeats 4000000 in
theorem ronce_silno (h : RefAt W m b0 N xs) (hN : N = n * 16) (hn2 : n ≤ 1024) (hu : U32s xs) (hl : Regs l) (p0 : 0 ≤ pc) (p1 : pc < 4294967296) (root : Int)  (hk : clsI op = 3) (hs : fetchP xs n root pc false = ⟨0, 0, op, a, b, c, im, ln⟩) :
    Calls Tryd.prog 20 #[.pointer (some ⟨m, 0, none⟩), .int .i64 root, .agg (cpuC ⟨l, pc, ie, eie, epc, tv, cc, cd⟩), .bool false] W fun e w' => e = .returned (.tuple #[.agg (cpuC ⟨l, pc, ie, eie, epc, tv, cc, cd⟩), .agg (spC 6 0 op a b c im ln)]) ∧ W.grownBy w' none := by
  have HK := hid hk
  clear hk
  have Hz := zero_cpu
  have Hz2 := zero_rstop
  have Hz3 := zero_ins
  obtain ⟨b1, b3, b4, e1, e3, e4⟩ : ∃ b1 b3 b4, b1 = W.heap.size ∧ b3 = b1 + 1 ∧ b4 = b3 + 1 := ⟨_, _, _, rfl, rfl, rfl⟩
  have B13 : Hid (b1 ≠ b3 ∧ b1 ≠ b4 ∧ b3 ≠ b4 ∧ W.heap.size ≤ b1 ∧ W.heap.size ≤ b3 ∧ W.heap.size ≤ b4) := hid (by omega)
  have HC : Hid (CpuAt (((W.alloc (.cells (cpuC ⟨l, pc, ie, eie, epc, tv, cc, cd⟩) 46)).alloc (.cells (cpuC zeroP) 46)).alloc (.cells (spC 0 0 0 0 0 0 0 0) 47)) b1 ⟨l, pc, ie, eie, epc, tv, cc, cd⟩) := hid (by rw [e1]; exact ((CpuAt.new _ hl.len).alloc _).alloc _)
  have HR1 : Hid (CpuAt (((W.alloc (.cells (cpuC ⟨l, pc, ie, eie, epc, tv, cc, cd⟩) 46)).alloc (.cells (cpuC zeroP) 46)).alloc (.cells (spC 0 0 0 0 0 0 0 0) 47)) b3 zeroP) := hid (by rw [e3, e1]; exact (CpuAt.new2 _ _ rfl).alloc _)
  have HR2 : Hid (RwAt (((W.alloc (.cells (cpuC ⟨l, pc, ie, eie, epc, tv, cc, cd⟩) 46)).alloc (.cells (cpuC zeroP) 46)).alloc (.cells (spC 0 0 0 0 0 0 0 0) 47)) b4 47 (spC 0 0 0 0 0 0 0 0)) := hid (by
    rw [e4, e3, e1]
    have := RwAt.new2 (W.alloc (.cells (cpuC ⟨l, pc, ie, eie, epc, tv, cc, cd⟩) 46)) (.cells (cpuC zeroP) 46) 47 (spC 0 0 0 0 0 0 0 0)
    simp only [World.size_alloc] at this
    exact this)
  have HG : Hid (W.grownBy (((W.alloc (.cells (cpuC ⟨l, pc, ie, eie, epc, tv, cc, cd⟩) 46)).alloc (.cells (cpuC zeroP) 46)).alloc (.cells (spC 0 0 0 0 0 0 0 0) 47)) none) := hid (grown_alloc (grown_alloc (grown_alloc (grown_refl _ _) _) _) _)
  have HM := hid (h.kept0 HG.out)
  have Hm := hid h.mlt
  have Hbm := hid h.blt
  have HLen := hid (h.len.trans hN)
  have HN := hid hN
  have Hn2 := hid hn2
  have HL := hid hl
  have Hu := hid hu
  have HS := hid hs
  clear h hl hu hs hN hn2
  go_enter Tryd.func20, Tryd.ntmps20
  go_upto_region 1 with (fail)
  generalize (((W.alloc (.cells (cpuC ⟨l, pc, ie, eie, epc, tv, cc, cd⟩) 46)).alloc (.cells (cpuC zeroP) 46)).alloc (.cells (spC 0 0 0 0 0 0 0 0) 47)) = w3 at HC HR1 HR2 HM HG ⊢
  rw [← e1, ← e3, ← e4]
  clear e1 e3 e4
  have kp := HC.out.pc
  go_wp2_with fail
  refine (rfetch_of HM.out HN.out Hn2.out Hu.out root pc p0 p1 false 0 0 op a b c im ln HS.out).mono ?_; rintro e w5 ⟨rfl, hg⟩
  clear kp
  replace HC := hid (HC.out.kept0 hg)
  replace HR1 := hid (HR1.out.kept0 hg)
  replace HR2 := hid (HR2.out.kept0 hg)
  replace HM := hid (HM.out.kept0 hg)
  replace HG := hid (grown_trans HG.out hg)
  clear hg
  have hg : w5.grownBy ((((w5.alloc (.cells (inC 0 0 0 0 0) 27)).alloc (.cells (spC 0 0 0 0 0 0 0 0) 47)).setRow w5.heap.size (inC op a b c im)).setRow (w5.heap.size + 1) (spC 0 0 op a b c im ln)) none := grown_setRow (grown_setRow (grown_alloc (grown_alloc (grown_refl _ _) _) _) (Nat.le_refl _) _) (Nat.le_succ _) _
  have HI := hid ((((RwAt.new w5 27 (inC 0 0 0 0 0)).alloc (.cells (spC 0 0 0 0 0 0 0 0) 47)).row (inC op a b c im)).rowOther (w5.heap.size + 1) (spC 0 0 op a b c im ln) (by omega))
  have HSt := hid (((RwAt.new2 w5 (.cells (inC 0 0 0 0 0) 27) 47 (spC 0 0 0 0 0 0 0 0)).rowOther w5.heap.size (inC op a b c im) (by omega)).row (spC 0 0 op a b c im ln))
  have NW : Hid (b1 < w5.heap.size ∧ b3 < w5.heap.size ∧ b4 < w5.heap.size ∧ W.heap.size ≤ w5.heap.size) := hid ⟨HC.out.lt, HR1.out.lt, HR2.out.lt, HG.out.size⟩
  replace HC := hid (HC.out.kept0 hg)
  replace HR1 := hid (HR1.out.kept0 hg)
  replace HR2 := hid (HR2.out.kept0 hg)
  replace HM := hid (HM.out.kept0 hg)
  replace HG := hid (grown_trans HG.out hg)
  clear hg
  go_upto_region 2 with (first
    | (refine wpList_store_rw rfl 27 _ _ rfl rfl rfl ((RwAt.new _ _ _).alloc _) (by kernel_rfl) rfl (in_one _ _ _ _ _) ?_)
    | (refine wpList_store_rw rfl 47 _ _ rfl rfl rfl ((RwAt.new2 _ _ _ _).rowOther _ _ (by omega)) (by kernel_rfl) rfl (sp_one _ _ _ _ _ _ _ _) ?_)
    | fail)
  generalize ((((w5.alloc (.cells (inC 0 0 0 0 0) 27)).alloc (.cells (spC 0 0 0 0 0 0 0 0) 47)).setRow w5.heap.size (inC op a b c im)).setRow (w5.heap.size + 1) (spC 0 0 op a b c im ln)) = w6 at HC HR1 HR2 HM HG HI HSt ⊢
  obtain ⟨b2, e2⟩ : ∃ b2, b2 = w5.heap.size + 1 := ⟨_, rfl⟩
  have HO : Hid (Ord4 b1 b2 b3 b4) := hid (by unfold Ord4; have := NW.out; have := B13.out; omega)
  have HB : Hid (∀ i ∈ [b1, b2, b3, b4], W.heap.size ≤ i) := hid (by have := NW.out; have := B13.out; simp only [List.mem_cons, List.not_mem_nil, or_false]; omega)
  have N5 : Hid (w5.heap.size ≠ b1 ∧ w5.heap.size ≠ b2) := hid (by have := NW.out; omega)
  rw [← e2] at HSt ⊢
  clear e2
  generalize w5.heap.size = b5 at HI N5 ⊢
  have HF : Hid (FAt w6 47 b1 b2 b3 b4 ⟨l, pc, ie, eie, epc, tv, cc, cd⟩ (spC 0 0 op a b c im ln) w6) := hid ⟨HC.out, HSt.out, HR1.out, HR2.out, Lv.refl _ _⟩
  clear HC HSt HR1 HR2 NW B13
  have k0 : w6.cell? ⟨b2, 0, none⟩ = some (.int .i64 0) := HF.out.hs.cell 0 rfl
  have kop : w6.cell? ⟨b5, 0, none⟩ = some (.int .i64 op) := HI.out.cell 0 rfl
  have kp := HF.out.hc.pc
  have k7 : w6.cell? ⟨b2, 7, none⟩ = some (.int .u32 ln) := HF.out.hs.cell 7 rfl
  go_wp2_with fail
  refine (rclass_any _ _).mono ?_; rw [HK.out]; rintro e w7 ⟨rfl, rfl⟩
  have kf := fun k => HF.out.hs.free k
  have HF2 := hid (HF.out.sCa HO.out 6)
  go_upto_region 15 with (fail)
  refine region_ret2 HF2.out HO.out rfl (sp_one _ _ _ _ _ _ _ _) rfl rfl rfl rfl rfl rfl rfl rfl rfl rfl rfl rfl rfl (by kernel_rfl) (by kernel_rfl) (by kernel_rfl) (by kernel_rfl) rfl Tryd.underlying47 (by kernel_rfl) rfl rfl rfl rfl rfl rfl (fun _ _ _ h => h) (fun _ _ _ h => h) ?_
  intro w9 hE
  have HE := hid hE
  clear hE
  go_wp2
  refine bodyPost_ret (HE.out.results Tryd.results20 _ rfl rfl rfl rfl Tryd.underlying46 Tryd.underlying47 (cpu_size_info HE.out.r1.len) (by kernel_rfl)) rfl ?_
  exact ⟨rfl, Lv.after HG.out HE.out.lv HB.out⟩
set_option maxRecDepth 100000 in
set_option maxHeartbeats 4000000 in
theorem ronce_sil (h : RefAt W m b0 N xs) (hN : N = n * 16) (hn2 : n ≤ 1024) (hu : U32s xs) (hl : Regs l) (p0 : 0 ≤ pc) (p1 : pc < 4294967296) (root : Int)  (hk : clsI op = 3) (h66 : (op == 66) = false) (hs : fetchP xs n root pc true = ⟨0, 0, op, a, b, c, im, ln⟩) :
    Calls Tryd.prog 20 #[.pointer (some ⟨m, 0, none⟩), .int .i64 root, .agg (cpuC ⟨l, pc, ie, eie, epc, tv, cc, cd⟩), .bool true] W fun e w' => e = .returned (.tuple #[.agg (cpuC ⟨l, (pc + ln) % 4294967296, ie, eie, epc, tv, cc, cd⟩), .agg (spC 0 0 op a b c im ln)]) ∧ W.grownBy w' none := by
  have HK := hid hk
  clear hk
  have Hz := zero_cpu
  have Hz2 := zero_rstop
  have Hz3 := zero_ins
  obtain ⟨b1, b3, b4, e1, e3, e4⟩ : ∃ b1 b3 b4, b1 = W.heap.size ∧ b3 = b1 + 1 ∧ b4 = b3 + 1 := ⟨_, _, _, rfl, rfl, rfl⟩
  have B13 : Hid (b1 ≠ b3 ∧ b1 ≠ b4 ∧ b3 ≠ b4 ∧ W.heap.size ≤ b1 ∧ W.heap.size ≤ b3 ∧ W.heap.size ≤ b4) := hid (by omega)
  have HC : Hid (CpuAt (((W.alloc (.cells (cpuC ⟨l, pc, ie, eie, epc, tv, cc, cd⟩) 46)).alloc (.cells (cpuC zeroP) 46)).alloc (.cells (spC 0 0 0 0 0 0 0 0) 47)) b1 ⟨l, pc, ie, eie, epc, tv, cc, cd⟩) := hid (by rw [e1]; exact ((CpuAt.new _ hl.len).alloc _).alloc _)
  have HR1 : Hid (CpuAt (((W.alloc (.cells (cpuC ⟨l, pc, ie, eie, epc, tv, cc, cd⟩) 46)).alloc (.cells (cpuC zeroP) 46)).alloc (.cells (spC 0 0 0 0 0 0 0 0) 47)) b3 zeroP) := hid (by rw [e3, e1]; exact (CpuAt.new2 _ _ rfl).alloc _)
  have HR2 : Hid (RwAt (((W.alloc (.cells (cpuC ⟨l, pc, ie, eie, epc, tv, cc, cd⟩) 46)).alloc (.cells (cpuC zeroP) 46)).alloc (.cells (spC 0 0 0 0 0 0 0 0) 47)) b4 47 (spC 0 0 0 0 0 0 0 0)) := hid (by
    rw [e4, e3, e1]
    have := RwAt.new2 (W.alloc (.cells (cpuC ⟨l, pc, ie, eie, epc, tv, cc, cd⟩) 46)) (.cells (cpuC zeroP) 46) 47 (spC 0 0 0 0 0 0 0 0)
    simp only [World.size_alloc] at this
    exact this)
  have HG : Hid (W.grownBy (((W.alloc (.cells (cpuC ⟨l, pc, ie, eie, epc, tv, cc, cd⟩) 46)).alloc (.cells (cpuC zeroP) 46)).alloc (.cells (spC 0 0 0 0 0 0 0 0) 47)) none) := hid (grown_alloc (grown_alloc (grown_alloc (grown_refl _ _) _) _) _)
  have HM := hid (h.kept0 HG.out)
  have Hm := hid h.mlt
  have Hbm := hid h.blt
  have HLen := hid (h.len.trans hN)
  have HN := hid hN
  have Hn2 := hid hn2
  have HL := hid hl
  have Hu := hid hu
  have HS := hid hs
  clear h hl hu hs hN hn2
  go_enter Tryd.func20, Tryd.ntmps20
  go_upto_region 1 with (fail)
  generalize (((W.alloc (.cells (cpuC ⟨l, pc, ie, eie, epc, tv, cc, cd⟩) 46)).alloc (.cells (cpuC zeroP) 46)).alloc (.cells (spC 0 0 0 0 0 0 0 0) 47)) = w3 at HC HR1 HR2 HM HG ⊢
  rw [← e1, ← e3, ← e4]
  clear e1 e3 e4
  have kp := HC.out.pc
  go_wp2_with fail
  refine (rfetch_of HM.out HN.out Hn2.out Hu.out root pc p0 p1 true 0 0 op a b c im ln HS.out).mono ?_; rintro e w5 ⟨rfl, hg⟩
  clear kp
  replace HC := hid (HC.out.kept0 hg)
  replace HR1 := hid (HR1.out.kept0 hg)
  replace HR2 := hid (HR2.out.kept0 hg)
  replace HM := hid (HM.out.kept0 hg)
  replace HG := hid (grown_trans HG.out hg)
  clear hg
  have hg : w5.grownBy ((((w5.alloc (.cells (inC 0 0 0 0 0) 27)).alloc (.cells (spC 0 0 0 0 0 0 0 0) 47)).setRow w5.heap.size (inC op a b c im)).setRow (w5.heap.size + 1) (spC 0 0 op a b c im ln)) none := grown_setRow (grown_setRow (grown_alloc (grown_alloc (grown_refl _ _) _) _) (Nat.le_refl _) _) (Nat.le_succ _) _
  have HI := hid ((((RwAt.new w5 27 (inC 0 0 0 0 0)).alloc (.cells (spC 0 0 0 0 0 0 0 0) 47)).row (inC op a b c im)).rowOther (w5.heap.size + 1) (spC 0 0 op a b c im ln) (by omega))
  have HSt := hid (((RwAt.new2 w5 (.cells (inC 0 0 0 0 0) 27) 47 (spC 0 0 0 0 0 0 0 0)).rowOther w5.heap.size (inC op a b c im) (by omega)).row (spC 0 0 op a b c im ln))
  have NW : Hid (b1 < w5.heap.size ∧ b3 < w5.heap.size ∧ b4 < w5.heap.size ∧ W.heap.size ≤ w5.heap.size) := hid ⟨HC.out.lt, HR1.out.lt, HR2.out.lt, HG.out.size⟩
  replace HC := hid (HC.out.kept0 hg)
  replace HR1 := hid (HR1.out.kept0 hg)
  replace HR2 := hid (HR2.out.kept0 hg)
  replace HM := hid (HM.out.kept0 hg)
  replace HG := hid (grown_trans HG.out hg)
  clear hg
  go_upto_region 2 with (first
    | (refine wpList_store_rw rfl 27 _ _ rfl rfl rfl ((RwAt.new _ _ _).alloc _) (by kernel_rfl) rfl (in_one _ _ _ _ _) ?_)
    | (refine wpList_store_rw rfl 47 _ _ rfl rfl rfl ((RwAt.new2 _ _ _ _).rowOther _ _ (by omega)) (by kernel_rfl) rfl (sp_one _ _ _ _ _ _ _ _) ?_)
    | fail)
  generalize ((((w5.alloc (.cells (inC 0 0 0 0 0) 27)).alloc (.cells (spC 0 0 0 0 0 0 0 0) 47)).setRow w5.heap.size (inC op a b c im)).setRow (w5.heap.size + 1) (spC 0 0 op a b c im ln)) = w6 at HC HR1 HR2 HM HG HI HSt ⊢
  obtain ⟨b2, e2⟩ : ∃ b2, b2 = w5.heap.size + 1 := ⟨_, rfl⟩
  have HO : Hid (Ord4 b1 b2 b3 b4) := hid (by unfold Ord4; have := NW.out; have := B13.out; omega)
  have HB : Hid (∀ i ∈ [b1, b2, b3, b4], W.heap.size ≤ i) := hid (by have := NW.out; have := B13.out; simp only [List.mem_cons, List.not_mem_nil, or_false]; omega)
  have N5 : Hid (w5.heap.size ≠ b1 ∧ w5.heap.size ≠ b2) := hid (by have := NW.out; omega)
  rw [← e2] at HSt ⊢
  clear e2
  generalize w5.heap.size = b5 at HI N5 ⊢
  have HF : Hid (FAt w6 47 b1 b2 b3 b4 ⟨l, pc, ie, eie, epc, tv, cc, cd⟩ (spC 0 0 op a b c im ln) w6) := hid ⟨HC.out, HSt.out, HR1.out, HR2.out, Lv.refl _ _⟩
  clear HC HSt HR1 HR2 NW B13
  have k0 : w6.cell? ⟨b2, 0, none⟩ = some (.int .i64 0) := HF.out.hs.cell 0 rfl
  have kop : w6.cell? ⟨b5, 0, none⟩ = some (.int .i64 op) := HI.out.cell 0 rfl
  have kp := HF.out.hc.pc
  have k7 : w6.cell? ⟨b2, 7, none⟩ = some (.int .u32 ln) := HF.out.hs.cell 7 rfl
  go_wp2_with fail
  refine (rclass_any _ _).mono ?_; rw [HK.out]; rintro e w7 ⟨rfl, rfl⟩
  clear kp
  have kp := HF.out.hc.pc
  have kf := fun k => HF.out.hc.free k
  have HF9 := hid (HF.out.sPc HO.out ((pc + ln) % 4294967296))
  go_upto_region 19 with (fail)
  refine region_ret2 HF9.out HO.out rfl (sp_one _ _ _ _ _ _ _ _) rfl rfl rfl rfl rfl rfl rfl rfl rfl rfl rfl rfl rfl (by kernel_rfl) (by kernel_rfl) (by kernel_rfl) (by kernel_rfl) rfl Tryd.underlying47 (by kernel_rfl) rfl rfl rfl rfl rfl rfl (fun _ _ _ h => h) (fun _ _ _ h => h) ?_
  intro w9 hE
  have HE := hid hE
  clear hE
  go_wp2
  refine bodyPost_ret (HE.out.results Tryd.results20 _ rfl rfl rfl rfl Tryd.underlying46 Tryd.underlying47 (cpu_size_info HE.out.r1.len) (by kernel_rfl)) rfl ?_
  exact ⟨rfl, Lv.after HG.out HE.out.lv HB.out⟩
set_option maxRecDepth 100000 in
set_option maxHeartbeats 4000000 in
theorem ronce_gst (h : RefAt W m b0 N xs) (hN : N = n * 16) (hn2 : n ≤ 1024) (hu : U32s xs) (hl : Regs l) (p0 : 0 ≤ pc) (p1 : pc < 4294967296) (root : Int)  (k : Nat) (hk16 : k < 16) (hs : fetchP xs n root pc true = ⟨0, 0, 66, (k : Int), b, c, im, ln⟩) :
    Calls Tryd.prog 20 #[.pointer (some ⟨m, 0, none⟩), .int .i64 root, .agg (cpuC ⟨l, pc, ie, eie, epc, tv, cc, cd⟩), .bool true] W fun e w' => e = .returned (.tuple #[.agg (cpuC ⟨l.set k 1, (pc + ln) % 4294967296, ie, eie, epc, tv, cc, cd⟩), .agg (spC 0 0 66 (k : Int) b c im ln)]) ∧ W.grownBy w' none := by
  have HK : Hid (clsI 66 = 3) := hid (by decide)
  have hk0 : (0 : Int) ≤ (k : Int) := by omega
  have hk1 : (k : Int) < 16 := by omega
  obtain ⟨y, hy⟩ : ∃ y, l[k]? = some y := ⟨_, List.getElem?_eq_getElem (by rw [hl.len]; exact hk16)⟩
  have HY := hid hy
  clear hy
  have Hz := zero_cpu
  have Hz2 := zero_rstop
  have Hz3 := zero_ins
  obtain ⟨b1, b3, b4, e1, e3, e4⟩ : ∃ b1 b3 b4, b1 = W.heap.size ∧ b3 = b1 + 1 ∧ b4 = b3 + 1 := ⟨_, _, _, rfl, rfl, rfl⟩
  have B13 : Hid (b1 ≠ b3 ∧ b1 ≠ b4 ∧ b3 ≠ b4 ∧ W.heap.size ≤ b1 ∧ W.heap.size ≤ b3 ∧ W.heap.size ≤ b4) := hid (by omega)
  have HC : Hid (CpuAt (((W.alloc (.cells (cpuC ⟨l, pc, ie, eie, epc, tv, cc, cd⟩) 46)).alloc (.cells (cpuC zeroP) 46)).alloc (.cells (spC 0 0 0 0 0 0 0 0) 47)) b1 ⟨l, pc, ie, eie, epc, tv, cc, cd⟩) := hid (by rw [e1]; exact ((CpuAt.new _ hl.len).alloc _).alloc _)
  have HR1 : Hid (CpuAt (((W.alloc (.cells (cpuC ⟨l, pc, ie, eie, epc, tv, cc, cd⟩) 46)).alloc (.cells (cpuC zeroP) 46)).alloc (.cells (spC 0 0 0 0 0 0 0 0) 47)) b3 zeroP) := hid (by rw [e3, e1]; exact (CpuAt.new2 _ _ rfl).alloc _)
  have HR2 : Hid (RwAt (((W.alloc (.cells (cpuC ⟨l, pc, ie, eie, epc, tv, cc, cd⟩) 46)).alloc (.cells (cpuC zeroP) 46)).alloc (.cells (spC 0 0 0 0 0 0 0 0) 47)) b4 47 (spC 0 0 0 0 0 0 0 0)) := hid (by
    rw [e4, e3, e1]
    have := RwAt.new2 (W.alloc (.cells (cpuC ⟨l, pc, ie, eie, epc, tv, cc, cd⟩) 46)) (.cells (cpuC zeroP) 46) 47 (spC 0 0 0 0 0 0 0 0)
    simp only [World.size_alloc] at this
    exact this)
  have HG : Hid (W.grownBy (((W.alloc (.cells (cpuC ⟨l, pc, ie, eie, epc, tv, cc, cd⟩) 46)).alloc (.cells (cpuC zeroP) 46)).alloc (.cells (spC 0 0 0 0 0 0 0 0) 47)) none) := hid (grown_alloc (grown_alloc (grown_alloc (grown_refl _ _) _) _) _)
  have HM := hid (h.kept0 HG.out)
  have Hm := hid h.mlt
  have Hbm := hid h.blt
  have HLen := hid (h.len.trans hN)
  have HN := hid hN
  have Hn2 := hid hn2
  have HL := hid hl
  have Hu := hid hu
  have HS := hid hs
  clear h hl hu hs hN hn2
  go_enter Tryd.func20, Tryd.ntmps20
  go_upto_region 1 with (fail)
  generalize (((W.alloc (.cells (cpuC ⟨l, pc, ie, eie, epc, tv, cc, cd⟩) 46)).alloc (.cells (cpuC zeroP) 46)).alloc (.cells (spC 0 0 0 0 0 0 0 0) 47)) = w3 at HC HR1 HR2 HM HG ⊢
  rw [← e1, ← e3, ← e4]
  clear e1 e3 e4
  have kp := HC.out.pc
  go_wp2_with fail
  refine (rfetch_of HM.out HN.out Hn2.out Hu.out root pc p0 p1 true 0 0 66 (k : Int) b c im ln HS.out).mono ?_; rintro e w5 ⟨rfl, hg⟩
  clear kp
  replace HC := hid (HC.out.kept0 hg)
  replace HR1 := hid (HR1.out.kept0 hg)
  replace HR2 := hid (HR2.out.kept0 hg)
  replace HM := hid (HM.out.kept0 hg)
  replace HG := hid (grown_trans HG.out hg)
  clear hg
  have hg : w5.grownBy ((((w5.alloc (.cells (inC 0 0 0 0 0) 27)).alloc (.cells (spC 0 0 0 0 0 0 0 0) 47)).setRow w5.heap.size (inC 66 (k : Int) b c im)).setRow (w5.heap.size + 1) (spC 0 0 66 (k : Int) b c im ln)) none := grown_setRow (grown_setRow (grown_alloc (grown_alloc (grown_refl _ _) _) _) (Nat.le_refl _) _) (Nat.le_succ _) _
  have HI := hid ((((RwAt.new w5 27 (inC 0 0 0 0 0)).alloc (.cells (spC 0 0 0 0 0 0 0 0) 47)).row (inC 66 (k : Int) b c im)).rowOther (w5.heap.size + 1) (spC 0 0 66 (k : Int) b c im ln) (by omega))
  have HSt := hid (((RwAt.new2 w5 (.cells (inC 0 0 0 0 0) 27) 47 (spC 0 0 0 0 0 0 0 0)).rowOther w5.heap.size (inC 66 (k : Int) b c im) (by omega)).row (spC 0 0 66 (k : Int) b c im ln))
  have NW : Hid (b1 < w5.heap.size ∧ b3 < w5.heap.size ∧ b4 < w5.heap.size ∧ W.heap.size ≤ w5.heap.size) := hid ⟨HC.out.lt, HR1.out.lt, HR2.out.lt, HG.out.size⟩
  replace HC := hid (HC.out.kept0 hg)
  replace HR1 := hid (HR1.out.kept0 hg)
  replace HR2 := hid (HR2.out.kept0 hg)
  replace HM := hid (HM.out.kept0 hg)
  replace HG := hid (grown_trans HG.out hg)
  clear hg
  go_upto_region 2 with (first
    | (refine wpList_store_rw rfl 27 _ _ rfl rfl rfl ((RwAt.new _ _ _).alloc _) (by kernel_rfl) rfl (in_one _ _ _ _ _) ?_)
    | (refine wpList_store_rw rfl 47 _ _ rfl rfl rfl ((RwAt.new2 _ _ _ _).rowOther _ _ (by omega)) (by kernel_rfl) rfl (sp_one _ _ _ _ _ _ _ _) ?_)
    | fail)
  generalize ((((w5.alloc (.cells (inC 0 0 0 0 0) 27)).alloc (.cells (spC 0 0 0 0 0 0 0 0) 47)).setRow w5.heap.size (inC 66 (k : Int) b c im)).setRow (w5.heap.size + 1) (spC 0 0 66 (k : Int) b c im ln)) = w6 at HC HR1 HR2 HM HG HI HSt ⊢
  obtain ⟨b2, e2⟩ : ∃ b2, b2 = w5.heap.size + 1 := ⟨_, rfl⟩
  have HO : Hid (Ord4 b1 b2 b3 b4) := hid (by unfold Ord4; have := NW.out; have := B13.out; omega)
  have HB : Hid (∀ i ∈ [b1, b2, b3, b4], W.heap.size ≤ i) := hid (by have := NW.out; have := B13.out; simp only [List.mem_cons, List.not_mem_nil, or_false]; omega)
  have N5 : Hid (w5.heap.size ≠ b1 ∧ w5.heap.size ≠ b2) := hid (by have := NW.out; omega)
  rw [← e2] at HSt ⊢
  clear e2
  generalize w5.heap.size = b5 at HI N5 ⊢
  have HF : Hid (FAt w6 47 b1 b2 b3 b4 ⟨l, pc, ie, eie, epc, tv, cc, cd⟩ (spC 0 0 66 (k : Int) b c im ln) w6) := hid ⟨HC.out, HSt.out, HR1.out, HR2.out, Lv.refl _ _⟩
  clear HC HSt HR1 HR2 NW B13
  have k0 : w6.cell? ⟨b2, 0, none⟩ = some (.int .i64 0) := HF.out.hs.cell 0 rfl
  have kop : w6.cell? ⟨b5, 0, none⟩ = some (.int .i64 66) := HI.out.cell 0 rfl
  have kp := HF.out.hc.pc
  have k7 : w6.cell? ⟨b2, 7, none⟩ = some (.int .u32 ln) := HF.out.hs.cell 7 rfl
  go_wp2_with fail
  refine (rclass_any _ _).mono ?_; rw [HK.out]; rintro e w7 ⟨rfl, rfl⟩
  have k1 : w6.cell? ⟨b5, 1, none⟩ = some (.int .i64 (k : Int)) := HI.out.cell 1 rfl
  have kr : w6.cell? ⟨b1, k, none⟩ = some (.int .u32 y) := HF.out.hc.regc HY.out
  have kf := fun k => HF.out.hc.free k
  have HF2 := hid (HF.out.sReg HO.out k hk16 1)
  go_upto_region 18 with (fail)
  clear kop kp k7 k0 k1 kr kf HF
  generalize w6.setCell ⟨b1, k, none⟩ (.int .u32 1) = w8 at HF2 ⊢
  have kp := HF2.out.hc.pc
  have kf := fun k => HF2.out.hc.free k
  have HF9 := hid (HF2.out.sPc HO.out ((pc + ln) % 4294967296))
  go_upto_region 19 with (fail)
  refine region_ret2 HF9.out HO.out rfl (sp_one _ _ _ _ _ _ _ _) rfl rfl rfl rfl rfl rfl rfl rfl rfl rfl rfl rfl rfl (by kernel_rfl) (by kernel_rfl) (by kernel_rfl) (by kernel_rfl) rfl Tryd.underlying47 (by kernel_rfl) rfl rfl rfl rfl rfl rfl (fun _ _ _ h => h) (fun _ _ _ h => h) ?_
  intro w9 hE
  have HE := hid hE
  clear hE
  go_wp2
  refine bodyPost_ret (HE.out.results Tryd.results20 _ rfl rfl rfl rfl Tryd.underlying46 Tryd.underlying47 (cpu_size_info HE.out.r1.len) (by kernel_rfl)) rfl ?_
  exact ⟨rfl, Lv.after HG.out HE.out.lv HB.out⟩
end
end Go.Proofs.YtaecbekobpgkoaaDoor
