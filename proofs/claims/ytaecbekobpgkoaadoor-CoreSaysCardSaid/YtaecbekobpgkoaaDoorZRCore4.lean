/- The document's own Once: contracts (reckoning, jumps). (Made by a program.) -/
import Derived.Test.YtaecbekobpgkoaaDoorZRCore1
import Derived.Test.YtaecbekobpgkoaaDoorZGCoreB
import Derived.Test.YtaecbekobpgkoaaDoorZAlu7
import Derived.Test.YtaecbekobpgkoaaDoorZAlu6
namespace Go.Proofs.YtaecbekobpgkoaaDoor
open Go.RowKit
theorem zero_regs (w : World) : (zeroValue 44).run Tryd.prog w = .ok (.agg (wA zeroL)) w := by kernel_rfl
section
variable {m b0 n N : Nat} {xs : List Int} {l : List Int} {pc : Int} {ie eie : Bool} {epc tv cc cd ca ad op a b c im ln : Int} {W : World}
set_option maxRecDepth 100000 in
set_option maxHeartbeats 4000000 in
theorem ronce_alu (h : RefAt W m b0 N xs) (hN : N = n * 16) (hn2 : n ≤ 1024) (hu : U32s xs) (hl : Regs l) (p0 : 0 ≤ pc) (p1 : pc < 4294967296) (root : Int) (user : Bool) (hk : clsI op = 1) (ho1 : op ≠ 12) (ho2 : op ≠ 13) (hj : jmpB op = false) (L : List Int) (hLe : aluL op a b c im l = L) (hLl : L.length = 16) (hs : fetchP xs n root pc user = ⟨0, 0, op, a, b, c, im, ln⟩) :
    Calls Tryd.prog 20 #[.pointer (some ⟨m, 0, none⟩), .int .i64 root, .agg (cpuC ⟨l, pc, ie, eie, epc, tv, cc, cd⟩), .bool user] W fun e w' => e = .returned (.tuple #[.agg (cpuC ⟨L, (pc + ln) % 4294967296, ie, eie, epc, tv, cc, cd⟩), .agg (spC 0 0 op a b c im ln)]) ∧ W.grownBy w' none := by
  have hq1 : (op == 12) = false := by simpa using ho1
  have hq2 : (op == 13) = false := by simpa using ho2
  clear ho1 ho2
  have HK := hid hk
  have HLl := hid hLl
  have HT : Hid (takenB op a b c im l = false) := hid (by unfold takenB askB; rw [hj]; simp)
  have HA : Hid (askB op a b c im = false) := hid (by unfold askB; rw [hj]; simp)
  obtain ⟨B, hBe⟩ : ∃ B, aluB op a b c im = B := ⟨_, rfl⟩
  have HBe := hid hBe
  have HLe := hid hLe
  have Hz4 := zero_regs
  clear hk hj hBe hLe hLl
  have Hz := zero_cpu
  have Hz2 := zero_rstop
  have Hz3 := zero_ins
  obtain ⟨b1, b3, b4, e1, e3, e4⟩ : ∃ b1 b3 b4, b1 = W.heap.size ∧ b3 = b1 + 1 ∧ b4 = b3 + 1 := ⟨_, _, _, rfl, rfl, rfl⟩
  have B13 : Hid (b1 ≠ b3 ∧ b1 ≠ b4 ∧ b3 ≠ b4 ∧ W.heap.size ≤ b1 ∧ W.heap.size ≤ b3 ∧ W.heap.size ≤ b4) := hid (by omega)
  have HC : Hid (CpuAt (((W.alloc (.cells (cpuC ⟨l, pc, ie, eie, epc, tv, cc, cd⟩) 46)).alloc (.cells (cpuC zeroP) 46)).alloc (.cells (spC 0 0 0 0 0 0 0 0) 47)) b1 ⟨l, pc, ie, eie, epc, tv, cc, cd⟩) := hid (by rw [e1]; exact ((CpuAt.new _ hl.len).alloc _).alloc _)
  have HR1 : Hid (CpuAt (((W.alloc (.cells (cpuC ⟨l, pc, ie, eie, epc, tv, cc, cd⟩) 46)).alloc (.cells (cpuC zeroP) 46)).alloc (.cells (spC 0 0 0 0 0 0 0 0) 47)) b3 zeroP) := hid (by rw [e3, e1]; exact (CpuAt.new2 _ _ rfl).alloc _)
  have HR2 : Hid (RwAt (((W.alloc (.cells (cpuC ⟨l, pc, ie, eie, epc, tv, cc, cd⟩) 46)).alloc (.cells (cpuC zeroP) 46)).alloc (.cells (spC 0 0 0 0 0 0 0 0) 47)) b4 47 (spC 0 0 0 0 0 0 0 0)) := hid (by
    rw [e4, e3, e1]
    have := RwAt.new2 (W.alloc (.cells (cpuC ⟨l, pc, ie, eie, epc, tv, cc, cd⟩) 46)) (.cells (cpuC zeroP) 46) 47 (spC 0 0 0 0 0 0 0 0)
    simp only [World.size_alloc] at this
    exact this)
  have HG : Hid (W.grownBy (((W.alloc (.cells (cpuC ⟨l, pc, ie, eie, epc, tv, cc, cd⟩) 46)).alloc (.cells (cpuC zeroP) 46)).alloc (.cells (spC 0 0 0 0 0 0 0 0) 47)) none) := hid (grown_alloc (grown_alloc (grown_alloc (grown_refl _ _) _) _) _)
  have HM := hid (h.kept0 HG.out)
  have Hm := hid h.mlt
  have Hbm := hid h.blt
  have HLen := hid (h.len.trans hN)
  have HN := hid hN
  have Hn2 := hid hn2
  have HL := hid hl
  have Hu := hid hu
  have HS := hid hs
  clear h hl hu hs hN hn2
  go_enter Tryd.func20, Tryd.ntmps20
  go_upto_region 1 with (fail)
  generalize (((W.alloc (.cells (cpuC ⟨l, pc, ie, eie, epc, tv, cc, cd⟩) 46)).alloc (.cells (cpuC zeroP) 46)).alloc (.cells (spC 0 0 0 0 0 0 0 0) 47)) = w3 at HC HR1 HR2 HM HG ⊢
  rw [← e1, ← e3, ← e4]
  clear e1 e3 e4
  have kp := HC.out.pc
  go_wp2_with fail
  refine (rfetch_of HM.out HN.out Hn2.out Hu.out root pc p0 p1 user 0 0 op a b c im ln HS.out).mono ?_; rintro e w5 ⟨rfl, hg⟩
  clear kp
  replace HC := hid (HC.out.kept0 hg)
  replace HR1 := hid (HR1.out.kept0 hg)
  replace HR2 := hid (HR2.out.kept0 hg)
  replace HM := hid (HM.out.kept0 hg)
  replace HG := hid (grown_trans HG.out hg)
  clear hg
  have hg : w5.grownBy ((((w5.alloc (.cells (inC 0 0 0 0 0) 27)).alloc (.cells (spC 0 0 0 0 0 0 0 0) 47)).setRow w5.heap.size (inC op a b c im)).setRow (w5.heap.size + 1) (spC 0 0 op a b c im ln)) none := grown_setRow (grown_setRow (grown_alloc (grown_alloc (grown_refl _ _) _) _) (Nat.le_refl _) _) (Nat.le_succ _) _
  have HI := hid ((((RwAt.new w5 27 (inC 0 0 0 0 0)).alloc (.cells (spC 0 0 0 0 0 0 0 0) 47)).row (inC op a b c im)).rowOther (w5.heap.size + 1) (spC 0 0 op a b c im ln) (by omega))
  have HSt := hid (((RwAt.new2 w5 (.cells (inC 0 0 0 0 0) 27) 47 (spC 0 0 0 0 0 0 0 0)).rowOther w5.heap.size (inC op a b c im) (by omega)).row (spC 0 0 op a b c im ln))
  have NW : Hid (b1 < w5.heap.size ∧ b3 < w5.heap.size ∧ b4 < w5.heap.size ∧ W.heap.size ≤ w5.heap.size) := hid ⟨HC.out.lt, HR1.out.lt, HR2.out.lt, HG.out.size⟩
  replace HC := hid (HC.out.kept0 hg)
  replace HR1 := hid (HR1.out.kept0 hg)
  replace HR2 := hid (HR2.out.kept0 hg)
  replace HM := hid (HM.out.kept0 hg)
  replace HG := hid (grown_trans HG.out hg)
  clear hg
  go_upto_region 2 with (first
    | (refine wpList_store_rw rfl 27 _ _ rfl rfl rfl ((RwAt.new _ _ _).alloc _) (by kernel_rfl) rfl (in_one _ _ _ _ _) ?_)
    | (refine wpList_store_rw rfl 47 _ _ rfl rfl rfl ((RwAt.new2 _ _ _ _).rowOther _ _ (by omega)) (by kernel_rfl) rfl (sp_one _ _ _ _ _ _ _ _) ?_)
    | fail)
  generalize ((((w5.alloc (.cells (inC 0 0 0 0 0) 27)).alloc (.cells (spC 0 0 0 0 0 0 0 0) 47)).setRow w5.heap.size (inC op a b c im)).setRow (w5.heap.size + 1) (spC 0 0 op a b c im ln)) = w6 at HC HR1 HR2 HM HG HI HSt ⊢
  obtain ⟨b2, e2⟩ : ∃ b2, b2 = w5.heap.size + 1 := ⟨_, rfl⟩
  have HO : Hid (Ord4 b1 b2 b3 b4) := hid (by unfold Ord4; have := NW.out; have := B13.out; omega)
  have HB : Hid (∀ i ∈ [b1, b2, b3, b4], W.heap.size ≤ i) := hid (by have := NW.out; have := B13.out; simp only [List.mem_cons, List.not_mem_nil, or_false]; omega)
  have N5 : Hid (w5.heap.size ≠ b1 ∧ w5.heap.size ≠ b2) := hid (by have := NW.out; omega)
  rw [← e2] at HSt ⊢
  clear e2
  generalize w5.heap.size = b5 at HI N5 ⊢
  have HF : Hid (FAt w6 47 b1 b2 b3 b4 ⟨l, pc, ie, eie, epc, tv, cc, cd⟩ (spC 0 0 op a b c im ln) w6) := hid ⟨HC.out, HSt.out, HR1.out, HR2.out, Lv.refl _ _⟩
  clear HC HSt HR1 HR2 NW B13
  have k0 : w6.cell? ⟨b2, 0, none⟩ = some (.int .i64 0) := HF.out.hs.cell 0 rfl
  have kop : w6.cell? ⟨b5, 0, none⟩ = some (.int .i64 op) := HI.out.cell 0 rfl
  have kp := HF.out.hc.pc
  have k7 : w6.cell? ⟨b2, 7, none⟩ = some (.int .u32 ln) := HF.out.hs.cell 7 rfl
  go_wp2_with fail
  refine (rclass_any _ _).mono ?_; rw [HK.out]; rintro e w7 ⟨rfl, rfl⟩
  go_wp2_with (first
    | (refine wpList_load_rw rfl 27 _ rfl rfl HI.out rfl Tryd.underlying27 (by kernel_rfl) ?_)
    | (refine wpList_load_mid rfl 44 _ rfl b1 0 rfl _ _ HF.out.hc.regs Tryd.underlying44 rfl (regs16_size HL.out.len) ?_)
    | fail)
  refine (rtaken_of op a b c im HL.out false false HT.out HA.out _).mono ?_; rintro e w8 ⟨rfl, hg⟩
  clear k0 kop kp k7
  replace HF := hid (HF.out.kept hg)
  replace HI := hid (HI.out.kept0 hg)
  replace HG := hid (grown_trans HG.out hg)
  clear hg HM
  go_wp2_with (first
    | (refine wpList_load_rw rfl 27 _ rfl rfl HI.out rfl Tryd.underlying27 (by kernel_rfl) ?_)
    | (refine wpList_load_mid rfl 44 _ rfl b1 0 rfl _ _ HF.out.hc.regs Tryd.underlying44 rfl (regs16_size HL.out.len) ?_)
    | fail)
  refine (ralu_of op a b c im HL.out L B HLe.out HBe.out _).mono ?_; rintro e w9 ⟨rfl, hg⟩
  replace HF := hid (HF.out.kept hg)
  replace HG := hid (grown_trans HG.out hg)
  clear hg
  have hg : w9.grownBy ((w9.alloc (.cells (wA zeroL) 44)).setRow w9.heap.size (wA L)) none := grown_setRow (grown_alloc (grown_refl _ _) _) (Nat.le_refl _) _
  have HX := hid ((RwAt.new w9 44 (wA zeroL)).row (wA L))
  replace HF := hid (HF.out.kept hg)
  replace HG := hid (grown_trans HG.out hg)
  clear hg
  go_upto_region 36 with (first
    | (refine wpList_store_rw rfl 44 _ _ rfl rfl rfl (RwAt.new _ _ _) (regs_len_info L HLl.out) (by rw [wA_size, wA_size, HLl.out]; rfl) (wA_one L) ?_)
    | fail)
  generalize (w9.alloc (.cells (wA zeroL) 44)).setRow w9.heap.size (wA L) = w10 at HF HG HX ⊢
  generalize w9.heap.size = b6 at HX ⊢
  have HF2 := hid (HF.out.sRegs HO.out (L := L) HLl.out)
  go_upto_region 37 with (first
    | (refine wpList_load_rw rfl 44 _ rfl rfl HX.out rfl Tryd.underlying44 (regs_len_info L HLl.out) ?_)
    | (refine wpList_store_mid rfl 44 _ _ rfl b1 0 (wA L) rfl rfl (by rw [wA_size, HLl.out]; exact HF.out.hc.there) (regs_len_info L HLl.out) (wA_one L) ?_)
    | fail)
  clear HF HX
  generalize w10.setCells b1 0 (wA L).toList = w11 at HF2 ⊢
  have kp := HF2.out.hc.pc
  have kf := fun k => HF2.out.hc.free k
  have HF9 := hid (HF2.out.sPc HO.out ((pc + ln) % 4294967296))
  go_upto_region 38 with (fail)
  refine region_ret2 HF9.out HO.out rfl (sp_one _ _ _ _ _ _ _ _) rfl rfl rfl rfl rfl rfl rfl rfl rfl rfl rfl rfl rfl (by kernel_rfl) (by kernel_rfl) (by kernel_rfl) (by kernel_rfl) rfl Tryd.underlying47 (by kernel_rfl) rfl rfl rfl rfl rfl rfl (fun _ _ _ h => h) (fun _ _ _ h => h) ?_
  intro w9 hE
  have HE := hid hE
  clear hE
  go_wp2
  refine bodyPost_ret (HE.out.results Tryd.results20 _ rfl rfl rfl rfl Tryd.underlying46 Tryd.underlying47 (cpu_size_info HE.out.r1.len) (by kernel_rfl)) rfl ?_
  exact ⟨rfl, Lv.after HG.out HE.out.lv HB.out⟩
set_option maxRecDepth 100000 in
set_option maxHeartbeats 4000000 in
theorem rjump_not (h : RefAt W m b0 N xs) (hN : N = n * 16) (hn2 : n ≤ 1024) (hu : U32s xs) (hl : Regs l) (p0 : 0 ≤ pc) (p1 : pc < 4294967296) (root : Int) (user : Bool) (ha : askB op a b c im = true) (hk : clsI op = 1) (ho1 : op ≠ 12) (ho2 : op ≠ 13) (ht : takenB op a b c im l = false) (h22 : (op == 22) = false) (hs : fetchP xs n root pc user = ⟨0, 0, op, a, b, c, im, ln⟩) :
    Calls Tryd.prog 20 #[.pointer (some ⟨m, 0, none⟩), .int .i64 root, .agg (cpuC ⟨l, pc, ie, eie, epc, tv, cc, cd⟩), .bool user] W fun e w' => e = .returned (.tuple #[.agg (cpuC ⟨l, (pc + ln) % 4294967296, ie, eie, epc, tv, cc, cd⟩), .agg (spC 0 0 op a b c im ln)]) ∧ W.grownBy w' none := by
  have hq1 : (op == 12) = false := by simpa using ho1
  have hq2 : (op == 13) = false := by simpa using ho2
  clear ho1 ho2
  have HK := hid hk
  have HT := hid ht
  have HA := hid ha
  clear hk ht ha
  have Hz := zero_cpu
  have Hz2 := zero_rstop
  have Hz3 := zero_ins
  obtain ⟨b1, b3, b4, e1, e3, e4⟩ : ∃ b1 b3 b4, b1 = W.heap.size ∧ b3 = b1 + 1 ∧ b4 = b3 + 1 := ⟨_, _, _, rfl, rfl, rfl⟩
  have B13 : Hid (b1 ≠ b3 ∧ b1 ≠ b4 ∧ b3 ≠ b4 ∧ W.heap.size ≤ b1 ∧ W.heap.size ≤ b3 ∧ W.heap.size ≤ b4) := hid (by omega)
  have HC : Hid (CpuAt (((W.alloc (.cells (cpuC ⟨l, pc, ie, eie, epc, tv, cc, cd⟩) 46)).alloc (.cells (cpuC zeroP) 46)).alloc (.cells (spC 0 0 0 0 0 0 0 0) 47)) b1 ⟨l, pc, ie, eie, epc, tv, cc, cd⟩) := hid (by rw [e1]; exact ((CpuAt.new _ hl.len).alloc _).alloc _)
  have HR1 : Hid (CpuAt (((W.alloc (.cells (cpuC ⟨l, pc, ie, eie, epc, tv, cc, cd⟩) 46)).alloc (.cells (cpuC zeroP) 46)).alloc (.cells (spC 0 0 0 0 0 0 0 0) 47)) b3 zeroP) := hid (by rw [e3, e1]; exact (CpuAt.new2 _ _ rfl).alloc _)
  have HR2 : Hid (RwAt (((W.alloc (.cells (cpuC ⟨l, pc, ie, eie, epc, tv, cc, cd⟩) 46)).alloc (.cells (cpuC zeroP) 46)).alloc (.cells (spC 0 0 0 0 0 0 0 0) 47)) b4 47 (spC 0 0 0 0 0 0 0 0)) := hid (by
    rw [e4, e3, e1]
    have := RwAt.new2 (W.alloc (.cells (cpuC ⟨l, pc, ie, eie, epc, tv, cc, cd⟩) 46)) (.cells (cpuC zeroP) 46) 47 (spC 0 0 0 0 0 0 0 0)
    simp only [World.size_alloc] at this
    exact this)
  have HG : Hid (W.grownBy (((W.alloc (.cells (cpuC ⟨l, pc, ie, eie, epc, tv, cc, cd⟩) 46)).alloc (.cells (cpuC zeroP) 46)).alloc (.cells (spC 0 0 0 0 0 0 0 0) 47)) none) := hid (grown_alloc (grown_alloc (grown_alloc (grown_refl _ _) _) _) _)
  have HM := hid (h.kept0 HG.out)
  have Hm := hid h.mlt
  have Hbm := hid h.blt
  have HLen := hid (h.len.trans hN)
  have HN := hid hN
  have Hn2 := hid hn2
  have HL := hid hl
  have Hu := hid hu
  have HS := hid hs
  clear h hl hu hs hN hn2
  go_enter Tryd.func20, Tryd.ntmps20
  go_upto_region 1 with (fail)
  generalize (((W.alloc (.cells (cpuC ⟨l, pc, ie, eie, epc, tv, cc, cd⟩) 46)).alloc (.cells (cpuC zeroP) 46)).alloc (.cells (spC 0 0 0 0 0 0 0 0) 47)) = w3 at HC HR1 HR2 HM HG ⊢
  rw [← e1, ← e3, ← e4]
  clear e1 e3 e4
  have kp := HC.out.pc
  go_wp2_with fail
  refine (rfetch_of HM.out HN.out Hn2.out Hu.out root pc p0 p1 user 0 0 op a b c im ln HS.out).mono ?_; rintro e w5 ⟨rfl, hg⟩
  clear kp
  replace HC := hid (HC.out.kept0 hg)
  replace HR1 := hid (HR1.out.kept0 hg)
  replace HR2 := hid (HR2.out.kept0 hg)
  replace HM := hid (HM.out.kept0 hg)
  replace HG := hid (grown_trans HG.out hg)
  clear hg
  have hg : w5.grownBy ((((w5.alloc (.cells (inC 0 0 0 0 0) 27)).alloc (.cells (spC 0 0 0 0 0 0 0 0) 47)).setRow w5.heap.size (inC op a b c im)).setRow (w5.heap.size + 1) (spC 0 0 op a b c im ln)) none := grown_setRow (grown_setRow (grown_alloc (grown_alloc (grown_refl _ _) _) _) (Nat.le_refl _) _) (Nat.le_succ _) _
  have HI := hid ((((RwAt.new w5 27 (inC 0 0 0 0 0)).alloc (.cells (spC 0 0 0 0 0 0 0 0) 47)).row (inC op a b c im)).rowOther (w5.heap.size + 1) (spC 0 0 op a b c im ln) (by omega))
  have HSt := hid (((RwAt.new2 w5 (.cells (inC 0 0 0 0 0) 27) 47 (spC 0 0 0 0 0 0 0 0)).rowOther w5.heap.size (inC op a b c im) (by omega)).row (spC 0 0 op a b c im ln))
  have NW : Hid (b1 < w5.heap.size ∧ b3 < w5.heap.size ∧ b4 < w5.heap.size ∧ W.heap.size ≤ w5.heap.size) := hid ⟨HC.out.lt, HR1.out.lt, HR2.out.lt, HG.out.size⟩
  replace HC := hid (HC.out.kept0 hg)
  replace HR1 := hid (HR1.out.kept0 hg)
  replace HR2 := hid (HR2.out.kept0 hg)
  replace HM := hid (HM.out.kept0 hg)
  replace HG := hid (grown_trans HG.out hg)
  clear hg
  go_upto_region 2 with (first
    | (refine wpList_store_rw rfl 27 _ _ rfl rfl rfl ((RwAt.new _ _ _).alloc _) (by kernel_rfl) rfl (in_one _ _ _ _ _) ?_)
    | (refine wpList_store_rw rfl 47 _ _ rfl rfl rfl ((RwAt.new2 _ _ _ _).rowOther _ _ (by omega)) (by kernel_rfl) rfl (sp_one _ _ _ _ _ _ _ _) ?_)
    | fail)
  generalize ((((w5.alloc (.cells (inC 0 0 0 0 0) 27)).alloc (.cells (spC 0 0 0 0 0 0 0 0) 47)).setRow w5.heap.size (inC op a b c im)).setRow (w5.heap.size + 1) (spC 0 0 op a b c im ln)) = w6 at HC HR1 HR2 HM HG HI HSt ⊢
  obtain ⟨b2, e2⟩ : ∃ b2, b2 = w5.heap.size + 1 := ⟨_, rfl⟩
  have HO : Hid (Ord4 b1 b2 b3 b4) := hid (by unfold Ord4; have := NW.out; have := B13.out; omega)
  have HB : Hid (∀ i ∈ [b1, b2, b3, b4], W.heap.size ≤ i) := hid (by have := NW.out; have := B13.out; simp only [List.mem_cons, List.not_mem_nil, or_false]; omega)
  have N5 : Hid (w5.heap.size ≠ b1 ∧ w5.heap.size ≠ b2) := hid (by have := NW.out; omega)
  rw [← e2] at HSt ⊢
  clear e2
  generalize w5.heap.size = b5 at HI N5 ⊢
  have HF : Hid (FAt w6 47 b1 b2 b3 b4 ⟨l, pc, ie, eie, epc, tv, cc, cd⟩ (spC 0 0 op a b c im ln) w6) := hid ⟨HC.out, HSt.out, HR1.out, HR2.out, Lv.refl _ _⟩
  clear HC HSt HR1 HR2 NW B13
  have k0 : w6.cell? ⟨b2, 0, none⟩ = some (.int .i64 0) := HF.out.hs.cell 0 rfl
  have kop : w6.cell? ⟨b5, 0, none⟩ = some (.int .i64 op) := HI.out.cell 0 rfl
  have kp := HF.out.hc.pc
  have k7 : w6.cell? ⟨b2, 7, none⟩ = some (.int .u32 ln) := HF.out.hs.cell 7 rfl
  go_wp2_with fail
  refine (rclass_any _ _).mono ?_; rw [HK.out]; rintro e w7 ⟨rfl, rfl⟩
  go_wp2_with (first
    | (refine wpList_load_rw rfl 27 _ rfl rfl HI.out rfl Tryd.underlying27 (by kernel_rfl) ?_)
    | (refine wpList_load_mid rfl 44 _ rfl b1 0 rfl _ _ HF.out.hc.regs Tryd.underlying44 rfl (regs16_size HL.out.len) ?_)
    | fail)
  refine (rtaken_of op a b c im HL.out false true HT.out HA.out _).mono ?_; rintro e w8 ⟨rfl, hg⟩
  clear k0 kop kp k7
  replace HF := hid (HF.out.kept hg)
  replace HI := hid (HI.out.kept0 hg)
  replace HG := hid (grown_trans HG.out hg)
  clear hg HM
  have kop : w8.cell? ⟨b5, 0, none⟩ = some (.int .i64 op) := HI.out.cell 0 rfl
  have kp := HF.out.hc.pc
  have kf := fun k => HF.out.hc.free k
  have HF9 := hid (HF.out.sPc HO.out ((pc + ln) % 4294967296))
  go_upto_region 49 with (fail)
  refine region_ret2 HF9.out HO.out rfl (sp_one _ _ _ _ _ _ _ _) rfl rfl rfl rfl rfl rfl rfl rfl rfl rfl rfl rfl rfl (by kernel_rfl) (by kernel_rfl) (by kernel_rfl) (by kernel_rfl) rfl Tryd.underlying47 (by kernel_rfl) rfl rfl rfl rfl rfl rfl (fun _ _ _ h => h) (fun _ _ _ h => h) ?_
  intro w9 hE
  have HE := hid hE
  clear hE
  go_wp2
  refine bodyPost_ret (HE.out.results Tryd.results20 _ rfl rfl rfl rfl Tryd.underlying46 Tryd.underlying47 (cpu_size_info HE.out.r1.len) (by kernel_rfl)) rfl ?_
  exact ⟨rfl, Lv.after HG.out HE.out.lv HB.out⟩
set_option maxRecDepth 100000 in
set_option maxHeartbeats 4000000 in
theorem rjump_imm (h : RefAt W m b0 N xs) (hN : N = n * 16) (hn2 : n ≤ 1024) (hu : U32s xs) (hl : Regs l) (p0 : 0 ≤ pc) (p1 : pc < 4294967296) (root : Int) (user : Bool) (ha : askB op a b c im = true) (hk : clsI op = 1) (ho1 : op ≠ 12) (ho2 : op ≠ 13) (ht : takenB op a b c im l = true) (h22 : (op == 22) = false) (h1 : (op == 16) = false) (h2 : (op == 17) = false) (h3 : (op == 18) = false) (h4 : (op == 23) = false) (hs : fetchP xs n root pc user = ⟨0, 0, op, a, b, c, im, ln⟩) :
    Calls Tryd.prog 20 #[.pointer (some ⟨m, 0, none⟩), .int .i64 root, .agg (cpuC ⟨l, pc, ie, eie, epc, tv, cc, cd⟩), .bool user] W fun e w' => e = .returned (.tuple #[.agg (cpuC ⟨l, im, ie, eie, epc, tv, cc, cd⟩), .agg (spC 0 0 op a b c im ln)]) ∧ W.grownBy w' none := by
  have hq1 : (op == 12) = false := by simpa using ho1
  have hq2 : (op == 13) = false := by simpa using ho2
  clear ho1 ho2
  have HK := hid hk
  have HT := hid ht
  have HA := hid ha
  clear hk ht ha
  have Hz := zero_cpu
  have Hz2 := zero_rstop
  have Hz3 := zero_ins
  obtain ⟨b1, b3, b4, e1, e3, e4⟩ : ∃ b1 b3 b4, b1 = W.heap.size ∧ b3 = b1 + 1 ∧ b4 = b3 + 1 := ⟨_, _, _, rfl, rfl, rfl⟩
  have B13 : Hid (b1 ≠ b3 ∧ b1 ≠ b4 ∧ b3 ≠ b4 ∧ W.heap.size ≤ b1 ∧ W.heap.size ≤ b3 ∧ W.heap.size ≤ b4) := hid (by omega)
  have HC : Hid (CpuAt (((W.alloc (.cells (cpuC ⟨l, pc, ie, eie, epc, tv, cc, cd⟩) 46)).alloc (.cells (cpuC zeroP) 46)).alloc (.cells (spC 0 0 0 0 0 0 0 0) 47)) b1 ⟨l, pc, ie, eie, epc, tv, cc, cd⟩) := hid (by rw [e1]; exact ((CpuAt.new _ hl.len).alloc _).alloc _)
  have HR1 : Hid (CpuAt (((W.alloc (.cells (cpuC ⟨l, pc, ie, eie, epc, tv, cc, cd⟩) 46)).alloc (.cells (cpuC zeroP) 46)).alloc (.cells (spC 0 0 0 0 0 0 0 0) 47)) b3 zeroP) := hid (by rw [e3, e1]; exact (CpuAt.new2 _ _ rfl).alloc _)
  have HR2 : Hid (RwAt (((W.alloc (.cells (cpuC ⟨l, pc, ie, eie, epc, tv, cc, cd⟩) 46)).alloc (.cells (cpuC zeroP) 46)).alloc (.cells (spC 0 0 0 0 0 0 0 0) 47)) b4 47 (spC 0 0 0 0 0 0 0 0)) := hid (by
    rw [e4, e3, e1]
    have := RwAt.new2 (W.alloc (.cells (cpuC ⟨l, pc, ie, eie, epc, tv, cc, cd⟩) 46)) (.cells (cpuC zeroP) 46) 47 (spC 0 0 0 0 0 0 0 0)
    simp only [World.size_alloc] at this
    exact this)
  have HG : Hid (W.grownBy (((W.alloc (.cells (cpuC ⟨l, pc, ie, eie, epc, tv, cc, cd⟩) 46)).alloc (.cells (cpuC zeroP) 46)).alloc (.cells (spC 0 0 0 0 0 0 0 0) 47)) none) := hid (grown_alloc (grown_alloc (grown_alloc (grown_refl _ _) _) _) _)
  have HM := hid (h.kept0 HG.out)
  have Hm := hid h.mlt
  have Hbm := hid h.blt
  have HLen := hid (h.len.trans hN)
  have HN := hid hN
  have Hn2 := hid hn2
  have HL := hid hl
  have Hu := hid hu
  have HS := hid hs
  clear h hl hu hs hN hn2
  go_enter Tryd.func20, Tryd.ntmps20
  go_upto_region 1 with (fail)
  generalize (((W.alloc (.cells (cpuC ⟨l, pc, ie, eie, epc, tv, cc, cd⟩) 46)).alloc (.cells (cpuC zeroP) 46)).alloc (.cells (spC 0 0 0 0 0 0 0 0) 47)) = w3 at HC HR1 HR2 HM HG ⊢
  rw [← e1, ← e3, ← e4]
  clear e1 e3 e4
  have kp := HC.out.pc
  go_wp2_with fail
  refine (rfetch_of HM.out HN.out Hn2.out Hu.out root pc p0 p1 user 0 0 op a b c im ln HS.out).mono ?_; rintro e w5 ⟨rfl, hg⟩
  clear kp
  replace HC := hid (HC.out.kept0 hg)
  replace HR1 := hid (HR1.out.kept0 hg)
  replace HR2 := hid (HR2.out.kept0 hg)
  replace HM := hid (HM.out.kept0 hg)
  replace HG := hid (grown_trans HG.out hg)
  clear hg
  have hg : w5.grownBy ((((w5.alloc (.cells (inC 0 0 0 0 0) 27)).alloc (.cells (spC 0 0 0 0 0 0 0 0) 47)).setRow w5.heap.size (inC op a b c im)).setRow (w5.heap.size + 1) (spC 0 0 op a b c im ln)) none := grown_setRow (grown_setRow (grown_alloc (grown_alloc (grown_refl _ _) _) _) (Nat.le_refl _) _) (Nat.le_succ _) _
  have HI := hid ((((RwAt.new w5 27 (inC 0 0 0 0 0)).alloc (.cells (spC 0 0 0 0 0 0 0 0) 47)).row (inC op a b c im)).rowOther (w5.heap.size + 1) (spC 0 0 op a b c im ln) (by omega))
  have HSt := hid (((RwAt.new2 w5 (.cells (inC 0 0 0 0 0) 27) 47 (spC 0 0 0 0 0 0 0 0)).rowOther w5.heap.size (inC op a b c im) (by omega)).row (spC 0 0 op a b c im ln))
  have NW : Hid (b1 < w5.heap.size ∧ b3 < w5.heap.size ∧ b4 < w5.heap.size ∧ W.heap.size ≤ w5.heap.size) := hid ⟨HC.out.lt, HR1.out.lt, HR2.out.lt, HG.out.size⟩
  replace HC := hid (HC.out.kept0 hg)
  replace HR1 := hid (HR1.out.kept0 hg)
  replace HR2 := hid (HR2.out.kept0 hg)
  replace HM := hid (HM.out.kept0 hg)
  replace HG := hid (grown_trans HG.out hg)
  clear hg
  go_upto_region 2 with (first
    | (refine wpList_store_rw rfl 27 _ _ rfl rfl rfl ((RwAt.new _ _ _).alloc _) (by kernel_rfl) rfl (in_one _ _ _ _ _) ?_)
    | (refine wpList_store_rw rfl 47 _ _ rfl rfl rfl ((RwAt.new2 _ _ _ _).rowOther _ _ (by omega)) (by kernel_rfl) rfl (sp_one _ _ _ _ _ _ _ _) ?_)
    | fail)
  generalize ((((w5.alloc (.cells (inC 0 0 0 0 0) 27)).alloc (.cells (spC 0 0 0 0 0 0 0 0) 47)).setRow w5.heap.size (inC op a b c im)).setRow (w5.heap.size + 1) (spC 0 0 op a b c im ln)) = w6 at HC HR1 HR2 HM HG HI HSt ⊢
  obtain ⟨b2, e2⟩ : ∃ b2, b2 = w5.heap.size + 1 := ⟨_, rfl⟩
  have HO : Hid (Ord4 b1 b2 b3 b4) := hid (by unfold Ord4; have := NW.out; have := B13.out; omega)
  have HB : Hid (∀ i ∈ [b1, b2, b3, b4], W.heap.size ≤ i) := hid (by have := NW.out; have := B13.out; simp only [List.mem_cons, List.not_mem_nil, or_false]; omega)
  have N5 : Hid (w5.heap.size ≠ b1 ∧ w5.heap.size ≠ b2) := hid (by have := NW.out; omega)
  rw [← e2] at HSt ⊢
  clear e2
  generalize w5.heap.size = b5 at HI N5 ⊢
  have HF : Hid (FAt w6 47 b1 b2 b3 b4 ⟨l, pc, ie, eie, epc, tv, cc, cd⟩ (spC 0 0 op a b c im ln) w6) := hid ⟨HC.out, HSt.out, HR1.out, HR2.out, Lv.refl _ _⟩
  clear HC HSt HR1 HR2 NW B13
  have k0 : w6.cell? ⟨b2, 0, none⟩ = some (.int .i64 0) := HF.out.hs.cell 0 rfl
  have kop : w6.cell? ⟨b5, 0, none⟩ = some (.int .i64 op) := HI.out.cell 0 rfl
  have kp := HF.out.hc.pc
  have k7 : w6.cell? ⟨b2, 7, none⟩ = some (.int .u32 ln) := HF.out.hs.cell 7 rfl
  go_wp2_with fail
  refine (rclass_any _ _).mono ?_; rw [HK.out]; rintro e w7 ⟨rfl, rfl⟩
  go_wp2_with (first
    | (refine wpList_load_rw rfl 27 _ rfl rfl HI.out rfl Tryd.underlying27 (by kernel_rfl) ?_)
    | (refine wpList_load_mid rfl 44 _ rfl b1 0 rfl _ _ HF.out.hc.regs Tryd.underlying44 rfl (regs16_size HL.out.len) ?_)
    | fail)
  refine (rtaken_of op a b c im HL.out true true HT.out HA.out _).mono ?_; rintro e w8 ⟨rfl, hg⟩
  clear k0 kop kp k7
  replace HF := hid (HF.out.kept hg)
  replace HI := hid (HI.out.kept0 hg)
  replace HG := hid (grown_trans HG.out hg)
  clear hg HM
  have kop : w8.cell? ⟨b5, 0, none⟩ = some (.int .i64 op) := HI.out.cell 0 rfl
  have k4 : w8.cell? ⟨b5, 4, none⟩ = some (.int .u32 im) := HI.out.cell 4 rfl
  have kp := HF.out.hc.pc
  have kf := fun k => HF.out.hc.free k
  have HF9 := hid (HF.out.sPc HO.out im)
  go_upto_region 49 with (fail)
  refine region_ret2 HF9.out HO.out rfl (sp_one _ _ _ _ _ _ _ _) rfl rfl rfl rfl rfl rfl rfl rfl rfl rfl rfl rfl rfl (by kernel_rfl) (by kernel_rfl) (by kernel_rfl) (by kernel_rfl) rfl Tryd.underlying47 (by kernel_rfl) rfl rfl rfl rfl rfl rfl (fun _ _ _ h => h) (fun _ _ _ h => h) ?_
  intro w9 hE
  have HE := hid hE
  clear hE
  go_wp2
  refine bodyPost_ret (HE.out.results Tryd.results20 _ rfl rfl rfl rfl Tryd.underlying46 Tryd.underlying47 (cpu_size_info HE.out.r1.len) (by kernel_rfl)) rfl ?_
  exact ⟨rfl, Lv.after HG.out HE.out.lv HB.out⟩
set_option maxRecDepth 100000 in
set_option maxHeartbeats 4000000 in
theorem rjump_call (h : RefAt W m b0 N xs) (hN : N = n * 16) (hn2 : n ≤ 1024) (hu : U32s xs) (hl : Regs l) (p0 : 0 ≤ pc) (p1 : pc < 4294967296) (root : Int) (user : Bool) (ha : askB 22 a b c im = true) (ht : takenB 22 a b c im l = true) (hs : fetchP xs n root pc user = ⟨0, 0, 22, a, b, c, im, ln⟩) :
    Calls Tryd.prog 20 #[.pointer (some ⟨m, 0, none⟩), .int .i64 root, .agg (cpuC ⟨l, pc, ie, eie, epc, tv, cc, cd⟩), .bool user] W fun e w' => e = .returned (.tuple #[.agg (cpuC ⟨l.set 15 ((pc + ln) % 4294967296), im, ie, eie, epc, tv, cc, cd⟩), .agg (spC 0 0 22 a b c im ln)]) ∧ W.grownBy w' none := by
  have HK : Hid (clsI 22 = 1) := hid (by decide)
  have HT := hid ht
  have HA := hid ha
  clear ht ha
  obtain ⟨y, hy⟩ : ∃ y, l[15]? = some y := ⟨_, List.getElem?_eq_getElem (by rw [hl.len]; decide)⟩
  have HY := hid hy
  clear hy
  have Hz := zero_cpu
  have Hz2 := zero_rstop
  have Hz3 := zero_ins
  obtain ⟨b1, b3, b4, e1, e3, e4⟩ : ∃ b1 b3 b4, b1 = W.heap.size ∧ b3 = b1 + 1 ∧ b4 = b3 + 1 := ⟨_, _, _, rfl, rfl, rfl⟩
  have B13 : Hid (b1 ≠ b3 ∧ b1 ≠ b4 ∧ b3 ≠ b4 ∧ W.heap.size ≤ b1 ∧ W.heap.size ≤ b3 ∧ W.heap.size ≤ b4) := hid (by omega)
  have HC : Hid (CpuAt (((W.alloc (.cells (cpuC ⟨l, pc, ie, eie, epc, tv, cc, cd⟩) 46)).alloc (.cells (cpuC zeroP) 46)).alloc (.cells (spC 0 0 0 0 0 0 0 0) 47)) b1 ⟨l, pc, ie, eie, epc, tv, cc, cd⟩) := hid (by rw [e1]; exact ((CpuAt.new _ hl.len).alloc _).alloc _)
  have HR1 : Hid (CpuAt (((W.alloc (.cells (cpuC ⟨l, pc, ie, eie, epc, tv, cc, cd⟩) 46)).alloc (.cells (cpuC zeroP) 46)).alloc (.cells (spC 0 0 0 0 0 0 0 0) 47)) b3 zeroP) := hid (by rw [e3, e1]; exact (CpuAt.new2 _ _ rfl).alloc _)
  have HR2 : Hid (RwAt (((W.alloc (.cells (cpuC ⟨l, pc, ie, eie, epc, tv, cc, cd⟩) 46)).alloc (.cells (cpuC zeroP) 46)).alloc (.cells (spC 0 0 0 0 0 0 0 0) 47)) b4 47 (spC 0 0 0 0 0 0 0 0)) := hid (by
    rw [e4, e3, e1]
    have := RwAt.new2 (W.alloc (.cells (cpuC ⟨l, pc, ie, eie, epc, tv, cc, cd⟩) 46)) (.cells (cpuC zeroP) 46) 47 (spC 0 0 0 0 0 0 0 0)
    simp only [World.size_alloc] at this
    exact this)
  have HG : Hid (W.grownBy (((W.alloc (.cells (cpuC ⟨l, pc, ie, eie, epc, tv, cc, cd⟩) 46)).alloc (.cells (cpuC zeroP) 46)).alloc (.cells (spC 0 0 0 0 0 0 0 0) 47)) none) := hid (grown_alloc (grown_alloc (grown_alloc (grown_refl _ _) _) _) _)
  have HM := hid (h.kept0 HG.out)
  have Hm := hid h.mlt
  have Hbm := hid h.blt
  have HLen := hid (h.len.trans hN)
  have HN := hid hN
  have Hn2 := hid hn2
  have HL := hid hl
  have Hu := hid hu
  have HS := hid hs
  clear h hl hu hs hN hn2
  go_enter Tryd.func20, Tryd.ntmps20
  go_upto_region 1 with (fail)
  generalize (((W.alloc (.cells (cpuC ⟨l, pc, ie, eie, epc, tv, cc, cd⟩) 46)).alloc (.cells (cpuC zeroP) 46)).alloc (.cells (spC 0 0 0 0 0 0 0 0) 47)) = w3 at HC HR1 HR2 HM HG ⊢
  rw [← e1, ← e3, ← e4]
  clear e1 e3 e4
  have kp := HC.out.pc
  go_wp2_with fail
  refine (rfetch_of HM.out HN.out Hn2.out Hu.out root pc p0 p1 user 0 0 22 a b c im ln HS.out).mono ?_; rintro e w5 ⟨rfl, hg⟩
  clear kp
  replace HC := hid (HC.out.kept0 hg)
  replace HR1 := hid (HR1.out.kept0 hg)
  replace HR2 := hid (HR2.out.kept0 hg)
  replace HM := hid (HM.out.kept0 hg)
  replace HG := hid (grown_trans HG.out hg)
  clear hg
  have hg : w5.grownBy ((((w5.alloc (.cells (inC 0 0 0 0 0) 27)).alloc (.cells (spC 0 0 0 0 0 0 0 0) 47)).setRow w5.heap.size (inC 22 a b c im)).setRow (w5.heap.size + 1) (spC 0 0 22 a b c im ln)) none := grown_setRow (grown_setRow (grown_alloc (grown_alloc (grown_refl _ _) _) _) (Nat.le_refl _) _) (Nat.le_succ _) _
  have HI := hid ((((RwAt.new w5 27 (inC 0 0 0 0 0)).alloc (.cells (spC 0 0 0 0 0 0 0 0) 47)).row (inC 22 a b c im)).rowOther (w5.heap.size + 1) (spC 0 0 22 a b c im ln) (by omega))
  have HSt := hid (((RwAt.new2 w5 (.cells (inC 0 0 0 0 0) 27) 47 (spC 0 0 0 0 0 0 0 0)).rowOther w5.heap.size (inC 22 a b c im) (by omega)).row (spC 0 0 22 a b c im ln))
  have NW : Hid (b1 < w5.heap.size ∧ b3 < w5.heap.size ∧ b4 < w5.heap.size ∧ W.heap.size ≤ w5.heap.size) := hid ⟨HC.out.lt, HR1.out.lt, HR2.out.lt, HG.out.size⟩
  replace HC := hid (HC.out.kept0 hg)
  replace HR1 := hid (HR1.out.kept0 hg)
  replace HR2 := hid (HR2.out.kept0 hg)
  replace HM := hid (HM.out.kept0 hg)
  replace HG := hid (grown_trans HG.out hg)
  clear hg
  go_upto_region 2 with (first
    | (refine wpList_store_rw rfl 27 _ _ rfl rfl rfl ((RwAt.new _ _ _).alloc _) (by kernel_rfl) rfl (in_one _ _ _ _ _) ?_)
    | (refine wpList_store_rw rfl 47 _ _ rfl rfl rfl ((RwAt.new2 _ _ _ _).rowOther _ _ (by omega)) (by kernel_rfl) rfl (sp_one _ _ _ _ _ _ _ _) ?_)
    | fail)
  generalize ((((w5.alloc (.cells (inC 0 0 0 0 0) 27)).alloc (.cells (spC 0 0 0 0 0 0 0 0) 47)).setRow w5.heap.size (inC 22 a b c im)).setRow (w5.heap.size + 1) (spC 0 0 22 a b c im ln)) = w6 at HC HR1 HR2 HM HG HI HSt ⊢
  obtain ⟨b2, e2⟩ : ∃ b2, b2 = w5.heap.size + 1 := ⟨_, rfl⟩
  have HO : Hid (Ord4 b1 b2 b3 b4) := hid (by unfold Ord4; have := NW.out; have := B13.out; omega)
  have HB : Hid (∀ i ∈ [b1, b2, b3, b4], W.heap.size ≤ i) := hid (by have := NW.out; have := B13.out; simp only [List.mem_cons, List.not_mem_nil, or_false]; omega)
  have N5 : Hid (w5.heap.size ≠ b1 ∧ w5.heap.size ≠ b2) := hid (by have := NW.out; omega)
  rw [← e2] at HSt ⊢
  clear e2
  generalize w5.heap.size = b5 at HI N5 ⊢
  have HF : Hid (FAt w6 47 b1 b2 b3 b4 ⟨l, pc, ie, eie, epc, tv, cc, cd⟩ (spC 0 0 22 a b c im ln) w6) := hid ⟨HC.out, HSt.out, HR1.out, HR2.out, Lv.refl _ _⟩
  clear HC HSt HR1 HR2 NW B13
  have k0 : w6.cell? ⟨b2, 0, none⟩ = some (.int .i64 0) := HF.out.hs.cell 0 rfl
  have kop : w6.cell? ⟨b5, 0, none⟩ = some (.int .i64 22) := HI.out.cell 0 rfl
  have kp := HF.out.hc.pc
  have k7 : w6.cell? ⟨b2, 7, none⟩ = some (.int .u32 ln) := HF.out.hs.cell 7 rfl
  go_wp2_with fail
  refine (rclass_any _ _).mono ?_; rw [HK.out]; rintro e w7 ⟨rfl, rfl⟩
  go_wp2_with (first
    | (refine wpList_load_rw rfl 27 _ rfl rfl HI.out rfl Tryd.underlying27 (by kernel_rfl) ?_)
    | (refine wpList_load_mid rfl 44 _ rfl b1 0 rfl _ _ HF.out.hc.regs Tryd.underlying44 rfl (regs16_size HL.out.len) ?_)
    | fail)
  refine (rtaken_of 22 a b c im HL.out true true HT.out HA.out _).mono ?_; rintro e w8 ⟨rfl, hg⟩
  clear k0 kop kp k7
  replace HF := hid (HF.out.kept hg)
  replace HI := hid (HI.out.kept0 hg)
  replace HG := hid (grown_trans HG.out hg)
  clear hg HM
  have kop : w8.cell? ⟨b5, 0, none⟩ = some (.int .i64 22) := HI.out.cell 0 rfl
  have k4 : w8.cell? ⟨b5, 4, none⟩ = some (.int .u32 im) := HI.out.cell 4 rfl
  have kr : w8.cell? ⟨b1, 15, none⟩ = some (.int .u32 y) := HF.out.hc.regc HY.out
  have kf := fun j => HF.out.hc.free j
  have HF2 := hid (HF.out.sReg HO.out 15 (by decide) ((pc + ln) % 4294967296))
  go_upto_region 48 with (fail)
  clear kop k4 kr kf HF HI
  generalize w8.setCell ⟨b1, 15, none⟩ (.int .u32 ((pc + ln) % 4294967296)) = w9 at HF2 ⊢
  have kp := HF2.out.hc.pc
  have kf := fun k => HF2.out.hc.free k
  have HF9 := hid (HF2.out.sPc HO.out im)
  go_upto_region 49 with (fail)
  refine region_ret2 HF9.out HO.out rfl (sp_one _ _ _ _ _ _ _ _) rfl rfl rfl rfl rfl rfl rfl rfl rfl rfl rfl rfl rfl (by kernel_rfl) (by kernel_rfl) (by kernel_rfl) (by kernel_rfl) rfl Tryd.underlying47 (by kernel_rfl) rfl rfl rfl rfl rfl rfl (fun _ _ _ h => h) (fun _ _ _ h => h) ?_
  intro w9 hE
  have HE := hid hE
  clear hE
  go_wp2
  refine bodyPost_ret (HE.out.results Tryd.results20 _ rfl rfl rfl rfl Tryd.underlying46 Tryd.underlying47 (cpu_size_info HE.out.r1.len) (by kernel_rfl)) rfl ?_
  exact ⟨rfl, Lv.after HG.out HE.out.lv HB.out⟩
set_option maxRecDepth 100000 in
set_option maxHeartbeats 4000000 in
theorem rjump_reg (h : RefAt W m b0 N xs) (hN : N = n * 16) (hn2 : n ≤ 1024) (hu : U32s xs) (hl : Regs l) (p0 : 0 ≤ pc) (p1 : pc < 4294967296) (root : Int) (user : Bool) (k : Nat) (hk16 : k < 16) (ha : askB 23 (k : Int) b c im = true) (ht : takenB 23 (k : Int) b c im l = true) (hs : fetchP xs n root pc user = ⟨0, 0, 23, (k : Int), b, c, im, ln⟩) :
    Calls Tryd.prog 20 #[.pointer (some ⟨m, 0, none⟩), .int .i64 root, .agg (cpuC ⟨l, pc, ie, eie, epc, tv, cc, cd⟩), .bool user] W fun e w' => e = .returned (.tuple #[.agg (cpuC ⟨l, regI l (k : Int), ie, eie, epc, tv, cc, cd⟩), .agg (spC 0 0 23 (k : Int) b c im ln)]) ∧ W.grownBy w' none := by
  have HK : Hid (clsI 23 = 1) := hid (by decide)
  have HT := hid ht
  have HA := hid ha
  have hR := hl.get (k := (k : Int)) (by omega) (by omega)
  rw [Int.toNat_natCast] at hR
  have HR := hid hR
  clear hR ht ha
  have hk0 : (0 : Int) ≤ (k : Int) := by omega
  have hk1 : (k : Int) < 16 := by omega
  have Hz := zero_cpu
  have Hz2 := zero_rstop
  have Hz3 := zero_ins
  obtain ⟨b1, b3, b4, e1, e3, e4⟩ : ∃ b1 b3 b4, b1 = W.heap.size ∧ b3 = b1 + 1 ∧ b4 = b3 + 1 := ⟨_, _, _, rfl, rfl, rfl⟩
  have B13 : Hid (b1 ≠ b3 ∧ b1 ≠ b4 ∧ b3 ≠ b4 ∧ W.heap.size ≤ b1 ∧ W.heap.size ≤ b3 ∧ W.heap.size ≤ b4) := hid (by omega)
  have HC : Hid (CpuAt (((W.alloc (.cells (cpuC ⟨l, pc, ie, eie, epc, tv, cc, cd⟩) 46)).alloc (.cells (cpuC zeroP) 46)).alloc (.cells (spC 0 0 0 0 0 0 0 0) 47)) b1 ⟨l, pc, ie, eie, epc, tv, cc, cd⟩) := hid (by rw [e1]; exact ((CpuAt.new _ hl.len).alloc _).alloc _)
  have HR1 : Hid (CpuAt (((W.alloc (.cells (cpuC ⟨l, pc, ie, eie, epc, tv, cc, cd⟩) 46)).alloc (.cells (cpuC zeroP) 46)).alloc (.cells (spC 0 0 0 0 0 0 0 0) 47)) b3 zeroP) := hid (by rw [e3, e1]; exact (CpuAt.new2 _ _ rfl).alloc _)
  have HR2 : Hid (RwAt (((W.alloc (.cells (cpuC ⟨l, pc, ie, eie, epc, tv, cc, cd⟩) 46)).alloc (.cells (cpuC zeroP) 46)).alloc (.cells (spC 0 0 0 0 0 0 0 0) 47)) b4 47 (spC 0 0 0 0 0 0 0 0)) := hid (by
    rw [e4, e3, e1]
    have := RwAt.new2 (W.alloc (.cells (cpuC ⟨l, pc, ie, eie, epc, tv, cc, cd⟩) 46)) (.cells (cpuC zeroP) 46) 47 (spC 0 0 0 0 0 0 0 0)
    simp only [World.size_alloc] at this
    exact this)
  have HG : Hid (W.grownBy (((W.alloc (.cells (cpuC ⟨l, pc, ie, eie, epc, tv, cc, cd⟩) 46)).alloc (.cells (cpuC zeroP) 46)).alloc (.cells (spC 0 0 0 0 0 0 0 0) 47)) none) := hid (grown_alloc (grown_alloc (grown_alloc (grown_refl _ _) _) _) _)
  have HM := hid (h.kept0 HG.out)
  have Hm := hid h.mlt
  have Hbm := hid h.blt
  have HLen := hid (h.len.trans hN)
  have HN := hid hN
  have Hn2 := hid hn2
  have HL := hid hl
  have Hu := hid hu
  have HS := hid hs
  clear h hl hu hs hN hn2
  go_enter Tryd.func20, Tryd.ntmps20
  go_upto_region 1 with (fail)
  generalize (((W.alloc (.cells (cpuC ⟨l, pc, ie, eie, epc, tv, cc, cd⟩) 46)).alloc (.cells (cpuC zeroP) 46)).alloc (.cells (spC 0 0 0 0 0 0 0 0) 47)) = w3 at HC HR1 HR2 HM HG ⊢
  rw [← e1, ← e3, ← e4]
  clear e1 e3 e4
  have kp := HC.out.pc
  go_wp2_with fail
  refine (rfetch_of HM.out HN.out Hn2.out Hu.out root pc p0 p1 user 0 0 23 (k : Int) b c im ln HS.out).mono ?_; rintro e w5 ⟨rfl, hg⟩
  clear kp
  replace HC := hid (HC.out.kept0 hg)
  replace HR1 := hid (HR1.out.kept0 hg)
  replace HR2 := hid (HR2.out.kept0 hg)
  replace HM := hid (HM.out.kept0 hg)
  replace HG := hid (grown_trans HG.out hg)
  clear hg
  have hg : w5.grownBy ((((w5.alloc (.cells (inC 0 0 0 0 0) 27)).alloc (.cells (spC 0 0 0 0 0 0 0 0) 47)).setRow w5.heap.size (inC 23 (k : Int) b c im)).setRow (w5.heap.size + 1) (spC 0 0 23 (k : Int) b c im ln)) none := grown_setRow (grown_setRow (grown_alloc (grown_alloc (grown_refl _ _) _) _) (Nat.le_refl _) _) (Nat.le_succ _) _
  have HI := hid ((((RwAt.new w5 27 (inC 0 0 0 0 0)).alloc (.cells (spC 0 0 0 0 0 0 0 0) 47)).row (inC 23 (k : Int) b c im)).rowOther (w5.heap.size + 1) (spC 0 0 23 (k : Int) b c im ln) (by omega))
  have HSt := hid (((RwAt.new2 w5 (.cells (inC 0 0 0 0 0) 27) 47 (spC 0 0 0 0 0 0 0 0)).rowOther w5.heap.size (inC 23 (k : Int) b c im) (by omega)).row (spC 0 0 23 (k : Int) b c im ln))
  have NW : Hid (b1 < w5.heap.size ∧ b3 < w5.heap.size ∧ b4 < w5.heap.size ∧ W.heap.size ≤ w5.heap.size) := hid ⟨HC.out.lt, HR1.out.lt, HR2.out.lt, HG.out.size⟩
  replace HC := hid (HC.out.kept0 hg)
  replace HR1 := hid (HR1.out.kept0 hg)
  replace HR2 := hid (HR2.out.kept0 hg)
  replace HM := hid (HM.out.kept0 hg)
  replace HG := hid (grown_trans HG.out hg)
  clear hg
  go_upto_region 2 with (first
    | (refine wpList_store_rw rfl 27 _ _ rfl rfl rfl ((RwAt.new _ _ _).alloc _) (by kernel_rfl) rfl (in_one _ _ _ _ _) ?_)
    | (refine wpList_store_rw rfl 47 _ _ rfl rfl rfl ((RwAt.new2 _ _ _ _).rowOther _ _ (by omega)) (by kernel_rfl) rfl (sp_one _ _ _ _ _ _ _ _) ?_)
    | fail)
  generalize ((((w5.alloc (.cells (inC 0 0 0 0 0) 27)).alloc (.cells (spC 0 0 0 0 0 0 0 0) 47)).setRow w5.heap.size (inC 23 (k : Int) b c im)).setRow (w5.heap.size + 1) (spC 0 0 23 (k : Int) b c im ln)) = w6 at HC HR1 HR2 HM HG HI HSt ⊢
  obtain ⟨b2, e2⟩ : ∃ b2, b2 = w5.heap.size + 1 := ⟨_, rfl⟩
  have HO : Hid (Ord4 b1 b2 b3 b4) := hid (by unfold Ord4; have := NW.out; have := B13.out; omega)
  have HB : Hid (∀ i ∈ [b1, b2, b3, b4], W.heap.size ≤ i) := hid (by have := NW.out; have := B13.out; simp only [List.mem_cons, List.not_mem_nil, or_false]; omega)
  have N5 : Hid (w5.heap.size ≠ b1 ∧ w5.heap.size ≠ b2) := hid (by have := NW.out; omega)
  rw [← e2] at HSt ⊢
  clear e2
  generalize w5.heap.size = b5 at HI N5 ⊢
  have HF : Hid (FAt w6 47 b1 b2 b3 b4 ⟨l, pc, ie, eie, epc, tv, cc, cd⟩ (spC 0 0 23 (k : Int) b c im ln) w6) := hid ⟨HC.out, HSt.out, HR1.out, HR2.out, Lv.refl _ _⟩
  clear HC HSt HR1 HR2 NW B13
  have k0 : w6.cell? ⟨b2, 0, none⟩ = some (.int .i64 0) := HF.out.hs.cell 0 rfl
  have kop : w6.cell? ⟨b5, 0, none⟩ = some (.int .i64 23) := HI.out.cell 0 rfl
  have kp := HF.out.hc.pc
  have k7 : w6.cell? ⟨b2, 7, none⟩ = some (.int .u32 ln) := HF.out.hs.cell 7 rfl
  go_wp2_with fail
  refine (rclass_any _ _).mono ?_; rw [HK.out]; rintro e w7 ⟨rfl, rfl⟩
  go_wp2_with (first
    | (refine wpList_load_rw rfl 27 _ rfl rfl HI.out rfl Tryd.underlying27 (by kernel_rfl) ?_)
    | (refine wpList_load_mid rfl 44 _ rfl b1 0 rfl _ _ HF.out.hc.regs Tryd.underlying44 rfl (regs16_size HL.out.len) ?_)
    | fail)
  refine (rtaken_of 23 (k : Int) b c im HL.out true true HT.out HA.out _).mono ?_; rintro e w8 ⟨rfl, hg⟩
  clear k0 kop kp k7
  replace HF := hid (HF.out.kept hg)
  replace HI := hid (HI.out.kept0 hg)
  replace HG := hid (grown_trans HG.out hg)
  clear hg HM
  have kop : w8.cell? ⟨b5, 0, none⟩ = some (.int .i64 23) := HI.out.cell 0 rfl
  have k1 : w8.cell? ⟨b5, 1, none⟩ = some (.int .i64 (k : Int)) := HI.out.cell 1 rfl
  have kr : w8.cell? ⟨b1, k, none⟩ = some (.int .u32 (regI l (k : Int))) := HF.out.hc.regc HR.out
  have kp := HF.out.hc.pc
  have kf := fun k => HF.out.hc.free k
  have HF9 := hid (HF.out.sPc HO.out (regI l (k : Int)))
  go_upto_region 49 with (fail)
  refine region_ret2 HF9.out HO.out rfl (sp_one _ _ _ _ _ _ _ _) rfl rfl rfl rfl rfl rfl rfl rfl rfl rfl rfl rfl rfl (by kernel_rfl) (by kernel_rfl) (by kernel_rfl) (by kernel_rfl) rfl Tryd.underlying47 (by kernel_rfl) rfl rfl rfl rfl rfl rfl (fun _ _ _ h => h) (fun _ _ _ h => h) ?_
  intro w9 hE
  have HE := hid hE
  clear hE
  go_wp2
  refine bodyPost_ret (HE.out.results Tryd.results20 _ rfl rfl rfl rfl Tryd.underlying46 Tryd.underlying47 (cpu_size_info HE.out.r1.len) (by kernel_rfl)) rfl ?_
  exact ⟨rfl, Lv.after HG.out HE.out.lv HB.out⟩
set_option maxRecDepth 100000 in
set_option maxHeartbeats 4000000 in
theorem rjump_16 (h : RefAt W m b0 N xs) (hN : N = n * 16) (hn2 : n ≤ 1024) (hu : U32s xs) (hl : Regs l) (p0 : 0 ≤ pc) (p1 : pc < 4294967296) (root : Int) (user : Bool) (ha : askB 16 a b c im = true) (ht : takenB 16 a b c im l = true) (hs : fetchP xs n root pc user = ⟨0, 0, 16, a, b, c, im, ln⟩) :
    Calls Tryd.prog 20 #[.pointer (some ⟨m, 0, none⟩), .int .i64 root, .agg (cpuC ⟨l, pc, ie, eie, epc, tv, cc, cd⟩), .bool user] W fun e w' => e = .returned (.tuple #[.agg (cpuC ⟨l, ((pc + ((c + 128) % 256 - 128)) % 4294967296), ie, eie, epc, tv, cc, cd⟩), .agg (spC 0 0 16 a b c im ln)]) ∧ W.grownBy w' none := by
  have HK : Hid (clsI 16 = 1) := hid (by decide)
  have HT := hid ht
  have HA := hid ha
  clear ht ha
  have Hz := zero_cpu
  have Hz2 := zero_rstop
  have Hz3 := zero_ins
  obtain ⟨b1, b3, b4, e1, e3, e4⟩ : ∃ b1 b3 b4, b1 = W.heap.size ∧ b3 = b1 + 1 ∧ b4 = b3 + 1 := ⟨_, _, _, rfl, rfl, rfl⟩
  have B13 : Hid (b1 ≠ b3 ∧ b1 ≠ b4 ∧ b3 ≠ b4 ∧ W.heap.size ≤ b1 ∧ W.heap.size ≤ b3 ∧ W.heap.size ≤ b4) := hid (by omega)
  have HC : Hid (CpuAt (((W.alloc (.cells (cpuC ⟨l, pc, ie, eie, epc, tv, cc, cd⟩) 46)).alloc (.cells (cpuC zeroP) 46)).alloc (.cells (spC 0 0 0 0 0 0 0 0) 47)) b1 ⟨l, pc, ie, eie, epc, tv, cc, cd⟩) := hid (by rw [e1]; exact ((CpuAt.new _ hl.len).alloc _).alloc _)
  have HR1 : Hid (CpuAt (((W.alloc (.cells (cpuC ⟨l, pc, ie, eie, epc, tv, cc, cd⟩) 46)).alloc (.cells (cpuC zeroP) 46)).alloc (.cells (spC 0 0 0 0 0 0 0 0) 47)) b3 zeroP) := hid (by rw [e3, e1]; exact (CpuAt.new2 _ _ rfl).alloc _)
  have HR2 : Hid (RwAt (((W.alloc (.cells (cpuC ⟨l, pc, ie, eie, epc, tv, cc, cd⟩) 46)).alloc (.cells (cpuC zeroP) 46)).alloc (.cells (spC 0 0 0 0 0 0 0 0) 47)) b4 47 (spC 0 0 0 0 0 0 0 0)) := hid (by
    rw [e4, e3, e1]
    have := RwAt.new2 (W.alloc (.cells (cpuC ⟨l, pc, ie, eie, epc, tv, cc, cd⟩) 46)) (.cells (cpuC zeroP) 46) 47 (spC 0 0 0 0 0 0 0 0)
    simp only [World.size_alloc] at this
    exact this)
  have HG : Hid (W.grownBy (((W.alloc (.cells (cpuC ⟨l, pc, ie, eie, epc, tv, cc, cd⟩) 46)).alloc (.cells (cpuC zeroP) 46)).alloc (.cells (spC 0 0 0 0 0 0 0 0) 47)) none) := hid (grown_alloc (grown_alloc (grown_alloc (grown_refl _ _) _) _) _)
  have HM := hid (h.kept0 HG.out)
  have Hm := hid h.mlt
  have Hbm := hid h.blt
  have HLen := hid (h.len.trans hN)
  have HN := hid hN
  have Hn2 := hid hn2
  have HL := hid hl
  have Hu := hid hu
  have HS := hid hs
  clear h hl hu hs hN hn2
  go_enter Tryd.func20, Tryd.ntmps20
  go_upto_region 1 with (fail)
  generalize (((W.alloc (.cells (cpuC ⟨l, pc, ie, eie, epc, tv, cc, cd⟩) 46)).alloc (.cells (cpuC zeroP) 46)).alloc (.cells (spC 0 0 0 0 0 0 0 0) 47)) = w3 at HC HR1 HR2 HM HG ⊢
  rw [← e1, ← e3, ← e4]
  clear e1 e3 e4
  have kp := HC.out.pc
  go_wp2_with fail
  refine (rfetch_of HM.out HN.out Hn2.out Hu.out root pc p0 p1 user 0 0 16 a b c im ln HS.out).mono ?_; rintro e w5 ⟨rfl, hg⟩
  clear kp
  replace HC := hid (HC.out.kept0 hg)
  replace HR1 := hid (HR1.out.kept0 hg)
  replace HR2 := hid (HR2.out.kept0 hg)
  replace HM := hid (HM.out.kept0 hg)
  replace HG := hid (grown_trans HG.out hg)
  clear hg
  have hg : w5.grownBy ((((w5.alloc (.cells (inC 0 0 0 0 0) 27)).alloc (.cells (spC 0 0 0 0 0 0 0 0) 47)).setRow w5.heap.size (inC 16 a b c im)).setRow (w5.heap.size + 1) (spC 0 0 16 a b c im ln)) none := grown_setRow (grown_setRow (grown_alloc (grown_alloc (grown_refl _ _) _) _) (Nat.le_refl _) _) (Nat.le_succ _) _
  have HI := hid ((((RwAt.new w5 27 (inC 0 0 0 0 0)).alloc (.cells (spC 0 0 0 0 0 0 0 0) 47)).row (inC 16 a b c im)).rowOther (w5.heap.size + 1) (spC 0 0 16 a b c im ln) (by omega))
  have HSt := hid (((RwAt.new2 w5 (.cells (inC 0 0 0 0 0) 27) 47 (spC 0 0 0 0 0 0 0 0)).rowOther w5.heap.size (inC 16 a b c im) (by omega)).row (spC 0 0 16 a b c im ln))
  have NW : Hid (b1 < w5.heap.size ∧ b3 < w5.heap.size ∧ b4 < w5.heap.size ∧ W.heap.size ≤ w5.heap.size) := hid ⟨HC.out.lt, HR1.out.lt, HR2.out.lt, HG.out.size⟩
  replace HC := hid (HC.out.kept0 hg)
  replace HR1 := hid (HR1.out.kept0 hg)
  replace HR2 := hid (HR2.out.kept0 hg)
  replace HM := hid (HM.out.kept0 hg)
  replace HG := hid (grown_trans HG.out hg)
  clear hg
  go_upto_region 2 with (first
    | (refine wpList_store_rw rfl 27 _ _ rfl rfl rfl ((RwAt.new _ _ _).alloc _) (by kernel_rfl) rfl (in_one _ _ _ _ _) ?_)
    | (refine wpList_store_rw rfl 47 _ _ rfl rfl rfl ((RwAt.new2 _ _ _ _).rowOther _ _ (by omega)) (by kernel_rfl) rfl (sp_one _ _ _ _ _ _ _ _) ?_)
    | fail)
  generalize ((((w5.alloc (.cells (inC 0 0 0 0 0) 27)).alloc (.cells (spC 0 0 0 0 0 0 0 0) 47)).setRow w5.heap.size (inC 16 a b c im)).setRow (w5.heap.size + 1) (spC 0 0 16 a b c im ln)) = w6 at HC HR1 HR2 HM HG HI HSt ⊢
  obtain ⟨b2, e2⟩ : ∃ b2, b2 = w5.heap.size + 1 := ⟨_, rfl⟩
  have HO : Hid (Ord4 b1 b2 b3 b4) := hid (by unfold Ord4; have := NW.out; have := B13.out; omega)
  have HB : Hid (∀ i ∈ [b1, b2, b3, b4], W.heap.size ≤ i) := hid (by have := NW.out; have := B13.out; simp only [List.mem_cons, List.not_mem_nil, or_false]; omega)
  have N5 : Hid (w5.heap.size ≠ b1 ∧ w5.heap.size ≠ b2) := hid (by have := NW.out; omega)
  rw [← e2] at HSt ⊢
  clear e2
  generalize w5.heap.size = b5 at HI N5 ⊢
  have HF : Hid (FAt w6 47 b1 b2 b3 b4 ⟨l, pc, ie, eie, epc, tv, cc, cd⟩ (spC 0 0 16 a b c im ln) w6) := hid ⟨HC.out, HSt.out, HR1.out, HR2.out, Lv.refl _ _⟩
  clear HC HSt HR1 HR2 NW B13
  have k0 : w6.cell? ⟨b2, 0, none⟩ = some (.int .i64 0) := HF.out.hs.cell 0 rfl
  have kop : w6.cell? ⟨b5, 0, none⟩ = some (.int .i64 16) := HI.out.cell 0 rfl
  have kp := HF.out.hc.pc
  have k7 : w6.cell? ⟨b2, 7, none⟩ = some (.int .u32 ln) := HF.out.hs.cell 7 rfl
  go_wp2_with fail
  refine (rclass_any _ _).mono ?_; rw [HK.out]; rintro e w7 ⟨rfl, rfl⟩
  go_wp2_with (first
    | (refine wpList_load_rw rfl 27 _ rfl rfl HI.out rfl Tryd.underlying27 (by kernel_rfl) ?_)
    | (refine wpList_load_mid rfl 44 _ rfl b1 0 rfl _ _ HF.out.hc.regs Tryd.underlying44 rfl (regs16_size HL.out.len) ?_)
    | fail)
  refine (rtaken_of 16 a b c im HL.out true true HT.out HA.out _).mono ?_; rintro e w8 ⟨rfl, hg⟩
  clear k0 kop kp k7
  replace HF := hid (HF.out.kept hg)
  replace HI := hid (HI.out.kept0 hg)
  replace HG := hid (grown_trans HG.out hg)
  clear hg HM
  have kop : w8.cell? ⟨b5, 0, none⟩ = some (.int .i64 16) := HI.out.cell 0 rfl
  have k3 : w8.cell? ⟨b5, 3, none⟩ = some (.int .i64 c) := HI.out.cell 3 rfl
  have kp := HF.out.hc.pc
  go_upto_region 43 with (fail)
  go_quiet ((first | (go_at_call 25; exact Calls.quiet_of_same ((rdisp_any _ _).mono fun _ _ ⟨he, hw⟩ => ⟨he, hw.symm⟩))))
  replace HF := hid (HF.out.kept (grown_drewN (grown_refl _ none) nq))
  replace HI := hid (HI.out.kept0 (grown_drewN (grown_refl _ none) nq))
  replace HG := hid (grown_drewN HG.out nq)
  clear kop k3 kp
  generalize w8.drewN nq = w9 at HF HI HG ⊢
  have kop : w9.cell? ⟨b5, 0, none⟩ = some (.int .i64 16) := HI.out.cell 0 rfl
  have kp := HF.out.hc.pc
  have kf := fun k => HF.out.hc.free k
  have HF9 := hid (HF.out.sPc HO.out ((pc + ((c + 128) % 256 - 128)) % 4294967296))
  go_upto_region 49 with (fail)
  refine region_ret2 HF9.out HO.out rfl (sp_one _ _ _ _ _ _ _ _) rfl rfl rfl rfl rfl rfl rfl rfl rfl rfl rfl rfl rfl (by kernel_rfl) (by kernel_rfl) (by kernel_rfl) (by kernel_rfl) rfl Tryd.underlying47 (by kernel_rfl) rfl rfl rfl rfl rfl rfl (fun _ _ _ h => h) (fun _ _ _ h => h) ?_
  intro w9 hE
  have HE := hid hE
  clear hE
  go_wp2
  refine bodyPost_ret (HE.out.results Tryd.results20 _ rfl rfl rfl rfl Tryd.underlying46 Tryd.underlying47 (cpu_size_info HE.out.r1.len) (by kernel_rfl)) rfl ?_
  exact ⟨rfl, Lv.after HG.out HE.out.lv HB.out⟩
set_option maxRecDepth 100000 in
set_option maxHeartbeats 4000000 in
theorem rjump_17 (h : RefAt W m b0 N xs) (hN : N = n * 16) (hn2 : n ≤ 1024) (hu : U32s xs) (hl : Regs l) (p0 : 0 ≤ pc) (p1 : pc < 4294967296) (root : Int) (user : Bool) (ha : askB 17 a b c im = true) (ht : takenB 17 a b c im l = true) (hs : fetchP xs n root pc user = ⟨0, 0, 17, a, b, c, im, ln⟩) :
    Calls Tryd.prog 20 #[.pointer (some ⟨m, 0, none⟩), .int .i64 root, .agg (cpuC ⟨l, pc, ie, eie, epc, tv, cc, cd⟩), .bool user] W fun e w' => e = .returned (.tuple #[.agg (cpuC ⟨l, ((pc + ((c + 128) % 256 - 128)) % 4294967296), ie, eie, epc, tv, cc, cd⟩), .agg (spC 0 0 17 a b c im ln)]) ∧ W.grownBy w' none := by
  have HK : Hid (clsI 17 = 1) := hid (by decide)
  have HT := hid ht
  have HA := hid ha
  clear ht ha
  have Hz := zero_cpu
  have Hz2 := zero_rstop
  have Hz3 := zero_ins
  obtain ⟨b1, b3, b4, e1, e3, e4⟩ : ∃ b1 b3 b4, b1 = W.heap.size ∧ b3 = b1 + 1 ∧ b4 = b3 + 1 := ⟨_, _, _, rfl, rfl, rfl⟩
  have B13 : Hid (b1 ≠ b3 ∧ b1 ≠ b4 ∧ b3 ≠ b4 ∧ W.heap.size ≤ b1 ∧ W.heap.size ≤ b3 ∧ W.heap.size ≤ b4) := hid (by omega)
  have HC : Hid (CpuAt (((W.alloc (.cells (cpuC ⟨l, pc, ie, eie, epc, tv, cc, cd⟩) 46)).alloc (.cells (cpuC zeroP) 46)).alloc (.cells (spC 0 0 0 0 0 0 0 0) 47)) b1 ⟨l, pc, ie, eie, epc, tv, cc, cd⟩) := hid (by rw [e1]; exact ((CpuAt.new _ hl.len).alloc _).alloc _)
  have HR1 : Hid (CpuAt (((W.alloc (.cells (cpuC ⟨l, pc, ie, eie, epc, tv, cc, cd⟩) 46)).alloc (.cells (cpuC zeroP) 46)).alloc (.cells (spC 0 0 0 0 0 0 0 0) 47)) b3 zeroP) := hid (by rw [e3, e1]; exact (CpuAt.new2 _ _ rfl).alloc _)
  have HR2 : Hid (RwAt (((W.alloc (.cells (cpuC ⟨l, pc, ie, eie, epc, tv, cc, cd⟩) 46)).alloc (.cells (cpuC zeroP) 46)).alloc (.cells (spC 0 0 0 0 0 0 0 0) 47)) b4 47 (spC 0 0 0 0 0 0 0 0)) := hid (by
    rw [e4, e3, e1]
    have := RwAt.new2 (W.alloc (.cells (cpuC ⟨l, pc, ie, eie, epc, tv, cc, cd⟩) 46)) (.cells (cpuC zeroP) 46) 47 (spC 0 0 0 0 0 0 0 0)
    simp only [World.size_alloc] at this
    exact this)
  have HG : Hid (W.grownBy (((W.alloc (.cells (cpuC ⟨l, pc, ie, eie, epc, tv, cc, cd⟩) 46)).alloc (.cells (cpuC zeroP) 46)).alloc (.cells (spC 0 0 0 0 0 0 0 0) 47)) none) := hid (grown_alloc (grown_alloc (grown_alloc (grown_refl _ _) _) _) _)
  have HM := hid (h.kept0 HG.out)
  have Hm := hid h.mlt
  have Hbm := hid h.blt
  have HLen := hid (h.len.trans hN)
  have HN := hid hN
  have Hn2 := hid hn2
  have HL := hid hl
  have Hu := hid hu
  have HS := hid hs
  clear h hl hu hs hN hn2
  go_enter Tryd.func20, Tryd.ntmps20
  go_upto_region 1 with (fail)
  generalize (((W.alloc (.cells (cpuC ⟨l, pc, ie, eie, epc, tv, cc, cd⟩) 46)).alloc (.cells (cpuC zeroP) 46)).alloc (.cells (spC 0 0 0 0 0 0 0 0) 47)) = w3 at HC HR1 HR2 HM HG ⊢
  rw [← e1, ← e3, ← e4]
  clear e1 e3 e4
  have kp := HC.out.pc
  go_wp2_with fail
  refine (rfetch_of HM.out HN.out Hn2.out Hu.out root pc p0 p1 user 0 0 17 a b c im ln HS.out).mono ?_; rintro e w5 ⟨rfl, hg⟩
  clear kp
  replace HC := hid (HC.out.kept0 hg)
  replace HR1 := hid (HR1.out.kept0 hg)
  replace HR2 := hid (HR2.out.kept0 hg)
  replace HM := hid (HM.out.kept0 hg)
  replace HG := hid (grown_trans HG.out hg)
  clear hg
  have hg : w5.grownBy ((((w5.alloc (.cells (inC 0 0 0 0 0) 27)).alloc (.cells (spC 0 0 0 0 0 0 0 0) 47)).setRow w5.heap.size (inC 17 a b c im)).setRow (w5.heap.size + 1) (spC 0 0 17 a b c im ln)) none := grown_setRow (grown_setRow (grown_alloc (grown_alloc (grown_refl _ _) _) _) (Nat.le_refl _) _) (Nat.le_succ _) _
  have HI := hid ((((RwAt.new w5 27 (inC 0 0 0 0 0)).alloc (.cells (spC 0 0 0 0 0 0 0 0) 47)).row (inC 17 a b c im)).rowOther (w5.heap.size + 1) (spC 0 0 17 a b c im ln) (by omega))
  have HSt := hid (((RwAt.new2 w5 (.cells (inC 0 0 0 0 0) 27) 47 (spC 0 0 0 0 0 0 0 0)).rowOther w5.heap.size (inC 17 a b c im) (by omega)).row (spC 0 0 17 a b c im ln))
  have NW : Hid (b1 < w5.heap.size ∧ b3 < w5.heap.size ∧ b4 < w5.heap.size ∧ W.heap.size ≤ w5.heap.size) := hid ⟨HC.out.lt, HR1.out.lt, HR2.out.lt, HG.out.size⟩
  replace HC := hid (HC.out.kept0 hg)
  replace HR1 := hid (HR1.out.kept0 hg)
  replace HR2 := hid (HR2.out.kept0 hg)
  replace HM := hid (HM.out.kept0 hg)
  replace HG := hid (grown_trans HG.out hg)
  clear hg
  go_upto_region 2 with (first
    | (refine wpList_store_rw rfl 27 _ _ rfl rfl rfl ((RwAt.new _ _ _).alloc _) (by kernel_rfl) rfl (in_one _ _ _ _ _) ?_)
    | (refine wpList_store_rw rfl 47 _ _ rfl rfl rfl ((RwAt.new2 _ _ _ _).rowOther _ _ (by omega)) (by kernel_rfl) rfl (sp_one _ _ _ _ _ _ _ _) ?_)
    | fail)
  generalize ((((w5.alloc (.cells (inC 0 0 0 0 0) 27)).alloc (.cells (spC 0 0 0 0 0 0 0 0) 47)).setRow w5.heap.size (inC 17 a b c im)).setRow (w5.heap.size + 1) (spC 0 0 17 a b c im ln)) = w6 at HC HR1 HR2 HM HG HI HSt ⊢
  obtain ⟨b2, e2⟩ : ∃ b2, b2 = w5.heap.size + 1 := ⟨_, rfl⟩
  have HO : Hid (Ord4 b1 b2 b3 b4) := hid (by unfold Ord4; have := NW.out; have := B13.out; omega)
  have HB : Hid (∀ i ∈ [b1, b2, b3, b4], W.heap.size ≤ i) := hid (by have := NW.out; have := B13.out; simp only [List.mem_cons, List.not_mem_nil, or_false]; omega)
  have N5 : Hid (w5.heap.size ≠ b1 ∧ w5.heap.size ≠ b2) := hid (by have := NW.out; omega)
  rw [← e2] at HSt ⊢
  clear e2
  generalize w5.heap.size = b5 at HI N5 ⊢
  have HF : Hid (FAt w6 47 b1 b2 b3 b4 ⟨l, pc, ie, eie, epc, tv, cc, cd⟩ (spC 0 0 17 a b c im ln) w6) := hid ⟨HC.out, HSt.out, HR1.out, HR2.out, Lv.refl _ _⟩
  clear HC HSt HR1 HR2 NW B13
  have k0 : w6.cell? ⟨b2, 0, none⟩ = some (.int .i64 0) := HF.out.hs.cell 0 rfl
  have kop : w6.cell? ⟨b5, 0, none⟩ = some (.int .i64 17) := HI.out.cell 0 rfl
  have kp := HF.out.hc.pc
  have k7 : w6.cell? ⟨b2, 7, none⟩ = some (.int .u32 ln) := HF.out.hs.cell 7 rfl
  go_wp2_with fail
  refine (rclass_any _ _).mono ?_; rw [HK.out]; rintro e w7 ⟨rfl, rfl⟩
  go_wp2_with (first
    | (refine wpList_load_rw rfl 27 _ rfl rfl HI.out rfl Tryd.underlying27 (by kernel_rfl) ?_)
    | (refine wpList_load_mid rfl 44 _ rfl b1 0 rfl _ _ HF.out.hc.regs Tryd.underlying44 rfl (regs16_size HL.out.len) ?_)
    | fail)
  refine (rtaken_of 17 a b c im HL.out true true HT.out HA.out _).mono ?_; rintro e w8 ⟨rfl, hg⟩
  clear k0 kop kp k7
  replace HF := hid (HF.out.kept hg)
  replace HI := hid (HI.out.kept0 hg)
  replace HG := hid (grown_trans HG.out hg)
  clear hg HM
  have kop : w8.cell? ⟨b5, 0, none⟩ = some (.int .i64 17) := HI.out.cell 0 rfl
  have k3 : w8.cell? ⟨b5, 3, none⟩ = some (.int .i64 c) := HI.out.cell 3 rfl
  have kp := HF.out.hc.pc
  go_upto_region 43 with (fail)
  go_quiet ((first | (go_at_call 25; exact Calls.quiet_of_same ((rdisp_any _ _).mono fun _ _ ⟨he, hw⟩ => ⟨he, hw.symm⟩))))
  replace HF := hid (HF.out.kept (grown_drewN (grown_refl _ none) nq))
  replace HI := hid (HI.out.kept0 (grown_drewN (grown_refl _ none) nq))
  replace HG := hid (grown_drewN HG.out nq)
  clear kop k3 kp
  generalize w8.drewN nq = w9 at HF HI HG ⊢
  have kop : w9.cell? ⟨b5, 0, none⟩ = some (.int .i64 17) := HI.out.cell 0 rfl
  have kp := HF.out.hc.pc
  have kf := fun k => HF.out.hc.free k
  have HF9 := hid (HF.out.sPc HO.out ((pc + ((c + 128) % 256 - 128)) % 4294967296))
  go_upto_region 49 with (fail)
  refine region_ret2 HF9.out HO.out rfl (sp_one _ _ _ _ _ _ _ _) rfl rfl rfl rfl rfl rfl rfl rfl rfl rfl rfl rfl rfl (by kernel_rfl) (by kernel_rfl) (by kernel_rfl) (by kernel_rfl) rfl Tryd.underlying47 (by kernel_rfl) rfl rfl rfl rfl rfl rfl (fun _ _ _ h => h) (fun _ _ _ h => h) ?_
  intro w9 hE
  have HE := hid hE
  clear hE
  go_wp2
  refine bodyPost_ret (HE.out.results Tryd.results20 _ rfl rfl rfl rfl Tryd.underlying46 Tryd.underlying47 (cpu_size_info HE.out.r1.len) (by kernel_rfl)) rfl ?_
  exact ⟨rfl, Lv.after HG.out HE.out.lv HB.out⟩
set_option maxRecDepth 100000 in
set_option maxHeartbeats 4000000 in
theorem rjump_18 (h : RefAt W m b0 N xs) (hN : N = n * 16) (hn2 : n ≤ 1024) (hu : U32s xs) (hl : Regs l) (p0 : 0 ≤ pc) (p1 : pc < 4294967296) (root : Int) (user : Bool) (ha : askB 18 a b c im = true) (ht : takenB 18 a b c im l = true) (hs : fetchP xs n root pc user = ⟨0, 0, 18, a, b, c, im, ln⟩) :
    Calls Tryd.prog 20 #[.pointer (some ⟨m, 0, none⟩), .int .i64 root, .agg (cpuC ⟨l, pc, ie, eie, epc, tv, cc, cd⟩), .bool user] W fun e w' => e = .returned (.tuple #[.agg (cpuC ⟨l, ((pc + ((c + 128) % 256 - 128)) % 4294967296), ie, eie, epc, tv, cc, cd⟩), .agg (spC 0 0 18 a b c im ln)]) ∧ W.grownBy w' none := by
  have HK : Hid (clsI 18 = 1) := hid (by decide)
  have HT := hid ht
  have HA := hid ha
  clear ht ha
  have Hz := zero_cpu
  have Hz2 := zero_rstop
  have Hz3 := zero_ins
  obtain ⟨b1, b3, b4, e1, e3, e4⟩ : ∃ b1 b3 b4, b1 = W.heap.size ∧ b3 = b1 + 1 ∧ b4 = b3 + 1 := ⟨_, _, _, rfl, rfl, rfl⟩
  have B13 : Hid (b1 ≠ b3 ∧ b1 ≠ b4 ∧ b3 ≠ b4 ∧ W.heap.size ≤ b1 ∧ W.heap.size ≤ b3 ∧ W.heap.size ≤ b4) := hid (by omega)
  have HC : Hid (CpuAt (((W.alloc (.cells (cpuC ⟨l, pc, ie, eie, epc, tv, cc, cd⟩) 46)).alloc (.cells (cpuC zeroP) 46)).alloc (.cells (spC 0 0 0 0 0 0 0 0) 47)) b1 ⟨l, pc, ie, eie, epc, tv, cc, cd⟩) := hid (by rw [e1]; exact ((CpuAt.new _ hl.len).alloc _).alloc _)
  have HR1 : Hid (CpuAt (((W.alloc (.cells (cpuC ⟨l, pc, ie, eie, epc, tv, cc, cd⟩) 46)).alloc (.cells (cpuC zeroP) 46)).alloc (.cells (spC 0 0 0 0 0 0 0 0) 47)) b3 zeroP) := hid (by rw [e3, e1]; exact (CpuAt.new2 _ _ rfl).alloc _)
  have HR2 : Hid (RwAt (((W.alloc (.cells (cpuC ⟨l, pc, ie, eie, epc, tv, cc, cd⟩) 46)).alloc (.cells (cpuC zeroP) 46)).alloc (.cells (spC 0 0 0 0 0 0 0 0) 47)) b4 47 (spC 0 0 0 0 0 0 0 0)) := hid (by
    rw [e4, e3, e1]
    have := RwAt.new2 (W.alloc (.cells (cpuC ⟨l, pc, ie, eie, epc, tv, cc, cd⟩) 46)) (.cells (cpuC zeroP) 46) 47 (spC 0 0 0 0 0 0 0 0)
    simp only [World.size_alloc] at this
    exact this)
  have HG : Hid (W.grownBy (((W.alloc (.cells (cpuC ⟨l, pc, ie, eie, epc, tv, cc, cd⟩) 46)).alloc (.cells (cpuC zeroP) 46)).alloc (.cells (spC 0 0 0 0 0 0 0 0) 47)) none) := hid (grown_alloc (grown_alloc (grown_alloc (grown_refl _ _) _) _) _)
  have HM := hid (h.kept0 HG.out)
  have Hm := hid h.mlt
  have Hbm := hid h.blt
  have HLen := hid (h.len.trans hN)
  have HN := hid hN
  have Hn2 := hid hn2
  have HL := hid hl
  have Hu := hid hu
  have HS := hid hs
  clear h hl hu hs hN hn2
  go_enter Tryd.func20, Tryd.ntmps20
  go_upto_region 1 with (fail)
  generalize (((W.alloc (.cells (cpuC ⟨l, pc, ie, eie, epc, tv, cc, cd⟩) 46)).alloc (.cells (cpuC zeroP) 46)).alloc (.cells (spC 0 0 0 0 0 0 0 0) 47)) = w3 at HC HR1 HR2 HM HG ⊢
  rw [← e1, ← e3, ← e4]
  clear e1 e3 e4
  have kp := HC.out.pc
  go_wp2_with fail
  refine (rfetch_of HM.out HN.out Hn2.out Hu.out root pc p0 p1 user 0 0 18 a b c im ln HS.out).mono ?_; rintro e w5 ⟨rfl, hg⟩
  clear kp
  replace HC := hid (HC.out.kept0 hg)
  replace HR1 := hid (HR1.out.kept0 hg)
  replace HR2 := hid (HR2.out.kept0 hg)
  replace HM := hid (HM.out.kept0 hg)
  replace HG := hid (grown_trans HG.out hg)
  clear hg
  have hg : w5.grownBy ((((w5.alloc (.cells (inC 0 0 0 0 0) 27)).alloc (.cells (spC 0 0 0 0 0 0 0 0) 47)).setRow w5.heap.size (inC 18 a b c im)).setRow (w5.heap.size + 1) (spC 0 0 18 a b c im ln)) none := grown_setRow (grown_setRow (grown_alloc (grown_alloc (grown_refl _ _) _) _) (Nat.le_refl _) _) (Nat.le_succ _) _
  have HI := hid ((((RwAt.new w5 27 (inC 0 0 0 0 0)).alloc (.cells (spC 0 0 0 0 0 0 0 0) 47)).row (inC 18 a b c im)).rowOther (w5.heap.size + 1) (spC 0 0 18 a b c im ln) (by omega))
  have HSt := hid (((RwAt.new2 w5 (.cells (inC 0 0 0 0 0) 27) 47 (spC 0 0 0 0 0 0 0 0)).rowOther w5.heap.size (inC 18 a b c im) (by omega)).row (spC 0 0 18 a b c im ln))
  have NW : Hid (b1 < w5.heap.size ∧ b3 < w5.heap.size ∧ b4 < w5.heap.size ∧ W.heap.size ≤ w5.heap.size) := hid ⟨HC.out.lt, HR1.out.lt, HR2.out.lt, HG.out.size⟩
  replace HC := hid (HC.out.kept0 hg)
  replace HR1 := hid (HR1.out.kept0 hg)
  replace HR2 := hid (HR2.out.kept0 hg)
  replace HM := hid (HM.out.kept0 hg)
  replace HG := hid (grown_trans HG.out hg)
  clear hg
  go_upto_region 2 with (first
    | (refine wpList_store_rw rfl 27 _ _ rfl rfl rfl ((RwAt.new _ _ _).alloc _) (by kernel_rfl) rfl (in_one _ _ _ _ _) ?_)
    | (refine wpList_store_rw rfl 47 _ _ rfl rfl rfl ((RwAt.new2 _ _ _ _).rowOther _ _ (by omega)) (by kernel_rfl) rfl (sp_one _ _ _ _ _ _ _ _) ?_)
    | fail)
  generalize ((((w5.alloc (.cells (inC 0 0 0 0 0) 27)).alloc (.cells (spC 0 0 0 0 0 0 0 0) 47)).setRow w5.heap.size (inC 18 a b c im)).setRow (w5.heap.size + 1) (spC 0 0 18 a b c im ln)) = w6 at HC HR1 HR2 HM HG HI HSt ⊢
  obtain ⟨b2, e2⟩ : ∃ b2, b2 = w5.heap.size + 1 := ⟨_, rfl⟩
  have HO : Hid (Ord4 b1 b2 b3 b4) := hid (by unfold Ord4; have := NW.out; have := B13.out; omega)
  have HB : Hid (∀ i ∈ [b1, b2, b3, b4], W.heap.size ≤ i) := hid (by have := NW.out; have := B13.out; simp only [List.mem_cons, List.not_mem_nil, or_false]; omega)
  have N5 : Hid (w5.heap.size ≠ b1 ∧ w5.heap.size ≠ b2) := hid (by have := NW.out; omega)
  rw [← e2] at HSt ⊢
  clear e2
  generalize w5.heap.size = b5 at HI N5 ⊢
  have HF : Hid (FAt w6 47 b1 b2 b3 b4 ⟨l, pc, ie, eie, epc, tv, cc, cd⟩ (spC 0 0 18 a b c im ln) w6) := hid ⟨HC.out, HSt.out, HR1.out, HR2.out, Lv.refl _ _⟩
  clear HC HSt HR1 HR2 NW B13
  have k0 : w6.cell? ⟨b2, 0, none⟩ = some (.int .i64 0) := HF.out.hs.cell 0 rfl
  have kop : w6.cell? ⟨b5, 0, none⟩ = some (.int .i64 18) := HI.out.cell 0 rfl
  have kp := HF.out.hc.pc
  have k7 : w6.cell? ⟨b2, 7, none⟩ = some (.int .u32 ln) := HF.out.hs.cell 7 rfl
  go_wp2_with fail
  refine (rclass_any _ _).mono ?_; rw [HK.out]; rintro e w7 ⟨rfl, rfl⟩
  go_wp2_with (first
    | (refine wpList_load_rw rfl 27 _ rfl rfl HI.out rfl Tryd.underlying27 (by kernel_rfl) ?_)
    | (refine wpList_load_mid rfl 44 _ rfl b1 0 rfl _ _ HF.out.hc.regs Tryd.underlying44 rfl (regs16_size HL.out.len) ?_)
    | fail)
  refine (rtaken_of 18 a b c im HL.out true true HT.out HA.out _).mono ?_; rintro e w8 ⟨rfl, hg⟩
  clear k0 kop kp k7
  replace HF := hid (HF.out.kept hg)
  replace HI := hid (HI.out.kept0 hg)
  replace HG := hid (grown_trans HG.out hg)
  clear hg HM
  have kop : w8.cell? ⟨b5, 0, none⟩ = some (.int .i64 18) := HI.out.cell 0 rfl
  have k3 : w8.cell? ⟨b5, 3, none⟩ = some (.int .i64 c) := HI.out.cell 3 rfl
  have kp := HF.out.hc.pc
  go_upto_region 43 with (fail)
  go_quiet ((first | (go_at_call 25; exact Calls.quiet_of_same ((rdisp_any _ _).mono fun _ _ ⟨he, hw⟩ => ⟨he, hw.symm⟩))))
  replace HF := hid (HF.out.kept (grown_drewN (grown_refl _ none) nq))
  replace HI := hid (HI.out.kept0 (grown_drewN (grown_refl _ none) nq))
  replace HG := hid (grown_drewN HG.out nq)
  clear kop k3 kp
  generalize w8.drewN nq = w9 at HF HI HG ⊢
  have kop : w9.cell? ⟨b5, 0, none⟩ = some (.int .i64 18) := HI.out.cell 0 rfl
  have kp := HF.out.hc.pc
  have kf := fun k => HF.out.hc.free k
  have HF9 := hid (HF.out.sPc HO.out ((pc + ((c + 128) % 256 - 128)) % 4294967296))
  go_upto_region 49 with (fail)
  refine region_ret2 HF9.out HO.out rfl (sp_one _ _ _ _ _ _ _ _) rfl rfl rfl rfl rfl rfl rfl rfl rfl rfl rfl rfl rfl (by kernel_rfl) (by kernel_rfl) (by kernel_rfl) (by kernel_rfl) rfl Tryd.underlying47 (by kernel_rfl) rfl rfl rfl rfl rfl rfl (fun _ _ _ h => h) (fun _ _ _ h => h) ?_
  intro w9 hE
  have HE := hid hE
  clear hE
  go_wp2
  refine bodyPost_ret (HE.out.results Tryd.results20 _ rfl rfl rfl rfl Tryd.underlying46 Tryd.underlying47 (cpu_size_info HE.out.r1.len) (by kernel_rfl)) rfl ?_
  exact ⟨rfl, Lv.after HG.out HE.out.lv HB.out⟩
end
end Go.Proofs.YtaecbekobpgkoaaDoor
