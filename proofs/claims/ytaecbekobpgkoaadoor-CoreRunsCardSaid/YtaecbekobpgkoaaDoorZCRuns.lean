/- The walk of the law CoreRuns. (Made by a program.) -/
import Derived.Test.YtaecbekobpgkoaaDoorZCRuns0
import Derived.Test.YtaecbekobpgkoaaDoorZInsA
import Derived.LoopTactic
namespace Go.Proofs.YtaecbekobpgkoaaDoor
open Go.RowKit
theorem row_grown (w : World) (B : Nat) (c : Array Value) : w.grownBy (w.setRow B c) (some B) := ⟨rfl, rfl, rfl, by simp [World.setRow], fun i _ hi => setRow_other w B i c (by simpa using hi)⟩
/-- what a round keeps -/
structure RunAt (W : World) (A B m b m' b' : Nat) (x : Cp) (ys : List Int) (w : World) : Prop where
  ha : CpuAt w A x
  hb : CpuAt w B x
  hm : MemAt w m b 24 24 ys
  hr : RefAt w m' b' 384 ys
  hu : U32s ys
  hl : Regs x.l
  p0 : 0 ≤ x.pc
  p1 : x.pc < 4294967296
  hg : W.grownBy w none
set_option maxRecDepth 100000 in
set_option maxHeartbeats 8000000 in
theorem runs_walk (v : Value) (ls : List Int) (l : List Int) (n : Int) (user : Bool) (W : World) (hs : SlAt W .u32 v ls) (hw : ∀ n ∈ ls, (Lit.int .u32 n).wf = true) (hl0 : ls.length ≤ maxLen) (hl : Regs l)
    (_ : -9223372036854775808 ≤ n) (_ : n ≤ 9223372036854775807) :
    Calls Tryd.prog 5 #[v, .agg (wA l), .int .i64 n, .bool user] W fun e w' => e = .returned (.bool true) ∧ Below W.heap.size W w' := by
  have Hz := zero_cpu
  have Hz2 := zero_stop
  have Hz3 := zero_rstop
  obtain ⟨p, c', rfl⟩ := hs.len
  have HL : Hid (Regs l) := hid hl
  have hux : U32s ls := fun n hn => by have := u32_bd (hw n hn); omega
  have HC0 : Hid (RegAt (W.alloc (.cells (wA l) 44)) W.heap.size l) := hid (RegAt.new W l)
  have HG0 := hid (grown_alloc (grown_refl W none) (.cells (wA l) 44))
  have HS0 := hid (hs.kept0 HG0.out)
  have Hux := hid hux
  have Hl0 := hid hl0
  clear hs hw hl0 hl hux
  by_cases hlen : ls.length ≤ 120
  · have hl2 : ¬ (ls.length : Int) > 120 := by omega
    by_cases hn : n ≤ 60
    · have hn2 : ¬ n > 60 := by omega
      obtain ⟨ys0, hys⟩ : ∃ ys, mapW ls true true = ys := ⟨_, rfl⟩
      have HY := hid hys
      have HYl : Hid (ys0.length = 384) := hid (by rw [← hys]; exact mapW_len ls true true)
      have Hu : Hid (U32s ys0) := hid (by rw [← hys]; exact mapW_u32 Hux.out true true)
      clear hys
      go_enter Tryd.func5, Tryd.ntmps5
      go_upto_region 1 with (fail)
      generalize W.alloc (.cells (wA l) 44) = w1 at HC0 HG0 HS0 ⊢
      generalize W.heap.size = B0 at HC0 ⊢
      go_wp2_with fail
      refine (first7_any _).mono ?_; rintro e w2 ⟨rfl, hg⟩
      replace HC0 := hid (HC0.out.kept0 hg)
      replace HS0 := hid (HS0.out.kept0 hg)
      replace HG0 := hid (grown_trans HG0.out hg)
      clear hg
      go_wp2_with fail
      refine (mapped_any _ ls true true _ HS0.out Hl0.out).mono ?_; rintro e w3 ⟨g, rfl, hg0, hblk, hg⟩
      rw [HY.out] at hblk
      have HS1 : Hid (SlAt w3 .u32 (.slice (some ⟨g, 0, none⟩) 384 384) ys0) := hid (by
        have := SlAt.whole (k := .u32) (c := 384) (xs := ys0) hblk
        rwa [HYl.out] at this)
      replace HC0 := hid (HC0.out.kept0 hg)
      replace HG0 := hid (grown_trans HG0.out hg)
      clear hblk hg hg0 HS0
      go_wp2_with fail
      refine (memory7_any _ ys0 _ HS1.out (Nat.le_of_eq HYl.out)).mono ?_; rintro e w4 ⟨m, b, m', b', rfl, hm, hb, hb', hM, hR, hg⟩
      rw [layX_full HYl.out] at hM hR
      have HNE := hid (mr_apart hM hR)
      have HM := hid hM
      have HR := hid hR
      have HBW : Hid (W.heap.size ≤ b ∧ W.heap.size ≤ b') := hid (by have := HG0.out.size; omega)
      replace HC0 := hid (HC0.out.kept0 hg)
      replace HG0 := hid (grown_trans HG0.out hg)
      clear hM hR hm hb hb' hg HS1
      have HA0 := hid (CpuAt.new w4 (x := startP l) HL.out.len)
      have hg : w4.grownBy ((w4.alloc (.cells (cpuC (startP l)) 46)).alloc (.cells (cpuC (startP l)) 46)) none := grown_alloc (grown_alloc (grown_refl _ _) _) _
      have HRun : Hid (RunAt W w4.heap.size (w4.heap.size + 1) m b m' b' (startP l) ys0 ((w4.alloc (.cells (cpuC (startP l)) 46)).alloc (.cells (cpuC (startP l)) 46))) := hid
        ⟨(CpuAt.new w4 (x := startP l) HL.out.len).alloc _, CpuAt.new2 w4 _ HL.out.len, HM.out.kept0 hg, HR.out.kept0 hg, Hu.out, HL.out, Int.le_refl 0, (by show (0 : Int) < 4294967296; decide), grown_trans HG0.out hg⟩
      have HAB : Hid (w4.heap.size ≠ b ∧ w4.heap.size ≠ b' ∧ w4.heap.size + 1 ≠ b ∧ w4.heap.size + 1 ≠ b' ∧ w4.heap.size ≠ m ∧ w4.heap.size ≠ m' ∧ w4.heap.size + 1 ≠ m ∧ w4.heap.size + 1 ≠ m' ∧ W.heap.size ≤ w4.heap.size) := hid (by
        have h1 := HM.out.blt; have h2 := HR.out.blt; have h3 := HM.out.mlt; have h4 := HR.out.mlt; have h5 := HG0.out.size; omega)
      clear hg
      go_upto_region 10 with (first
        | (refine wpList_load_row rfl 44 _ rfl B0 rfl _ _ _ _ HC0.out Tryd.underlying44 rfl (regs_len_info l HL.out.len) ?_)
        | (refine wpList_build_cpuR rfl _ rfl HL.out.len rfl ?_)
        | (refine wpList_store_cpu_last (y := startP l) (z := zeroP) rfl _ _ rfl rfl rfl rfl rfl HL.out.len ?_)
        | fail)
      go_upto_region 11 with (first
        | (refine wpList_load_cpu rfl _ rfl rfl HA0.out ?_)
        | (refine wpList_store_cpu_last (y := startP l) (z := zeroP) rfl _ _ rfl rfl rfl (World.size_alloc _ _).symm rfl HL.out.len ?_)
        | fail)
      clear HA0 HC0 HM HR HG0 Hu HY HYl Hux Hl0
      generalize ((w4.alloc (.cells (cpuC (startP l)) 46)).alloc (.cells (cpuC (startP l)) 46)) = w5 at HRun ⊢
      obtain ⟨B, hB⟩ : ∃ B, B = w4.heap.size + 1 := ⟨_, rfl⟩
      have HABn : Hid (w4.heap.size ≠ B ∧ W.heap.size ≤ B) := hid (by have := HAB.out; omega)
      rw [← hB] at HRun HAB ⊢
      clear hB
      generalize w4.heap.size = A at HRun HAB HABn ⊢
      go_wp2
      go_loopw [14, 15, 16, 17, 18] (fun i _ _ _ _ wr => ∃ k : Nat, k ≤ n.toNat ∧ i = .int .i64 k ∧ Hid (∃ x ys, RunAt W A B m b m' b' x ys wr)) (fun i _ _ _ _ _ => n.toNat - (intOf i).toNat)
      case atStart => exact ⟨0, Nat.zero_le _, rfl, hid ⟨_, _, HRun.out⟩⟩
      case round =>
        clear HRun
        obtain ⟨k, hk, rfl, HR0⟩ := hrel
        obtain ⟨x, ys, hR⟩ := HR0.out
        clear HR0
        have hk0 : (0 : Int) ≤ (k : Int) := by omega
        by_cases hlt : k < n.toNat
        · have hlt2 : (k : Int) < n := by omega
          obtain ⟨xl, pc, ie, eie, epc, tv, cc, cd⟩ := x
          have HLx : Hid (Regs xl) := hid hR.hl
          have p0 : 0 ≤ pc := hR.p0
          have p1 : pc < 4294967296 := hR.p1
          have HA := hid hR.ha
          have HB := hid hR.hb
          have HM := hid hR.hm
          have HR := hid hR.hr
          have Hu := hid hR.hu
          have HG0 := hid hR.hg
          clear hR
          obtain ⟨⟨y, ⟨oca, oad, oop, oa, ob, oc, oim, oln⟩, ms⟩, ho⟩ : ∃ o, onceP ys ((24 : Nat) : Int) 0 ⟨xl, pc, ie, eie, epc, tv, cc, cd⟩ user = o := ⟨_, rfl⟩
          have HO := hid ho
          have HYr : Hid (Regs y.l) := hid (once_regs (n := 24) Hu.out HLx.out ho)
          have HYg := hid (once_good (n := 24) Hu.out HLx.out p0 p1 ho)
          clear ho
          go_wp2_with (first
            | (refine wpList_load_cpu rfl _ rfl rfl HA.out ?_)
            | fail)
          refine (once_of HM.out Hu.out HLx.out p0 p1 0 user y oca oad oop oa ob oc oim oln ms HO.out).mono ?_; rintro e w9 ⟨rfl, hM, hg⟩
          replace HM := hid hM
          replace HA := hid (HA.out.kept hg (by simpa using HAB.out.1))
          replace HB := hid (HB.out.kept hg (by simpa using HAB.out.2.2.1))
          replace HR := hid (HR.out.kept hg (by simpa using HNE.out.2.2.1.symm) (by simpa using HNE.out.2.2.2.symm))
          replace HG0 := hid (grown_new' (grown_trans (grown_none HG0.out) hg) (fun k hk => by obtain rfl := Option.some.inj hk; exact HBW.out.1))
          clear hM hg
          have NC1 : Hid (A < w9.heap.size ∧ B < w9.heap.size) := hid ⟨HA.out.lt, HB.out.lt⟩
          have HN := hid (new_cs w9 35 (y := y) HYr.out.len (spC oca oad oop oa ob oc oim oln))
          go_upto_region 15 with (first
            | (refine wpList_store_cpu rfl _ _ rfl rfl rfl ((CpuAt.new (x := zeroP) w9 rfl).alloc _) HYr.out.len ?_)
            | (refine wpList_store_rw rfl 35 _ _ rfl rfl rfl ((RwAt.new2 _ _ _ _).rowOther _ _ (by omega)) (by kernel_rfl) rfl (sp_one _ _ _ _ _ _ _ _) ?_)
            | fail)
          change Code.wp _ _ _ _ (csW w9 35 y (spC oca oad oop oa ob oc oim oln))
          have HC1 := hid HN.out.1
          have HS3 := hid HN.out.2.1
          replace HA := hid (HA.out.kept0 HN.out.2.2)
          replace HB := hid (HB.out.kept0 HN.out.2.2)
          replace HM := hid (HM.out.kept0 HN.out.2.2)
          replace HR := hid (HR.out.kept0 HN.out.2.2)
          replace HG0 := hid (grown_trans HG0.out HN.out.2.2)
          clear HN
          generalize csW w9 35 y (spC oca oad oop oa ob oc oim oln) = w9b at HC1 HS3 HA HB HM HR HG0 ⊢
          obtain ⟨S3, hB2⟩ : ∃ B, B = w9.heap.size + 1 := ⟨_, rfl⟩
          have NS3 : Hid (A < S3 ∧ B < S3) := hid (by have := NC1.out; omega)
          rw [← hB2] at HS3 ⊢
          clear hB2
          generalize w9.heap.size = C1 at HC1 NC1 ⊢
          have HCb : Hid (C1 ≠ b' ∧ S3 ≠ b') := hid (by
            refine ⟨?_, ?_⟩
            · rintro rfl
              have := HC1.out.blk.symm.trans HR.out.hb
              injection this with this
              injection this with _ e
              exact absurd e (by decide)
            · rintro rfl
              have := HS3.out.blk.symm.trans HR.out.hb
              injection this with this
              injection this with _ e
              exact absurd e (by decide))
          go_wp2_with (first
            | (refine wpList_load_cpu rfl _ rfl rfl HB.out ?_)
            | fail)
          refine (ronce_of (n := 24) HR.out rfl (by decide) Hu.out HLx.out p0 p1 0 user y oca oad oop oa ob oc oim oln ms HO.out).mono ?_; rintro e wa ⟨rfl, hR, hg⟩
          replace HR := hid hR
          replace HC1 := hid (HC1.out.kept hg (by simpa using HCb.out.1))
          replace HS3 := hid (HS3.out.kept hg (by simpa using HCb.out.2))
          replace HA := hid (HA.out.kept hg (by simpa using HAB.out.2.1))
          replace HB := hid (HB.out.kept hg (by simpa using HAB.out.2.2.2.1))
          replace HM := hid (HM.out.kept hg (by simpa using HNE.out.2.1) (by simpa using HNE.out.2.2.2))
          replace HG0 := hid (grown_new' (grown_trans (grown_none HG0.out) hg) (fun k hk => by obtain rfl := Option.some.inj hk; exact HBW.out.2))
          clear hR hg HCb
          have NC2 : Hid (A < wa.heap.size ∧ B < wa.heap.size) := hid ⟨HA.out.lt, HB.out.lt⟩
          have HN := hid (new_cs wa 47 (y := y) HYr.out.len (spC oca oad oop oa ob oc oim oln))
          go_upto_region 16 with (first
            | (refine wpList_store_cpu rfl _ _ rfl rfl rfl ((CpuAt.new (x := zeroP) wa rfl).alloc _) HYr.out.len ?_)
            | (refine wpList_store_rw rfl 47 _ _ rfl rfl rfl ((RwAt.new2 _ _ _ _).rowOther _ _ (by omega)) (by kernel_rfl) rfl (sp_one _ _ _ _ _ _ _ _) ?_)
            | fail)
          change Code.wp _ _ _ _ (csW wa 47 y (spC oca oad oop oa ob oc oim oln))
          have HC2 := hid HN.out.1
          have HS4 := hid HN.out.2.1
          replace HA := hid (HA.out.kept0 HN.out.2.2)
          replace HB := hid (HB.out.kept0 HN.out.2.2)
          replace HC1 := hid (HC1.out.kept0 HN.out.2.2)
          replace HS3 := hid (HS3.out.kept0 HN.out.2.2)
          replace HM := hid (HM.out.kept0 HN.out.2.2)
          replace HR := hid (HR.out.kept0 HN.out.2.2)
          replace HG0 := hid (grown_trans HG0.out HN.out.2.2)
          clear HN
          generalize csW wa 47 y (spC oca oad oop oa ob oc oim oln) = wab at HC2 HS4 HA HB HC1 HS3 HM HR HG0 ⊢
          obtain ⟨S4, hB2⟩ : ∃ B, B = wa.heap.size + 1 := ⟨_, rfl⟩
          have NS4 : Hid (A < S4 ∧ B < S4) := hid (by have := NC2.out; omega)
          rw [← hB2] at HS4 ⊢
          clear hB2
          generalize wa.heap.size = C2 at HC2 NC2 ⊢
          go_wp2_with (first
            | (refine wpList_load_cpu rfl _ rfl rfl HC1.out ?_)
            | (refine wpList_load_cpu rfl _ rfl rfl HC2.out ?_)
            | fail)
          refine (same_cpu HYr.out _).mono ?_; rintro e wb ⟨rfl, hg⟩
          replace HA := hid (HA.out.kept0 hg)
          replace HB := hid (HB.out.kept0 hg)
          replace HC1 := hid (HC1.out.kept0 hg)
          replace HC2 := hid (HC2.out.kept0 hg)
          replace HS3 := hid (HS3.out.kept0 hg)
          replace HS4 := hid (HS4.out.kept0 hg)
          replace HM := hid (HM.out.kept0 hg)
          replace HR := hid (HR.out.kept0 hg)
          replace HG0 := hid (grown_trans HG0.out hg)
          clear hg
          go_wp2_with (first
            | (refine wpList_load_rw_wanted (by kernel_rfl) 35 _ rfl rfl HS3.out rfl Tryd.underlying35 (by kernel_rfl) ?_)
            | (refine wpList_load_rw_wanted (by kernel_rfl) 47 _ rfl rfl HS4.out rfl Tryd.underlying47 (by kernel_rfl) ?_)
            | fail)
          refine (stops7_any).mono ?_; rintro e wc ⟨rfl, hg⟩
          replace HA := hid (HA.out.kept0 hg)
          replace HB := hid (HB.out.kept0 hg)
          replace HC1 := hid (HC1.out.kept0 hg)
          replace HC2 := hid (HC2.out.kept0 hg)
          replace HS3 := hid (HS3.out.kept0 hg)
          replace HS4 := hid (HS4.out.kept0 hg)
          replace HM := hid (HM.out.kept0 hg)
          replace HR := hid (HR.out.kept0 hg)
          replace HG0 := hid (grown_trans HG0.out hg)
          clear hg
          go_wp2_with fail
          refine (same7_any HM.out HR.out).mono ?_; rintro e wd ⟨rfl, hg⟩
          replace HA := hid (HA.out.kept0 hg)
          replace HB := hid (HB.out.kept0 hg)
          replace HC1 := hid (HC1.out.kept0 hg)
          replace HC2 := hid (HC2.out.kept0 hg)
          replace HS3 := hid (HS3.out.kept0 hg)
          replace HS4 := hid (HS4.out.kept0 hg)
          replace HM := hid (HM.out.kept0 hg)
          replace HR := hid (HR.out.kept0 hg)
          replace HG0 := hid (grown_trans HG0.out hg)
          clear hg
          go_upto_region 19 with (first
            | (refine wpList_load_cpu rfl _ rfl rfl HC1.out ?_)
            | (refine wpList_store_cpu rfl _ _ rfl rfl rfl HA.out HYr.out.len ?_)
            | fail)
          replace HA := hid (HA.out.row HYr.out.len)
          replace HB := hid (HB.out.rowOther A (cpuC y) HABn.out.1.symm)
          replace HC2 := hid (HC2.out.rowOther A (cpuC y) (by have := NC2.out; omega))
          replace HS3 := hid (HS3.out.rowOther A (cpuC y) (by have := NS3.out; omega))
          replace HS4 := hid (HS4.out.rowOther A (cpuC y) (by have := NS4.out; omega))
          replace HM := hid (HM.out.kept (row_grown wd A (cpuC y)) (by simpa using HAB.out.2.2.2.2.1.symm) (by simpa using HAB.out.1.symm))
          replace HR := hid (HR.out.kept (row_grown wd A (cpuC y)) (by simpa using HAB.out.2.2.2.2.2.1.symm) (by simpa using HAB.out.2.1.symm))
          replace HG0 := hid (grown_setRow HG0.out HAB.out.2.2.2.2.2.2.2.2 (cpuC y))
          clear HC1
          generalize wd.setRow A (cpuC y) = we at HA HB HC2 HS3 HS4 HM HR HG0 ⊢
          go_upto_region 20 with (first
            | (refine wpList_load_cpu rfl _ rfl rfl HC2.out ?_)
            | (refine wpList_store_cpu rfl _ _ rfl rfl rfl HB.out HYr.out.len ?_)
            | fail)
          replace HB := hid (HB.out.row HYr.out.len)
          replace HA := hid (HA.out.rowOther B (cpuC y) HABn.out.1)
          replace HS3 := hid (HS3.out.rowOther B (cpuC y) (by have := NS3.out; omega))
          replace HS4 := hid (HS4.out.rowOther B (cpuC y) (by have := NS4.out; omega))
          replace HM := hid (HM.out.kept (row_grown we B (cpuC y)) (by simpa using HAB.out.2.2.2.2.2.2.1.symm) (by simpa using HAB.out.2.2.1.symm))
          replace HR := hid (HR.out.kept (row_grown we B (cpuC y)) (by simpa using HAB.out.2.2.2.2.2.2.2.1.symm) (by simpa using HAB.out.2.2.2.1.symm))
          replace HG0 := hid (grown_setRow HG0.out HABn.out.2 (cpuC y))
          clear HC2
          generalize we.setRow B (cpuC y) = wf at HA HB HS3 HS4 HM HR HG0 ⊢
          have k0 : wf.cell? ⟨S3, 0, none⟩ = some (.int .i64 oca) := HS3.out.cell 0 rfl
          by_cases hca : oca = 0
          · have hca2 : (oca == 0) = true := by simpa using hca
            have HF : Hid (RunAt W A B m b m' b' y ms wf) := hid ⟨HA.out, HB.out, HM.out, HR.out, HYg.out.2, HYr.out, HYg.out.1.1, HYg.out.1.2, HG0.out⟩
            clear hca HA HB HS3 HS4 HM HR HG0
            go_wp2
            go_roundw
            case rel => exact ⟨k + 1, by omega, by go_num, hid ⟨_, _, HF.out⟩⟩
            case measure => simp [intOf]; omega
          · have hca2 : (oca == 0) = false := by simpa using hca
            obtain ⟨yl, yp, yi, ye, yc, yt, yq, yd⟩ := y
            have k7 : wf.cell? ⟨S3, 7, none⟩ = some (.int .u32 oln) := HS3.out.cell 7 rfl
            have kp := HA.out.pc
            have kf := fun j => HA.out.free j
            clear hca
            go_upto_region 22 with (fail)
            clear k0 k7 kp kf
            replace HA := hid (HA.out.sPc ((yp + if oln < 1 then 1 else oln) % 4294967296))
            replace HB := hid (HB.out.other A 16 (.int .u32 ((yp + if oln < 1 then 1 else oln) % 4294967296)) HABn.out.1.symm)
            replace HS4 := hid (HS4.out.other A 16 (.int .u32 ((yp + if oln < 1 then 1 else oln) % 4294967296)) (by have := NS4.out; omega))
            replace HM := hid (HM.out.kept (grown_setCell (grown_refl wf (some A)) 16 (.int .u32 ((yp + if oln < 1 then 1 else oln) % 4294967296))) (by simpa using HAB.out.2.2.2.2.1.symm) (by simpa using HAB.out.1.symm))
            replace HR := hid (HR.out.kept (grown_setCell (grown_refl wf (some A)) 16 (.int .u32 ((yp + if oln < 1 then 1 else oln) % 4294967296))) (by simpa using HAB.out.2.2.2.2.2.1.symm) (by simpa using HAB.out.2.1.symm))
            replace HG0 := hid (grown_setN HG0.out HAB.out.2.2.2.2.2.2.2.2 16 (.int .u32 ((yp + if oln < 1 then 1 else oln) % 4294967296)))
            clear HS3
            generalize wf.setCell ⟨A, 16, none⟩ (.int .u32 ((yp + if oln < 1 then 1 else oln) % 4294967296)) = wg at HA HB HS4 HM HR HG0 ⊢
            have k7 : wg.cell? ⟨S4, 7, none⟩ = some (.int .u32 oln) := HS4.out.cell 7 rfl
            have kp := HB.out.pc
            have kf := fun j => HB.out.free j
            replace HB := hid (HB.out.sPc ((yp + if oln < 1 then 1 else oln) % 4294967296))
            replace HA := hid (HA.out.other B 16 (.int .u32 ((yp + if oln < 1 then 1 else oln) % 4294967296)) HABn.out.1)
            replace HM := hid (HM.out.kept (grown_setCell (grown_refl wg (some B)) 16 (.int .u32 ((yp + if oln < 1 then 1 else oln) % 4294967296))) (by simpa using HAB.out.2.2.2.2.2.2.1.symm) (by simpa using HAB.out.2.2.1.symm))
            replace HR := hid (HR.out.kept (grown_setCell (grown_refl wg (some B)) 16 (.int .u32 ((yp + if oln < 1 then 1 else oln) % 4294967296))) (by simpa using HAB.out.2.2.2.2.2.2.2.1.symm) (by simpa using HAB.out.2.2.2.1.symm))
            replace HG0 := hid (grown_setN HG0.out HABn.out.2 16 (.int .u32 ((yp + if oln < 1 then 1 else oln) % 4294967296)))
            have HYp : Hid (0 ≤ (yp + if oln < 1 then 1 else oln) % 4294967296 ∧ (yp + if oln < 1 then 1 else oln) % 4294967296 < 4294967296) := hid (by constructor <;> omega)
            have HF : Hid (∃ x ys, RunAt W A B m b m' b' x ys (wg.setCell ⟨B, 16, none⟩ (.int .u32 ((yp + if oln < 1 then 1 else oln) % 4294967296)))) := hid ⟨⟨yl, (yp + if oln < 1 then 1 else oln) % 4294967296, yi, ye, yc, yt, yq, yd⟩, ms, HA.out, HB.out, HM.out, HR.out, HYg.out.2, HYr.out, HYp.out.1, HYp.out.2, HG0.out⟩
            clear HA HB HS4 HM HR HG0
            go_wp2
            go_roundw
            case rel => exact ⟨k + 1, by omega, by go_num, HF⟩
            case measure => simp [intOf]; omega
        · have hge : n ≤ (k : Int) := by omega
          have HF := hid hR.hg
          clear hR
          go_wp2
          go_ret
          exact ⟨rfl, grown_below HF.out⟩
    · have hn2 : n > 60 := by omega
      go_enter Tryd.func5, Tryd.ntmps5
      go_wp2_with fail
      refine (first7_any _).mono ?_; rintro e w1 ⟨rfl, hg⟩
      have HG1 := hid (grown_trans HG0.out hg); clear hg
      go_wp2
      all_goals
        go_ret
        exact ⟨rfl, grown_below HG1.out⟩
  · have hl2 : (ls.length : Int) > 120 := by omega
    go_enter Tryd.func5, Tryd.ntmps5
    go_wp2_with fail
    refine (first7_any _).mono ?_; rintro e w1 ⟨rfl, hg⟩
    have HG1 := hid (grown_trans HG0.out hg); clear hg
    go_wp2
    all_goals
      go_ret
      exact ⟨rfl, grown_below HG1.out⟩
end Go.Proofs.YtaecbekobpgkoaaDoor
