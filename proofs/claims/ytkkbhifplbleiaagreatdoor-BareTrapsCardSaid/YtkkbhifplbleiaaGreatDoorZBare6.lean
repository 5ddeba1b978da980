/- A bare machine's end, traps, interrupts: contracts. -/
import Derived.Test.YtkkbhifplbleiaaGreatDoorZGBareA
import Derived.Test.YtkkbhifplbleiaaGreatDoorZGCpu
namespace Go.Proofs.YtkkbhifplbleiaaGreatDoor
open Go.RowKit
section
variable {w : World} {B p m bm d n cap : Nat} {q : Int} {M : Mc} {vs vw : Value}
set_option maxRecDepth 100000 in
set_option maxHeartbeats 2000000 in
theorem bend_any (h : MachAt w B p m bm d n cap q M vs vw) (hB : B ≤ w.heap.size) (hsn : M.d.sn.length ≤ 1000000) (kind a : Int) :
    Calls Tryz.prog 102 #[.pointer (some ⟨p, 0, none⟩), .int .i64 kind, .int .u32 a] w (Ran w B p m bm d n cap q vs vw ⟨M.xs, M.c, ⟨M.d.Q, M.d.S, M.d.fr, M.d.af, M.d.sn ++ endS kind a⟩, M.now, true, M.ws⟩) := by
  have hov := h.g.tail 3 (v := .bool M.ov) rfl
  have hf := h.g.free 27
  have HT : Hid (MTurned w B p m bm d n cap q vs vw ⟨M.xs, M.c, M.d, M.now, true, M.ws⟩ (w.setCell ⟨p, 27, none⟩ (.bool true)) vs vw) := hid (h.ownT (now' := M.now) (ov' := true) (h.g.sTl 3 (.bool true)) (lv_cell w p 27 _))
  have hdp := HT.out.at_.g.tail 0 (v := .pointer (some ⟨d, 0, none⟩)) rfl
  have HB1 := hid (HT.out.base hB)
  have Hsn := hid hsn
  clear h hB hsn
  go_enter Tryz.func102, Tryz.ntmps102
  go_upto_region 1 with (fail)
  generalize w.setCell ⟨p, 27, none⟩ (.bool true) = w1 at HT hdp HB1 ⊢
  go_wp2_with fail
  refine (end_any HT.out.at_.dev kind a Hsn.out HB1.out).mono ?_; rintro e w2 ⟨rfl, vs', ht⟩
  have HT2 := hid (HT.out.at_.devT ht)
  clear ht hdp
  go_wp2
  go_end0
  exact ⟨rfl, _, _, HT.out.trans HT2.out⟩
theorem take_no (ca ad : Int) (h : M.c.tv = 0) : takeP M ca ad = ⟨M.xs, M.c, seeD M.d (4, ca, 0), M.now, true, M.ws⟩ := by unfold takeP; rw [if_pos h]
theorem take_yes (ca ad : Int) (h : M.c.tv ≠ 0) : takeP M ca ad = ⟨M.xs, enterP M.c ca ad, M.d, M.now, M.ov, M.ws⟩ := by unfold takeP; rw [if_neg h]
set_option maxRecDepth 100000 in
set_option maxHeartbeats 2000000 in
theorem btake_any (h : MachAt w B p m bm d n cap q M vs vw) (hB : B ≤ w.heap.size) (hr : Regs M.c.l) (hsn : M.d.sn.length ≤ 1000000) (ca ad : Int) (c0 : 0 ≤ ca) (c1 : ca < 4294967296) :
    Calls Tryz.prog 71 #[.pointer (some ⟨p, 0, none⟩), .int .i64 ca, .int .u32 ad] w (Ran w B p m bm d n cap q vs vw (takeP M ca ad)) := by
  obtain ⟨y, hy⟩ : ∃ y, enterP M.c ca ad = y := ⟨_, rfl⟩
  obtain ⟨r, hre⟩ : ∃ r, (!(M.c.tv == 0)) = r := ⟨_, rfl⟩
  have HY := hid hy
  have HR := hid hre
  have Hl := hid hr
  have Hyl : Hid (y.l.length = 16) := hid (by rw [← hy, enterP_l]; exact hr.len)
  have H := hid h
  have HB := hid hB
  have Hsn := hid hsn
  clear hy hre hr h hB hsn
  go_enter Tryz.func71, Tryz.ntmps71
  go_wp2_with (first
    | (refine wpList_load_gcpu rfl _ rfl rfl H.out.g ?_)
    | fail)
  refine (enter_any Hl.out ca ad _ y HY.out r HR.out).mono ?_; rintro e w1 ⟨rfl, hg⟩
  have H1 := hid (H.out.kept0 hg)
  have HG := hid hg
  have HB1 : Hid (B ≤ w1.heap.size) := hid (Nat.le_trans HB.out hg.size)
  clear hg
  cases r
  · have htv : M.c.tv = 0 := by simpa using HR.out
    have He := hid (take_no (M := M) ca ad htv)
    have Hc : Hid (y = M.c) := hid (by rw [← HY.out]; unfold enterP; rw [if_pos htv])
    clear htv
    go_upto_region 2 with (first
      | (refine wpList_store_gcpu rfl _ _ rfl rfl rfl H1.out.g Hyl.out ?_; intro w2 hG hL; have HT := hid (H1.out.ownT (now' := M.now) (ov' := M.ov) hG hL); clear hG hL)
      | fail)
    go_wp2_with fail
    refine (bend_any HT.out.at_ (HT.out.base HB1.out) Hsn.out 4 ca).mono ?_; rintro e w3 ⟨rfl, vs', vw', ht⟩
    have HT2 := hid ht
    clear ht
    go_wp2
    go_end0
    rw [He.out]
    have := HT2.out
    rw [Hc.out] at this
    exact ⟨rfl, _, _, (MTurned.none H.out HG.out).trans (HT.out.trans this)⟩
  · have htv : M.c.tv ≠ 0 := by simpa using HR.out
    have He := hid (take_yes (M := M) ca ad htv)
    clear htv
    go_upto_region 2 with (first
      | (refine wpList_store_gcpu rfl _ _ rfl rfl rfl H1.out.g Hyl.out ?_; intro w2 hG hL; have HT := hid (H1.out.ownT (now' := M.now) (ov' := M.ov) hG hL); clear hG hL)
      | fail)
    go_wp2
    go_end0
    rw [He.out, HY.out]
    exact ⟨rfl, _, _, (MTurned.none H.out HG.out).trans HT.out⟩
theorem wait_cases (M : Mc) : waitM M = 0 ∨ waitM M = 2 ∨ waitM M = 3 := by
  unfold waitM waitV
  repeat' split
  all_goals first | exact .inl rfl | exact .inr (.inl rfl) | exact .inr (.inr rfl) | (rename_i h; cases h)
theorem int_none (h : waitM M = 0) : intP M = M := by unfold intP; rw [if_pos h]
theorem int_rang (h : waitM M = 2) : intP M = takeP (rangM M) 2 0 := by unfold intP; rw [if_neg (by rw [h]; decide), if_pos h, h]
theorem int_key (h : waitM M = 3) : intP M = takeP M 3 0 := by unfold intP; rw [if_neg (by rw [h]; decide), if_neg (by rw [h]; decide), h]
set_option maxRecDepth 100000 in
set_option maxHeartbeats 2000000 in
theorem bint_any (h : MachAt w B p m bm d n cap q M vs vw) (hB : B ≤ w.heap.size) (g : Good n M) (hn : M.now ≤ 1000000) :
    Calls Tryz.prog 41 #[.pointer (some ⟨p, 0, none⟩)] w (Ran w B p m bm d n cap q vs vw (intP M)) := by
  have H := hid h
  have HB := hid hB
  have Hl := hid g.cpu.regs
  have Hsn : Hid (M.d.sn.length ≤ 1000000) := hid (by have := g.seen; omega)
  have n0 := g.now0
  have f0 := g.f0
  have f1 := g.f1
  have a0 := g.a0
  have a1 := g.a1
  obtain ⟨V, hV⟩ : ∃ V, waitM M = V := ⟨_, rfl⟩
  obtain ⟨u, hu⟩ : ∃ u, dueB M.d.fr M.d.af M.now = u := ⟨_, rfl⟩
  obtain ⟨L, hL⟩ : ∃ L, M.d.Q.length = L := ⟨_, rfl⟩
  have Hu := hid hu
  have HLq := hid hL
  have HV := hid hV
  have hV2 : waitV M.c.ie u L false = V := by rw [← hV]; unfold waitM; rw [hu, hL]
  have HV2 := hid hV2
  have hc := wait_cases M
  rw [hV] at hc
  clear hV hu hL hV2 h hB g
  go_enter Tryz.func41, Tryz.ntmps41
  go_upto_region 0 with (fail)
  refine region_still 12 (by kernel_rfl) (by kernel_rfl) ?_; intro wd hg
  have H1 := hid (H.out.kept0 hg)
  have HG := hid hg
  have hdp := H1.out.g.tail 0 (v := .pointer (some ⟨d, 0, none⟩)) rfl
  have hnw := H1.out.g.tail 2 (v := .int .i64 M.now) rfl
  clear hg
  simp only [List.take_succ_cons, List.take_zero, List.drop_succ_cons, List.drop_zero]
  repeat (first | still_step | (refine wpStill_load_gcpu rfl _ rfl rfl H1.out.g ?_))
  refine wpStill_nil ?_
  go_wp2_with fail
  refine (waits_any H1.out.dev Hl.out.len M.now (by omega) (by omega) a0 a1 (by omega) (by omega) u Hu.out L HLq.out false V HV2.out).mono ?_; rintro e w1 ⟨rfl, hg⟩
  have H2 := hid (H1.out.kept0 hg)
  have HG2 := hid (grown_trans HG.out hg)
  have HB2 : Hid (B ≤ w1.heap.size) := hid (Nat.le_trans HB.out HG2.out.size)
  clear hg hdp hnw
  rcases hc with rfl | rfl | rfl
  · have He := hid (int_none HV.out)
    go_wp2
    go_end0
    rw [He.out]
    exact ⟨rfl, _, _, MTurned.none H.out HG2.out⟩
  · have He := hid (int_rang HV.out)
    have hdp := H2.out.g.tail 0 (v := .pointer (some ⟨d, 0, none⟩)) rfl
    go_wp2_with fail
    refine (rang_any H2.out.dev).mono ?_; rintro e w2 ⟨rfl, ht⟩
    have HT := hid (H2.out.devT ht)
    clear ht hdp
    go_wp2_with fail
    refine (btake_any HT.out.at_ (HT.out.base HB2.out) Hl.out Hsn.out 2 0 (by decide) (by decide)).mono ?_; rintro e w3 ⟨rfl, vs', vw', ht⟩
    have HT2 := hid ht
    clear ht
    go_wp2
    go_end0
    rw [He.out]
    exact ⟨rfl, _, _, (MTurned.none H.out HG2.out).trans (HT.out.trans HT2.out)⟩
  · have He := hid (int_key HV.out)
    go_wp2_with fail
    refine (btake_any H2.out HB2.out Hl.out Hsn.out 3 0 (by decide) (by decide)).mono ?_; rintro e w3 ⟨rfl, vs', vw', ht⟩
    have HT2 := hid ht
    clear ht
    go_wp2
    go_end0
    rw [He.out]
    exact ⟨rfl, _, _, (MTurned.none H.out HG2.out).trans HT2.out⟩
end
end Go.Proofs.YtkkbhifplbleiaaGreatDoor
