/- The document's objects (facaderef9): relocations of code: contract. (Made by gorv4.py.) -/
import Derived.Test.YtgahbpfmiibpeaaGreatDoorZRv3
namespace Go.Proofs.YtgahbpfmiibpeaaGreatDoor
open Go.RowKit
theorem codeF_bad {x : PO} {k : Nat} (h : ¬ (rangeR x x.Q k x.C.length ∧ ((rlN x.Q k).k = 1 ∨ (rlN x.Q k).k = 2))) : codeF x k = some 2 := by
  unfold codeF
  rw [if_pos]
  cases hi : inB x x.Q k x.C.length
  · exact .inl rfl
  · refine .inr ⟨fun e => h ⟨(inB_iff _ _ _ _).1 hi, .inl e⟩, fun e => h ⟨(inB_iff _ _ _ _).1 hi, .inr e⟩⟩
theorem codeF_good {x : PO} {k : Nat} (h : rangeR x x.Q k x.C.length ∧ ((rlN x.Q k).k = 1 ∨ (rlN x.Q k).k = 2)) : codeF x k = if repB x (rlN x.Q k) = false ∨ outB x (rlN x.Q k) = true then some 1 else none := by
  unfold codeF
  rw [if_neg]
  rw [(inB_iff _ _ _ _).2 h.1]
  rintro (e | e)
  · cases e
  · exact h.2.elim e.1 e.2
def bad1B (d0 tI m2 fr a14 a15 : Bool) : Bool := (d0 && !tI) || !(m2 || fr || a14 || a15) || (tI && fr)
def bad2B (d0 tI sh : Bool) : Bool := (d0 && !tI) || !sh || tI
theorem bad1_is {x : PO} {y : Rl} {d0 tI m2 fr a14 a15 : Bool} {ah : Int} (hk : y.k = 1) (hd : (y.d != 0) = d0) (ht : toB x y = tI) (hm : decide (mapN x y.a.toNat = 2) = m2) (ha : aheadR x y.a.toNat = ah) (hf : farB ah = fr) (h4 : (ah == 14) = a14) (h5 : (ah == 15) = a15) : (if rrepB x y = false ∨ outB x y = true then some 1 else none) = if bad1B d0 tI m2 fr a14 a15 = true then some 1 else (none : Option Nat) := by
  have e4 : decide (ah = 14) = a14 := by rw [← h4]; rfl
  have e5 : decide (ah = 15) = a15 := by rw [← h5]; rfl
  have ed : decide (y.d ≠ 0) = d0 := by
    rw [← hd]
    by_cases h : y.d = 0
    · rw [h]; rfl
    · have h2 : (y.d != 0) = true := by simpa using h
      rw [h2]; simpa using h
  unfold rrepB outB
  rw [if_neg (show ¬ y.k = 2 by omega), hm, ha, hf, e4, e5, ht, ed]
  clear hk hd ht hm ha hf h4 h5 e4 e5 ed
  revert d0 tI m2 fr a14 a15
  decide
theorem bad2_is {x : PO} {y : Rl} {d0 tI sh : Bool} (hk : y.k = 2) (hd : (y.d != 0) = d0) (ht : toB x y = tI) (hs : (decide (mapN x y.a.toNat = 1) && brB (wOp x y.a.toNat)) = sh) : (if rrepB x y = false ∨ outB x y = true then some 1 else none) = if bad2B d0 tI sh = true then some 1 else (none : Option Nat) := by
  have ed : decide (y.d ≠ 0) = d0 := by
    rw [← hd]
    by_cases h : y.d = 0
    · rw [h]; rfl
    · have h2 : (y.d != 0) = true := by simpa using h
      rw [h2]; simpa using h
  unfold rrepB outB
  rw [if_pos hk, hs, ht, ed]
  clear hk hd ht hs ed
  revert d0 tI sh
  decide
set_option maxRecDepth 100000 in
set_option maxHeartbeats 4000000 in
theorem rshort_any {W : World} {V : OV} {x : PO} {k : Nat} (h : OAt W V x) (hf : OFit x) (hl : x.M.length = x.C.length) (hk : k < x.C.length) (hn : x.C.length ≤ 1000000) (z : Bool) (hz : (decide (mapN x k = 1) && brB (wOp x k)) = z) :
    Calls Tryz.prog 69 #[V.agg, .int .i64 k] W fun e w' => e = .returned (.bool z) ∧ W.grownBy w' none := by
  obtain ⟨d, c, m, r, q, s⟩ := V
  obtain ⟨bc, oc, cc, hcv, hbc, hcc⟩ := h.c.at_ (by omega)
  obtain ⟨bm, om, mc, hmv, hbm, hcm⟩ := h.m.at_ (by rw [hl]; omega)
  simp only at hcv hmv
  rw [hl] at hmv
  subst hcv; subst hmv
  obtain ⟨y, hy⟩ : ∃ y, x.C[k]? = some y := ⟨_, List.getElem?_eq_getElem hk⟩
  obtain ⟨mk, hm⟩ : ∃ mk, x.M[k]? = some mk := ⟨_, List.getElem?_eq_getElem (by rw [hl]; exact hk)⟩
  have hop : wOp x k = y / 16777216 := by unfold wOp; rw [List.getD_eq_getElem?_getD, hy]; rfl
  have hmp : mapN x k = mk := by unfold mapN; rw [List.getD_eq_getElem?_getD, hm]; rfl
  rw [hop, hmp] at hz
  have hyr := hf.c y (List.mem_of_getElem? hy)
  have y0 := hyr.1
  have y1 := hyr.2
  obtain ⟨n, hne⟩ : ∃ n, x.C.length = n := ⟨_, rfl⟩
  rw [hne] at hk hn ⊢
  have HB0 := hid (RwAt.new W 27 #[d, .slice (some ⟨bc, oc, none⟩) n cc, .slice (some ⟨bm, om, none⟩) n mc, r, q, s])
  have HG0 := hid (World.grownBy_alloc W (.cells #[d, .slice (some ⟨bc, oc, none⟩) n cc, .slice (some ⟨bm, om, none⟩) n mc, r, q, s] 27) none)
  have HC := hid (And.intro hbc (hcc k y hy))
  have HM := hid (And.intro hbm (hcm k mk hm))
  have k0 : (0 : Int) ≤ (k : Int) := by omega
  have kn : (k : Int) < (n : Int) := by omega
  have n1 : (n : Int) ≤ 1000000 := by omega
  obtain ⟨q0, hq⟩ : ∃ q0, y / 16777216 = q0 := ⟨_, rfl⟩
  have hqe := hq
  rw [hq] at hz
  have Hz := hid hz
  clear h hf hl hk hn hcc hcm hbc hbm hy hm hop hmp hyr hne hz hqe
  go_enter Tryz.func69, Tryz.ntmps69
  go_upto_region 1 with (fail)
  obtain ⟨G, hG⟩ : ∃ G, W.heap.size = G := ⟨_, rfl⟩
  rw [hG] at HB0 ⊢
  clear hG
  generalize W.alloc (.cells #[d, .slice (some ⟨bc, oc, none⟩) n cc, .slice (some ⟨bm, om, none⟩) n mc, r, q, s] 27) = w1 at HB0 HG0 ⊢
  have e1 := HB0.out.cell 1 (v := .slice (some ⟨bc, oc, none⟩) n cc) rfl
  have e2 := HB0.out.cell 2 (v := .slice (some ⟨bm, om, none⟩) n mc) rfl
  have ec := (grown_cell HG0.out HC.out.1 (by simp)).trans HC.out.2
  have em := (grown_cell HG0.out HM.out.1 (by simp)).trans HM.out.2
  by_cases h1 : mk = 1
  · subst h1
    by_cases hb : q0 = 16 ∨ q0 = 17 ∨ q0 = 18
    · have hzt : z = true := by rw [← Hz.out]; unfold brB; simp [hb]
      subst hzt
      rcases hb with rfl | rfl | rfl
      all_goals
        go_wp2
        go_ret
        exact ⟨rfl, HG0.out⟩
    · have hzf : z = false := by rw [← Hz.out]; unfold brB; simp [hb]
      subst hzf
      have b1 : (q0 == 16) = false := by simp only [beq_eq_false_iff_ne]; omega
      have b2 : (q0 == 17) = false := by simp only [beq_eq_false_iff_ne]; omega
      have b3 : (q0 == 18) = false := by simp only [beq_eq_false_iff_ne]; omega
      clear hb
      go_wp2
      go_ret
      exact ⟨rfl, HG0.out⟩
  · have hzf : z = false := by rw [← Hz.out]; simp [h1]
    subst hzf
    have h1b : (mk == 1) = false := by simpa using h1
    clear h1
    go_wp2
    go_ret
    exact ⟨rfl, HG0.out⟩
set_option maxRecDepth 100000 in
set_option maxHeartbeats 16000000 in
theorem rcrels_any {W : World} {V : OV} {x : PO} (h : OAt W V x) (hf : OFit x) (hl : x.M.length = x.C.length) (hw : ∀ k, k < x.C.length → wordF x k = none) (hr : x.Q.length ≤ 1000000) (hd : x.C.length ≤ 1000000) (hs : x.S.length ≤ 1000000) :
    Calls Tryz.prog 68 #[V.agg] W fun e w' => e = .returned (flV (scanV (codeF x) x.Q.length)) ∧ W.grownBy w' none := by
  obtain ⟨d, c, m, r, q, s⟩ := V
  obtain ⟨dp, dc, hdv⟩ := h.c.len'
  obtain ⟨mp, mc, hmv⟩ := h.m.len'
  obtain ⟨rp, rc, hrv⟩ := h.q.len
  obtain ⟨sp, sc, hsv⟩ := h.s.len
  simp only at hdv hrv hsv hmv
  rw [hl] at hmv
  subst hdv; subst hrv; subst hsv; subst hmv
  have HF := hid hf
  have Hl := hid hl
  have Hw := hid hw
  clear hf hl hw
  obtain ⟨nD, hnD⟩ : ∃ n, x.C.length = n := ⟨_, rfl⟩
  obtain ⟨nS, hnS⟩ : ∃ n, x.S.length = n := ⟨_, rfl⟩
  obtain ⟨N, hN⟩ : ∃ n, x.Q.length = n := ⟨_, rfl⟩
  rw [hnD, hnS, hN] at h ⊢
  rw [hN] at hr
  rw [hnD] at hd
  rw [hnS] at hs
  have HnD := hid hnD
  have HnS := hid hnS
  have HN := hid hN
  have HO := hid h
  have HB0 := hid (RwAt.new W 27 #[d, .slice dp nD dc, .slice mp nD mc, r, .slice rp N rc, .slice sp nS sc])
  have n0 : (0 : Int) ≤ (N : Int) := by omega
  have n1 : (N : Int) ≤ 1000000 := by omega
  have d0 : (0 : Int) ≤ (nD : Int) := by omega
  have d1 : (nD : Int) ≤ 1000000 := by omega
  have s0 : (0 : Int) ≤ (nS : Int) := by omega
  have s1 : (nS : Int) ≤ 1000000 := by omega
  clear h hnD hnS hN hr hd hs
  have Hz := zero_flt3
  go_enter Tryz.func68, Tryz.ntmps68
  go_upto_region 1 with (fail)
  clear Hz
  have HRC : Hid (RCw W ((W.alloc (.cells #[d, .slice dp nD dc, .slice mp nD mc, r, .slice rp N rc, .slice sp nS sc] 27)).alloc (.cells #[.int .i64 0, .bool false, .int .i64 0] 31)) W.heap.size (W.heap.size + 1) ⟨d, .slice dp nD dc, .slice mp nD mc, r, .slice rp N rc, .slice sp nS sc⟩ (codeF x) 0) := hid ⟨HB0.out.alloc _, RwAt.new2 _ _ _ _, grown_trans (World.grownBy_alloc _ _ none) (World.grownBy_alloc _ _ none), fun j hj => absurd hj (by omega)⟩
  obtain ⟨R, hR⟩ : ∃ R, W.heap.size + 1 = R := ⟨_, rfl⟩
  have HRb : Hid (W.heap.size ≤ R) := hid (by omega)
  obtain ⟨G, hG⟩ : ∃ G, W.heap.size = G := ⟨_, rfl⟩
  rw [hR, hG] at HRC
  clear HB0
  generalize (W.alloc (.cells #[d, .slice dp nD dc, .slice mp nD mc, r, .slice rp N rc, .slice sp nS sc] 27)).alloc (.cells #[.int .i64 0, .bool false, .int .i64 0] 31) = w1 at HRC ⊢
  try rw [hR]
  try rw [hG]
  clear hR hG
  go_wp2
  go_loopw [3, 4] (fun l i wr => ∃ k : Nat, k ≤ N ∧ i = .int .i64 k ∧ l = .int .i64 (lastR x.Q k) ∧ Hid (RCw W wr G R ⟨d, .slice dp nD dc, .slice mp nD mc, r, .slice rp N rc, .slice sp nS sc⟩ (codeF x) k)) (fun _ i _ => N - (intOf i).toNat)
  case atStart => exact ⟨0, Nat.zero_le _, rfl, rfl, HRC⟩
  case round =>
    obtain ⟨k, hk, rfl, rfl, HR⟩ := hrel
    have k0 : (0 : Int) ≤ (k : Int) := by omega
    obtain ⟨la, hla⟩ : ∃ la, lastR x.Q k = la := ⟨_, rfl⟩
    have Hla := hid hla
    rw [hla]
    clear hla
    have e3 := HR.out.box.cell 4 (v := .slice rp N rc) rfl
    by_cases hlt : k < N
    · have kn : (k : Int) < (N : Int) := by omega
      have Hlt := hid hlt
      obtain ⟨⟨ya, yk, ys, yd⟩, hy⟩ : ∃ y, x.Q[k]? = some y := ⟨_, List.getElem?_eq_getElem (by rw [HN.out]; exact hlt)⟩
      have Hy : Hid (rlN x.Q k = ⟨ya, yk, ys, yd⟩) := hid (by unfold rlN; rw [List.getD_eq_getElem?_getD, hy]; rfl)
      obtain ⟨b, o, c', hv, -, hb, hc⟩ := (HO.out.kept0 HR.out.g).q.at_ (by rw [HN.out]; omega)
      simp only [Value.slice.injEq] at hv
      obtain ⟨rfl, -, -⟩ := hv
      have c0 : wr.cell? ⟨b, o + k * 4, none⟩ = some (.int .i64 ya) := hc (k * 4 + 0) _ (by rw [rlsC_get x.Q k 0 _ hy (by decide)]; rfl)
      have c1 : wr.cell? ⟨b, o + k * 4 + 1, none⟩ = some (.int .i64 yk) := hc (k * 4 + 1) _ (by rw [rlsC_get x.Q k 1 _ hy (by decide)]; rfl)
      have c2 : wr.cell? ⟨b, o + k * 4 + 2, none⟩ = some (.int .i64 ys) := hc (k * 4 + 2) _ (by rw [rlsC_get x.Q k 2 _ hy (by decide)]; rfl)
      have c3 : wr.cell? ⟨b, o + k * 4 + 3, none⟩ = some (.int .i64 yd) := hc (k * 4 + 3) _ (by rw [rlsC_get x.Q k 3 _ hy (by decide)]; rfl)
      have al := World.grownBy_alloc wr (.cells #[.int .i64 ya, .int .i64 yk, .int .i64 ys, .int .i64 yd] 90) none
      have HR2 := hid (HR.out.kept0 al)
      have HX := hid (RwAt.new wr 90 #[.int .i64 ya, .int .i64 yk, .int .i64 ys, .int .i64 yd])
      clear hb hc hy hlt al HR
      have Hzr := zero_rel3
      go_upto_region 6 with (fail)
      clear c0 c1 c2 c3 e3 Hzr
      obtain ⟨X, hX⟩ : ∃ X, wr.heap.size = X := ⟨_, rfl⟩
      rw [hX] at HX ⊢
      clear hX
      generalize wr.alloc (.cells #[.int .i64 ya, .int .i64 yk, .int .i64 ys, .int .i64 yd] 90) = w2 at HR2 HX ⊢
      have x0 := HX.out.cell 0 (v := .int .i64 ya) rfl
      have x1 := HX.out.cell 1 (v := .int .i64 yk) rfl
      have x2 := HX.out.cell 2 (v := .int .i64 ys) rfl
      have x3 := HX.out.cell 3 (v := .int .i64 yd) rfl
      have f0 := HR2.out.box.cell 1 (v := .slice dp nD dc) rfl
      have f5 := HR2.out.box.cell 5 (v := .slice sp nS sc) rfl
      by_cases h0 : ya < 0
      · have Hb : Hid (codeF x k = some 2) := hid (codeF_bad (fun h => by
          have h1 := h.1
          have h2 := h.2
          unfold rangeR at h1
          rw [Hy.out, Hla.out, HnD.out, HnS.out] at h1
          rw [Hy.out] at h2
          simp only at h1 h2
          omega))
        go_wp2_with fail
        refine (placed_any 103 k (by omega) _).mono ?_
        rintro e w8 ⟨rfl, hg⟩
        have H8 := hid (HR2.out.kept0 hg)
        have E := hid (H8.out.res.row #[.int .i64 103, .bool true, .int .i64 k])
        have EG := hid (grown_setRow H8.out.g HRb.out #[.int .i64 103, .bool true, .int .i64 k])
        clear hg
        go_wp2_with (first
          | (refine wpList_store_rw rfl 31 _ _ rfl rfl rfl H8.out.res info_flt9 rfl (by simp [Value.oneCell']) ?_)
          | fail)
        refine bodyPost_ret (results_cell_row Tryz.results68 _ _ R _ _ _ _ rfl E.out.blk Tryz.underlying31 rfl info_flt9) rfl ?_
        refine ⟨?_, EG.out⟩
        rw [scanV_some Hb.out H8.out.no Hlt.out]
        rfl
      · by_cases h1 : ya ≥ (nD : Int)
        · have Hb : Hid (codeF x k = some 2) := hid (codeF_bad (fun h => by
            have h1 := h.1
            have h2 := h.2
            unfold rangeR at h1
            rw [Hy.out, Hla.out, HnD.out, HnS.out] at h1
            rw [Hy.out] at h2
            simp only at h1 h2
            omega))
          go_wp2_with fail
          refine (placed_any 103 k (by omega) _).mono ?_
          rintro e w8 ⟨rfl, hg⟩
          have H8 := hid (HR2.out.kept0 hg)
          have E := hid (H8.out.res.row #[.int .i64 103, .bool true, .int .i64 k])
          have EG := hid (grown_setRow H8.out.g HRb.out #[.int .i64 103, .bool true, .int .i64 k])
          clear hg
          go_wp2_with (first
            | (refine wpList_store_rw rfl 31 _ _ rfl rfl rfl H8.out.res info_flt9 rfl (by simp [Value.oneCell']) ?_)
            | fail)
          refine bodyPost_ret (results_cell_row Tryz.results68 _ _ R _ _ _ _ rfl E.out.blk Tryz.underlying31 rfl info_flt9) rfl ?_
          refine ⟨?_, EG.out⟩
          rw [scanV_some Hb.out H8.out.no Hlt.out]
          rfl
        · by_cases h2 : ya ≤ la
          · have Hb : Hid (codeF x k = some 2) := hid (codeF_bad (fun h => by
              have h1 := h.1
              have h2 := h.2
              unfold rangeR at h1
              rw [Hy.out, Hla.out, HnD.out, HnS.out] at h1
              rw [Hy.out] at h2
              simp only at h1 h2
              omega))
            go_wp2_with fail
            refine (placed_any 103 k (by omega) _).mono ?_
            rintro e w8 ⟨rfl, hg⟩
            have H8 := hid (HR2.out.kept0 hg)
            have E := hid (H8.out.res.row #[.int .i64 103, .bool true, .int .i64 k])
            have EG := hid (grown_setRow H8.out.g HRb.out #[.int .i64 103, .bool true, .int .i64 k])
            clear hg
            go_wp2_with (first
              | (refine wpList_store_rw rfl 31 _ _ rfl rfl rfl H8.out.res info_flt9 rfl (by simp [Value.oneCell']) ?_)
              | fail)
            refine bodyPost_ret (results_cell_row Tryz.results68 _ _ R _ _ _ _ rfl E.out.blk Tryz.underlying31 rfl info_flt9) rfl ?_
            refine ⟨?_, EG.out⟩
            rw [scanV_some Hb.out H8.out.no Hlt.out]
            rfl
          · by_cases h3 : yk ≠ 1 ∧ yk ≠ 2
            · have b31 : (yk != 1) = true := by simpa using h3.1
              have b32 : (yk != 2) = true := by simpa using h3.2
              have Hb : Hid (codeF x k = some 2) := hid (codeF_bad (fun h => by
                have h1 := h.1
                have h2 := h.2
                unfold rangeR at h1
                rw [Hy.out, Hla.out, HnD.out, HnS.out] at h1
                rw [Hy.out] at h2
                simp only at h1 h2
                omega))
              go_wp2_with fail
              refine (placed_any 103 k (by omega) _).mono ?_
              rintro e w8 ⟨rfl, hg⟩
              have H8 := hid (HR2.out.kept0 hg)
              have E := hid (H8.out.res.row #[.int .i64 103, .bool true, .int .i64 k])
              have EG := hid (grown_setRow H8.out.g HRb.out #[.int .i64 103, .bool true, .int .i64 k])
              clear hg
              go_wp2_with (first
                | (refine wpList_store_rw rfl 31 _ _ rfl rfl rfl H8.out.res info_flt9 rfl (by simp [Value.oneCell']) ?_)
                | fail)
              refine bodyPost_ret (results_cell_row Tryz.results68 _ _ R _ _ _ _ rfl E.out.blk Tryz.underlying31 rfl info_flt9) rfl ?_
              refine ⟨?_, EG.out⟩
              rw [scanV_some Hb.out H8.out.no Hlt.out]
              rfl
            · rcases (show yk = 1 ∨ yk = 2 by omega) with rfl | rfl
              · clear h3
                by_cases h4 : ys < 0
                · have Hb : Hid (codeF x k = some 2) := hid (codeF_bad (fun h => by
                    have h1 := h.1
                    have h2 := h.2
                    unfold rangeR at h1
                    rw [Hy.out, Hla.out, HnD.out, HnS.out] at h1
                    rw [Hy.out] at h2
                    simp only at h1 h2
                    omega))
                  go_wp2_with fail
                  refine (placed_any 103 k (by omega) _).mono ?_
                  rintro e w8 ⟨rfl, hg⟩
                  have H8 := hid (HR2.out.kept0 hg)
                  have E := hid (H8.out.res.row #[.int .i64 103, .bool true, .int .i64 k])
                  have EG := hid (grown_setRow H8.out.g HRb.out #[.int .i64 103, .bool true, .int .i64 k])
                  clear hg
                  go_wp2_with (first
                    | (refine wpList_store_rw rfl 31 _ _ rfl rfl rfl H8.out.res info_flt9 rfl (by simp [Value.oneCell']) ?_)
                    | fail)
                  refine bodyPost_ret (results_cell_row Tryz.results68 _ _ R _ _ _ _ rfl E.out.blk Tryz.underlying31 rfl info_flt9) rfl ?_
                  refine ⟨?_, EG.out⟩
                  rw [scanV_some Hb.out H8.out.no Hlt.out]
                  rfl
                · by_cases h5 : ys ≥ (nS : Int)
                  · have Hb : Hid (codeF x k = some 2) := hid (codeF_bad (fun h => by
                      have h1 := h.1
                      have h2 := h.2
                      unfold rangeR at h1
                      rw [Hy.out, Hla.out, HnD.out, HnS.out] at h1
                      rw [Hy.out] at h2
                      simp only at h1 h2
                      omega))
                    go_wp2_with fail
                    refine (placed_any 103 k (by omega) _).mono ?_
                    rintro e w8 ⟨rfl, hg⟩
                    have H8 := hid (HR2.out.kept0 hg)
                    have E := hid (H8.out.res.row #[.int .i64 103, .bool true, .int .i64 k])
                    have EG := hid (grown_setRow H8.out.g HRb.out #[.int .i64 103, .bool true, .int .i64 k])
                    clear hg
                    go_wp2_with (first
                      | (refine wpList_store_rw rfl 31 _ _ rfl rfl rfl H8.out.res info_flt9 rfl (by simp [Value.oneCell']) ?_)
                      | fail)
                    refine bodyPost_ret (results_cell_row Tryz.results68 _ _ R _ _ _ _ rfl E.out.blk Tryz.underlying31 rfl info_flt9) rfl ?_
                    refine ⟨?_, EG.out⟩
                    rw [scanV_some Hb.out H8.out.no Hlt.out]
                    rfl
                  · by_cases h6 : -65536 ≤ yd ∧ yd ≤ 65536
                    · have hfz : (!decide (-65536 ≤ yd ∧ yd ≤ 65536)) = false := by simpa using h6
                      have Hfz := hid hfz
                      clear hfz
                      have Hgood := hid (codeF_good (x := x) (k := k) ⟨by
                        unfold rangeR
                        rw [Hy.out, Hla.out, HnD.out, HnS.out]
                        simp only
                        omega, by rw [Hy.out]; simp⟩)
                      go_wp2_with fail
                      refine (rfar_any yd _).mono ?_
                      rintro e w4 ⟨rfl, rfl⟩
                      rw [Hfz.out]
                      obtain ⟨t, ht⟩ : ∃ t : Nat, ys = (t : Int) := ⟨ys.toNat, by omega⟩
                      have htl : t < nS := by omega
                      subst ht
                      obtain ⟨ta, hta⟩ : ∃ t : Nat, ya = (t : Int) := ⟨ya.toNat, by omega⟩
                      have htl2 : ta < nD := by omega
                      subst hta
                      obtain ⟨y, hy⟩ : ∃ y, x.S[t]? = some y := ⟨_, List.getElem?_eq_getElem (by rw [HnS.out]; exact htl)⟩
                      have Hsy : Hid (toB x ⟨(ta : Int), 1, (t : Int), yd⟩ = decide (y.i = 1)) := hid (by unfold toB symN; rw [Int.toNat_natCast, List.getD_eq_getElem?_getD, hy]; rfl)
                      obtain ⟨bs, os, cs', hvs, -, hbs, hcs⟩ := (HO.out.kept0 HR2.out.g).s.at_ (by rw [HnS.out]; omega)
                      simp only [Value.slice.injEq] at hvs
                      obtain ⟨rfl, -, -⟩ := hvs
                      have es : w2.cell? ⟨bs, os + t * 4 + 1, none⟩ = some (.int .i64 y.i) := hcs (t * 4 + 1) _ (by rw [sysC_get x.S t 1 _ hy (by decide)]; rfl)
                      obtain ⟨ma, hma⟩ : ∃ ma, x.M[ta]? = some ma := ⟨_, List.getElem?_eq_getElem (by rw [Hl.out, HnD.out]; exact htl2)⟩
                      have HMa : Hid (mapN x ta = ma) := hid (by unfold mapN; rw [List.getD_eq_getElem?_getD, hma]; rfl)
                      obtain ⟨bm, om, cm, hvm, hbm, hcm⟩ := (HO.out.kept0 HR2.out.g).m.at_ (by rw [Hl.out, HnD.out]; omega)
                      simp only [Value.slice.injEq] at hvm
                      obtain ⟨rfl, -, -⟩ := hvm
                      have HM := hid (hcm ta ma hma)
                      have f2 := HR2.out.box.cell 2 (v := .slice (some ⟨bm, om, none⟩) nD mc) rfl
                      have t0 : (0 : Int) ≤ (t : Int) := by omega
                      have t1 : (t : Int) < (nS : Int) := by omega
                      have ta0 : (0 : Int) ≤ (ta : Int) := by omega
                      have ta1 : (ta : Int) < (nD : Int) := by omega
                      clear hbs hcs hy hbm hcm hma
                      go_upto_region 10 with (fail)
                      have em0 := HM.out
                      obtain ⟨ab, hab⟩ : ∃ b : Bool, (decide (0 < ta) && (ma == 0)) = b := ⟨_, rfl⟩
                      have Hab := hid hab
                      clear hab
                      go_cut [86] from 75 to 86 (fun u86 wz => u86 = .bool ab ∧ wz = w2)
                      case first =>
                        by_cases ha0 : ta = 0
                        · have hb : ab = false := by rw [← Hab.out]; simp [ha0]
                          subst hb
                          subst ha0
                          have az : ¬ (((0 : Nat) : Int) > 0) := by omega
                          go_wp2
                          go_meet
                          exact ⟨rfl, rfl⟩
                        · have azn : 0 < ta := by omega
                          have az : ((ta : Int) > 0) := by omega
                          by_cases hm0 : ma = 0
                          · have hb : ab = true := by rw [← Hab.out]; simp [hm0, azn]
                            subst hb
                            subst hm0
                            go_wp2
                            go_meet
                            exact ⟨rfl, rfl⟩
                          · have hb : ab = false := by rw [← Hab.out]; simp [hm0]
                            subst hb
                            have hmb : (ma == 0) = false := by simpa using hm0
                            clear hm0 ha0
                            go_wp2
                            go_meet
                            exact ⟨rfl, rfl⟩
                      case rest =>
                        obtain ⟨rfl, rfl⟩ := hcut
                        clear em0
                        go_upto_if 86 with (fail)
                        go_cut [7] from 87 to 96 (fun u7 wz => ∃ ah : Int, u7 = .int .i64 ah ∧ wz = wc ∧ Hid (aheadR x ta = ah))
                        case first =>
                          cases ab with
                          | false =>
                            have hah : aheadR x ta = 0 := by
                              unfold aheadR
                              rw [if_neg]
                              rintro ⟨h1, h2⟩
                              have h3 := Hab.out
                              rw [HMa.out] at h2
                              simp [h1, h2] at h3
                            have Hah := hid hah
                            clear hah
                            go_wp2
                            go_meet
                            exact ⟨0, rfl, rfl, Hah⟩
                          | true =>
                            have hp : 0 < ta ∧ ma = 0 := by simpa using Hab.out
                            obtain ⟨hp1, hp2⟩ := hp
                            obtain ⟨j, rfl⟩ : ∃ j, ta = j + 1 := ⟨ta - 1, by omega⟩
                            have kj : ((j + 1 : Nat) : Int) - 1 = (j : Int) := by omega
                            have kj2 : (j : Int) + 1 - 1 = (j : Int) := by omega
                            have j0 : (0 : Int) ≤ (j : Int) := by omega
                            have jn : (j : Int) < (nD : Int) := by omega
                            obtain ⟨yp, hyp⟩ : ∃ yp, x.C[j]? = some yp := ⟨_, List.getElem?_eq_getElem (by rw [HnD.out]; omega)⟩
                            have hypr := HF.out.c yp (List.mem_of_getElem? hyp)
                            have yp0 := hypr.1
                            have yp1 := hypr.2
                            have hah : aheadR x (j + 1) = yp / 16777216 := by
                              unfold aheadR
                              rw [if_pos ⟨by omega, HMa.out.trans hp2⟩, Nat.add_sub_cancel]
                              unfold wOp
                              rw [List.getD_eq_getElem?_getD, hyp]; rfl
                            have Hah := hid hah
                            obtain ⟨bc, oc, cc', hvc, hbc, hcc⟩ := (HO.out.kept0 HR2.out.g).c.at_ (by rw [HnD.out]; omega)
                            simp only [Value.slice.injEq] at hvc
                            obtain ⟨rfl, -, -⟩ := hvc
                            have eyp := hcc j yp hyp
                            clear hah hypr hyp hbc hcc hp1 hp2
                            go_wp2
                            go_meet
                            exact ⟨_, rfl, rfl, Hah⟩
                        case rest =>
                          obtain ⟨ah, rfl, rfl, Hah⟩ := hcut
                          obtain ⟨d0, hd0⟩ : ∃ b, (yd != 0) = b := ⟨_, rfl⟩
                          obtain ⟨tI, htI⟩ : ∃ b, (y.i == 1) = b := ⟨_, rfl⟩
                          have htn : (y.i != 1) = !tI := by rw [← htI]; rfl
                          have Htb : Hid (toB x ⟨(ta : Int), 1, (t : Int), yd⟩ = tI) := hid (by rw [Hsy.out, ← htI]; rfl)
                          have Hd0 := hid hd0
                          obtain ⟨m2, hm2⟩ : ∃ b, (ma == 2) = b := ⟨_, rfl⟩
                          obtain ⟨fr, hfr⟩ : ∃ b, farB ah = b := ⟨_, rfl⟩
                          obtain ⟨a14, h14⟩ : ∃ b, (ah == 14) = b := ⟨_, rfl⟩
                          obtain ⟨a15, h15⟩ : ∃ b, (ah == 15) = b := ⟨_, rfl⟩
                          have Hm2 : Hid (decide (mapN x ta = 2) = m2) := hid (by rw [HMa.out, ← hm2]; rfl)
                          have Hfr := hid hfr
                          have H14 := hid h14
                          have H15 := hid h15
                          clear hfr
                          have em1 := HM.out
                          go_upto_region 12 with (fail)
                          go_cut [8] from 96 to 103 (fun u8 wz => u8 = .bool (d0 && !tI) ∧ wz = wc)
                          case first =>
                            cases d0 <;> cases tI
                            all_goals
                              go_wp2
                              go_meet
                              exact ⟨rfl, rfl⟩
                          case rest =>
                            obtain ⟨rfl, rfl⟩ := hcut
                            go_upto_if 105 with (fail)
                            go_cut [8] from 106 to 149 (fun u8 wz => ∃ zz : Bool, u8 = .bool zz ∧ Hid (zz = bad1B d0 tI m2 fr a14 a15 ∧ RCw W wz G R ⟨d, .slice dp nD dc, .slice (some ⟨bm, om, none⟩) nD mc, r, .slice (some ⟨b, o, none⟩) N rc, .slice (some ⟨bs, os, none⟩) nS sc⟩ (codeF x) k ∧ RwAt wz X 90 #[.int .i64 (ta : Int), .int .i64 1, .int .i64 (t : Int), .int .i64 yd]))
                            case first =>
                              cases d0 with
                              | true =>
                                cases tI with
                                | true =>
                                  cases m2 with
                                  | true =>
                                    cases fr with
                                    | true =>
                                      go_wp2_with fail
                                      refine (rjmp_any ah _).mono ?_
                                      rintro e w5 ⟨rfl, rfl⟩
                                      rw [Hfr.out]
                                      go_wp2
                                      go_meet
                                      exact ⟨true, rfl, hid ⟨by simp [bad1B], HR2.out, HX.out⟩⟩
                                    | false =>
                                      go_wp2_with fail
                                      refine (rjmp_any ah _).mono ?_
                                      rintro e w5 ⟨rfl, rfl⟩
                                      rw [Hfr.out]
                                      go_wp2
                                      go_meet
                                      exact ⟨false, rfl, hid ⟨by simp [bad1B], HR2.out, HX.out⟩⟩
                                  | false =>
                                    cases fr with
                                    | true =>
                                      go_wp2_with fail
                                      refine (rjmp_any ah _).mono ?_
                                      rintro e w5 ⟨rfl, rfl⟩
                                      rw [Hfr.out]
                                      go_wp2_with fail
                                      refine (rjmp_any ah _).mono ?_
                                      rintro e w5 ⟨rfl, rfl⟩
                                      rw [Hfr.out]
                                      go_wp2
                                      go_meet
                                      exact ⟨true, rfl, hid ⟨by simp [bad1B], HR2.out, HX.out⟩⟩
                                    | false =>
                                      cases a14 with
                                      | true =>
                                        go_wp2_with fail
                                        refine (rjmp_any ah _).mono ?_
                                        rintro e w5 ⟨rfl, rfl⟩
                                        rw [Hfr.out]
                                        go_wp2_with fail
                                        refine (rjmp_any ah _).mono ?_
                                        rintro e w5 ⟨rfl, rfl⟩
                                        rw [Hfr.out]
                                        go_wp2
                                        go_meet
                                        exact ⟨false, rfl, hid ⟨by simp [bad1B], HR2.out, HX.out⟩⟩
                                      | false =>
                                        cases a15 with
                                        | true =>
                                          go_wp2_with fail
                                          refine (rjmp_any ah _).mono ?_
                                          rintro e w5 ⟨rfl, rfl⟩
                                          rw [Hfr.out]
                                          go_wp2_with fail
                                          refine (rjmp_any ah _).mono ?_
                                          rintro e w5 ⟨rfl, rfl⟩
                                          rw [Hfr.out]
                                          go_wp2
                                          go_meet
                                          exact ⟨false, rfl, hid ⟨by simp [bad1B], HR2.out, HX.out⟩⟩
                                        | false =>
                                          go_wp2_with fail
                                          refine (rjmp_any ah _).mono ?_
                                          rintro e w5 ⟨rfl, rfl⟩
                                          rw [Hfr.out]
                                          go_wp2
                                          go_meet
                                          exact ⟨true, rfl, hid ⟨by simp [bad1B], HR2.out, HX.out⟩⟩
                                | false =>
                                  go_wp2
                                  go_meet
                                  exact ⟨true, rfl, hid ⟨by simp [bad1B], HR2.out, HX.out⟩⟩
                              | false =>
                                cases tI with
                                | true =>
                                  cases m2 with
                                  | true =>
                                    cases fr with
                                    | true =>
                                      go_wp2_with fail
                                      refine (rjmp_any ah _).mono ?_
                                      rintro e w5 ⟨rfl, rfl⟩
                                      rw [Hfr.out]
                                      go_wp2
                                      go_meet
                                      exact ⟨true, rfl, hid ⟨by simp [bad1B], HR2.out, HX.out⟩⟩
                                    | false =>
                                      go_wp2_with fail
                                      refine (rjmp_any ah _).mono ?_
                                      rintro e w5 ⟨rfl, rfl⟩
                                      rw [Hfr.out]
                                      go_wp2
                                      go_meet
                                      exact ⟨false, rfl, hid ⟨by simp [bad1B], HR2.out, HX.out⟩⟩
                                  | false =>
                                    cases fr with
                                    | true =>
                                      go_wp2_with fail
                                      refine (rjmp_any ah _).mono ?_
                                      rintro e w5 ⟨rfl, rfl⟩
                                      rw [Hfr.out]
                                      go_wp2_with fail
                                      refine (rjmp_any ah _).mono ?_
                                      rintro e w5 ⟨rfl, rfl⟩
                                      rw [Hfr.out]
                                      go_wp2
                                      go_meet
                                      exact ⟨true, rfl, hid ⟨by simp [bad1B], HR2.out, HX.out⟩⟩
                                    | false =>
                                      cases a14 with
                                      | true =>
                                        go_wp2_with fail
                                        refine (rjmp_any ah _).mono ?_
                                        rintro e w5 ⟨rfl, rfl⟩
                                        rw [Hfr.out]
                                        go_wp2_with fail
                                        refine (rjmp_any ah _).mono ?_
                                        rintro e w5 ⟨rfl, rfl⟩
                                        rw [Hfr.out]
                                        go_wp2
                                        go_meet
                                        exact ⟨false, rfl, hid ⟨by simp [bad1B], HR2.out, HX.out⟩⟩
                                      | false =>
                                        cases a15 with
                                        | true =>
                                          go_wp2_with fail
                                          refine (rjmp_any ah _).mono ?_
                                          rintro e w5 ⟨rfl, rfl⟩
                                          rw [Hfr.out]
                                          go_wp2_with fail
                                          refine (rjmp_any ah _).mono ?_
                                          rintro e w5 ⟨rfl, rfl⟩
                                          rw [Hfr.out]
                                          go_wp2
                                          go_meet
                                          exact ⟨false, rfl, hid ⟨by simp [bad1B], HR2.out, HX.out⟩⟩
                                        | false =>
                                          go_wp2_with fail
                                          refine (rjmp_any ah _).mono ?_
                                          rintro e w5 ⟨rfl, rfl⟩
                                          rw [Hfr.out]
                                          go_wp2
                                          go_meet
                                          exact ⟨true, rfl, hid ⟨by simp [bad1B], HR2.out, HX.out⟩⟩
                                | false =>
                                  cases m2 with
                                  | true =>
                                    go_wp2
                                    go_meet
                                    exact ⟨false, rfl, hid ⟨by simp [bad1B], HR2.out, HX.out⟩⟩
                                  | false =>
                                    cases fr with
                                    | true =>
                                      go_wp2_with fail
                                      refine (rjmp_any ah _).mono ?_
                                      rintro e w5 ⟨rfl, rfl⟩
                                      rw [Hfr.out]
                                      go_wp2
                                      go_meet
                                      exact ⟨false, rfl, hid ⟨by simp [bad1B], HR2.out, HX.out⟩⟩
                                    | false =>
                                      cases a14 with
                                      | true =>
                                        go_wp2_with fail
                                        refine (rjmp_any ah _).mono ?_
                                        rintro e w5 ⟨rfl, rfl⟩
                                        rw [Hfr.out]
                                        go_wp2
                                        go_meet
                                        exact ⟨false, rfl, hid ⟨by simp [bad1B], HR2.out, HX.out⟩⟩
                                      | false =>
                                        cases a15 with
                                        | true =>
                                          go_wp2_with fail
                                          refine (rjmp_any ah _).mono ?_
                                          rintro e w5 ⟨rfl, rfl⟩
                                          rw [Hfr.out]
                                          go_wp2
                                          go_meet
                                          exact ⟨false, rfl, hid ⟨by simp [bad1B], HR2.out, HX.out⟩⟩
                                        | false =>
                                          go_wp2_with fail
                                          refine (rjmp_any ah _).mono ?_
                                          rintro e w5 ⟨rfl, rfl⟩
                                          rw [Hfr.out]
                                          go_wp2
                                          go_meet
                                          exact ⟨true, rfl, hid ⟨by simp [bad1B], HR2.out, HX.out⟩⟩
                            case rest =>
                              obtain ⟨bb, rfl, HB⟩ := hcut
                              have Hcf : Hid (codeF x k = if bb = true then some 1 else none) := hid (by
                                have e : codeF x k = if rrepB x (rlN x.Q k) = false ∨ outB x (rlN x.Q k) = true then some 1 else none := by
                                  rw [rrep_eq Hw.out (by rw [Hy.out]; exact Int.natCast_nonneg _) (by rw [Hy.out, HnD.out]; exact Int.ofNat_lt.2 htl2)]
                                  exact Hgood.out
                                rw [e, Hy.out, HB.out.1]
                                exact bad1_is rfl Hd0.out Htb.out Hm2.out Hah.out Hfr.out H14.out H15.out)
                              have HR9 := hid HB.out.2.1
                              have HX9 := hid HB.out.2.2
                              clear HB
                              cases bb with
                              | true =>
                                have Hb : Hid (codeF x k = some 1) := hid (Hcf.out.trans (if_pos rfl))
                                go_wp2_with fail
                                refine (placed_any 102 k (by omega) _).mono ?_
                                rintro e w8 ⟨rfl, hg⟩
                                have H8 := hid (HR9.out.kept0 hg)
                                have E := hid (H8.out.res.row #[.int .i64 102, .bool true, .int .i64 k])
                                have EG := hid (grown_setRow H8.out.g HRb.out #[.int .i64 102, .bool true, .int .i64 k])
                                clear hg
                                go_wp2_with (first
                                  | (refine wpList_store_rw rfl 31 _ _ rfl rfl rfl H8.out.res info_flt9 rfl (by simp [Value.oneCell']) ?_)
                                  | fail)
                                refine bodyPost_ret (results_cell_row Tryz.results68 _ _ R _ _ _ _ rfl E.out.blk Tryz.underlying31 rfl info_flt9) rfl ?_
                                refine ⟨?_, EG.out⟩
                                rw [scanV_some Hb.out H8.out.no Hlt.out]
                                rfl
                              | false =>
                                have Hno : Hid (codeF x k = none) := hid (Hcf.out.trans (if_neg (by decide)))
                                have x9 := HX9.out.cell 0 (v := .int .i64 (ta : Int)) rfl
                                go_wp2
                                go_roundw
                                case rel => exact ⟨k + 1, Hlt.out, by go_num, by unfold lastR; rw [if_neg (by omega), Nat.add_sub_cancel, Hy.out], hid ⟨HR9.out.box, HR9.out.res, HR9.out.g, fun j hj => by
                                  by_cases e : j = k
                                  · rw [e]; exact Hno.out
                                  · exact HR9.out.no j (by omega)⟩⟩
                                case measure => simp [intOf]; have := Hlt.out; omega
                    · have hfz : (!decide (-65536 ≤ yd ∧ yd ≤ 65536)) = true := by rw [Bool.not_eq_true', decide_eq_false_iff_not]; exact h6
                      have Hfz := hid hfz
                      clear hfz
                      have Hb : Hid (codeF x k = some 2) := hid (codeF_bad (fun h => by
                        have h1 := h.1
                        have h2 := h.2
                        unfold rangeR at h1
                        rw [Hy.out, Hla.out, HnD.out, HnS.out] at h1
                        rw [Hy.out] at h2
                        simp only at h1 h2
                        omega))
                      go_wp2_with fail
                      refine (rfar_any yd _).mono ?_
                      rintro e w4 ⟨rfl, rfl⟩
                      rw [Hfz.out]
                      go_wp2_with fail
                      refine (placed_any 103 k (by omega) _).mono ?_
                      rintro e w8 ⟨rfl, hg⟩
                      have H8 := hid (HR2.out.kept0 hg)
                      have E := hid (H8.out.res.row #[.int .i64 103, .bool true, .int .i64 k])
                      have EG := hid (grown_setRow H8.out.g HRb.out #[.int .i64 103, .bool true, .int .i64 k])
                      clear hg
                      go_wp2_with (first
                        | (refine wpList_store_rw rfl 31 _ _ rfl rfl rfl H8.out.res info_flt9 rfl (by simp [Value.oneCell']) ?_)
                        | fail)
                      refine bodyPost_ret (results_cell_row Tryz.results68 _ _ R _ _ _ _ rfl E.out.blk Tryz.underlying31 rfl info_flt9) rfl ?_
                      refine ⟨?_, EG.out⟩
                      rw [scanV_some Hb.out H8.out.no Hlt.out]
                      rfl
              · clear h3
                by_cases h4 : ys < 0
                · have Hb : Hid (codeF x k = some 2) := hid (codeF_bad (fun h => by
                    have h1 := h.1
                    have h2 := h.2
                    unfold rangeR at h1
                    rw [Hy.out, Hla.out, HnD.out, HnS.out] at h1
                    rw [Hy.out] at h2
                    simp only at h1 h2
                    omega))
                  go_wp2_with fail
                  refine (placed_any 103 k (by omega) _).mono ?_
                  rintro e w8 ⟨rfl, hg⟩
                  have H8 := hid (HR2.out.kept0 hg)
                  have E := hid (H8.out.res.row #[.int .i64 103, .bool true, .int .i64 k])
                  have EG := hid (grown_setRow H8.out.g HRb.out #[.int .i64 103, .bool true, .int .i64 k])
                  clear hg
                  go_wp2_with (first
                    | (refine wpList_store_rw rfl 31 _ _ rfl rfl rfl H8.out.res info_flt9 rfl (by simp [Value.oneCell']) ?_)
                    | fail)
                  refine bodyPost_ret (results_cell_row Tryz.results68 _ _ R _ _ _ _ rfl E.out.blk Tryz.underlying31 rfl info_flt9) rfl ?_
                  refine ⟨?_, EG.out⟩
                  rw [scanV_some Hb.out H8.out.no Hlt.out]
                  rfl
                · by_cases h5 : ys ≥ (nS : Int)
                  · have Hb : Hid (codeF x k = some 2) := hid (codeF_bad (fun h => by
                      have h1 := h.1
                      have h2 := h.2
                      unfold rangeR at h1
                      rw [Hy.out, Hla.out, HnD.out, HnS.out] at h1
                      rw [Hy.out] at h2
                      simp only at h1 h2
                      omega))
                    go_wp2_with fail
                    refine (placed_any 103 k (by omega) _).mono ?_
                    rintro e w8 ⟨rfl, hg⟩
                    have H8 := hid (HR2.out.kept0 hg)
                    have E := hid (H8.out.res.row #[.int .i64 103, .bool true, .int .i64 k])
                    have EG := hid (grown_setRow H8.out.g HRb.out #[.int .i64 103, .bool true, .int .i64 k])
                    clear hg
                    go_wp2_with (first
                      | (refine wpList_store_rw rfl 31 _ _ rfl rfl rfl H8.out.res info_flt9 rfl (by simp [Value.oneCell']) ?_)
                      | fail)
                    refine bodyPost_ret (results_cell_row Tryz.results68 _ _ R _ _ _ _ rfl E.out.blk Tryz.underlying31 rfl info_flt9) rfl ?_
                    refine ⟨?_, EG.out⟩
                    rw [scanV_some Hb.out H8.out.no Hlt.out]
                    rfl
                  · by_cases h6 : -65536 ≤ yd ∧ yd ≤ 65536
                    · have hfz : (!decide (-65536 ≤ yd ∧ yd ≤ 65536)) = false := by simpa using h6
                      have Hfz := hid hfz
                      clear hfz
                      have Hgood := hid (codeF_good (x := x) (k := k) ⟨by
                        unfold rangeR
                        rw [Hy.out, Hla.out, HnD.out, HnS.out]
                        simp only
                        omega, by rw [Hy.out]; simp⟩)
                      go_wp2_with fail
                      refine (rfar_any yd _).mono ?_
                      rintro e w4 ⟨rfl, rfl⟩
                      rw [Hfz.out]
                      obtain ⟨t, ht⟩ : ∃ t : Nat, ys = (t : Int) := ⟨ys.toNat, by omega⟩
                      have htl : t < nS := by omega
                      subst ht
                      obtain ⟨ta, hta⟩ : ∃ t : Nat, ya = (t : Int) := ⟨ya.toNat, by omega⟩
                      have htl2 : ta < nD := by omega
                      subst hta
                      obtain ⟨y, hy⟩ : ∃ y, x.S[t]? = some y := ⟨_, List.getElem?_eq_getElem (by rw [HnS.out]; exact htl)⟩
                      have Hsy : Hid (toB x ⟨(ta : Int), 2, (t : Int), yd⟩ = decide (y.i = 1)) := hid (by unfold toB symN; rw [Int.toNat_natCast, List.getD_eq_getElem?_getD, hy]; rfl)
                      obtain ⟨bs, os, cs', hvs, -, hbs, hcs⟩ := (HO.out.kept0 HR2.out.g).s.at_ (by rw [HnS.out]; omega)
                      simp only [Value.slice.injEq] at hvs
                      obtain ⟨rfl, -, -⟩ := hvs
                      have es : w2.cell? ⟨bs, os + t * 4 + 1, none⟩ = some (.int .i64 y.i) := hcs (t * 4 + 1) _ (by rw [sysC_get x.S t 1 _ hy (by decide)]; rfl)
                      obtain ⟨ma, hma⟩ : ∃ ma, x.M[ta]? = some ma := ⟨_, List.getElem?_eq_getElem (by rw [Hl.out, HnD.out]; exact htl2)⟩
                      have HMa : Hid (mapN x ta = ma) := hid (by unfold mapN; rw [List.getD_eq_getElem?_getD, hma]; rfl)
                      obtain ⟨bm, om, cm, hvm, hbm, hcm⟩ := (HO.out.kept0 HR2.out.g).m.at_ (by rw [Hl.out, HnD.out]; omega)
                      simp only [Value.slice.injEq] at hvm
                      obtain ⟨rfl, -, -⟩ := hvm
                      have HM := hid (hcm ta ma hma)
                      have f2 := HR2.out.box.cell 2 (v := .slice (some ⟨bm, om, none⟩) nD mc) rfl
                      have t0 : (0 : Int) ≤ (t : Int) := by omega
                      have t1 : (t : Int) < (nS : Int) := by omega
                      have ta0 : (0 : Int) ≤ (ta : Int) := by omega
                      have ta1 : (ta : Int) < (nD : Int) := by omega
                      clear hbs hcs hy hbm hcm hma
                      go_upto_region 10 with (fail)
                      have em0 := HM.out
                      obtain ⟨ab, hab⟩ : ∃ b : Bool, (decide (0 < ta) && (ma == 0)) = b := ⟨_, rfl⟩
                      have Hab := hid hab
                      clear hab
                      go_cut [86] from 75 to 86 (fun u86 wz => u86 = .bool ab ∧ wz = w2)
                      case first =>
                        by_cases ha0 : ta = 0
                        · have hb : ab = false := by rw [← Hab.out]; simp [ha0]
                          subst hb
                          subst ha0
                          have az : ¬ (((0 : Nat) : Int) > 0) := by omega
                          go_wp2
                          go_meet
                          exact ⟨rfl, rfl⟩
                        · have azn : 0 < ta := by omega
                          have az : ((ta : Int) > 0) := by omega
                          by_cases hm0 : ma = 0
                          · have hb : ab = true := by rw [← Hab.out]; simp [hm0, azn]
                            subst hb
                            subst hm0
                            go_wp2
                            go_meet
                            exact ⟨rfl, rfl⟩
                          · have hb : ab = false := by rw [← Hab.out]; simp [hm0]
                            subst hb
                            have hmb : (ma == 0) = false := by simpa using hm0
                            clear hm0 ha0
                            go_wp2
                            go_meet
                            exact ⟨rfl, rfl⟩
                      case rest =>
                        obtain ⟨rfl, rfl⟩ := hcut
                        clear em0
                        go_upto_if 86 with (fail)
                        go_cut [7] from 87 to 96 (fun u7 wz => ∃ ah : Int, u7 = .int .i64 ah ∧ wz = wc ∧ Hid (aheadR x ta = ah))
                        case first =>
                          cases ab with
                          | false =>
                            have hah : aheadR x ta = 0 := by
                              unfold aheadR
                              rw [if_neg]
                              rintro ⟨h1, h2⟩
                              have h3 := Hab.out
                              rw [HMa.out] at h2
                              simp [h1, h2] at h3
                            have Hah := hid hah
                            clear hah
                            go_wp2
                            go_meet
                            exact ⟨0, rfl, rfl, Hah⟩
                          | true =>
                            have hp : 0 < ta ∧ ma = 0 := by simpa using Hab.out
                            obtain ⟨hp1, hp2⟩ := hp
                            obtain ⟨j, rfl⟩ : ∃ j, ta = j + 1 := ⟨ta - 1, by omega⟩
                            have kj : ((j + 1 : Nat) : Int) - 1 = (j : Int) := by omega
                            have kj2 : (j : Int) + 1 - 1 = (j : Int) := by omega
                            have j0 : (0 : Int) ≤ (j : Int) := by omega
                            have jn : (j : Int) < (nD : Int) := by omega
                            obtain ⟨yp, hyp⟩ : ∃ yp, x.C[j]? = some yp := ⟨_, List.getElem?_eq_getElem (by rw [HnD.out]; omega)⟩
                            have hypr := HF.out.c yp (List.mem_of_getElem? hyp)
                            have yp0 := hypr.1
                            have yp1 := hypr.2
                            have hah : aheadR x (j + 1) = yp / 16777216 := by
                              unfold aheadR
                              rw [if_pos ⟨by omega, HMa.out.trans hp2⟩, Nat.add_sub_cancel]
                              unfold wOp
                              rw [List.getD_eq_getElem?_getD, hyp]; rfl
                            have Hah := hid hah
                            obtain ⟨bc, oc, cc', hvc, hbc, hcc⟩ := (HO.out.kept0 HR2.out.g).c.at_ (by rw [HnD.out]; omega)
                            simp only [Value.slice.injEq] at hvc
                            obtain ⟨rfl, -, -⟩ := hvc
                            have eyp := hcc j yp hyp
                            clear hah hypr hyp hbc hcc hp1 hp2
                            go_wp2
                            go_meet
                            exact ⟨_, rfl, rfl, Hah⟩
                        case rest =>
                          obtain ⟨ah, rfl, rfl, Hah⟩ := hcut
                          obtain ⟨d0, hd0⟩ : ∃ b, (yd != 0) = b := ⟨_, rfl⟩
                          obtain ⟨tI, htI⟩ : ∃ b, (y.i == 1) = b := ⟨_, rfl⟩
                          have htn : (y.i != 1) = !tI := by rw [← htI]; rfl
                          have Htb : Hid (toB x ⟨(ta : Int), 2, (t : Int), yd⟩ = tI) := hid (by rw [Hsy.out, ← htI]; rfl)
                          have Hd0 := hid hd0
                          obtain ⟨sh, hsh⟩ : ∃ b, (decide (mapN x ta = 1) && brB (wOp x ta)) = b := ⟨_, rfl⟩
                          have Hsh := hid hsh
                          clear hsh
                          go_upto_region 12 with (fail)
                          go_cut [8] from 96 to 103 (fun u8 wz => u8 = .bool (d0 && !tI) ∧ wz = wc)
                          case first =>
                            cases d0 <;> cases tI
                            all_goals
                              go_wp2
                              go_meet
                              exact ⟨rfl, rfl⟩
                          case rest =>
                            obtain ⟨rfl, rfl⟩ := hcut
                            go_upto_if 105 with (fail)
                            go_cut [8] from 106 to 149 (fun u8 wz => ∃ zz : Bool, u8 = .bool zz ∧ Hid (zz = bad2B d0 tI sh ∧ RCw W wz G R ⟨d, .slice dp nD dc, .slice (some ⟨bm, om, none⟩) nD mc, r, .slice (some ⟨b, o, none⟩) N rc, .slice (some ⟨bs, os, none⟩) nS sc⟩ (codeF x) k ∧ RwAt wz X 90 #[.int .i64 (ta : Int), .int .i64 2, .int .i64 (t : Int), .int .i64 yd]))
                            case first =>
                              cases d0 with
                              | true =>
                                cases tI with
                                | true =>
                                  cases sh with
                                  | true =>
                                    go_wp2_with (first
                                      | (refine wpList_load_rw_g (by kernel_rfl) 27 _ rfl rfl HR2.out.box rfl Tryz.underlying27 info_object ?_)
                                      | fail)
                                    refine (rshort_any (V := ⟨d, .slice dp nD dc, .slice (some ⟨bm, om, none⟩) nD mc, r, .slice (some ⟨b, o, none⟩) N rc, .slice (some ⟨bs, os, none⟩) nS sc⟩) (HO.out.kept0 HR2.out.g) HF.out Hl.out (by rw [HnD.out]; omega) (by rw [HnD.out]; omega) _ Hsh.out).mono ?_
                                    rintro e w5 ⟨rfl, hg⟩
                                    have HR5 := hid (HR2.out.kept0 hg)
                                    have HX5 := hid (HX.out.kept0 hg)
                                    clear hg
                                    go_wp2
                                    go_meet
                                    exact ⟨true, rfl, hid ⟨by simp [bad2B], HR5.out, HX5.out⟩⟩
                                  | false =>
                                    go_wp2_with (first
                                      | (refine wpList_load_rw_g (by kernel_rfl) 27 _ rfl rfl HR2.out.box rfl Tryz.underlying27 info_object ?_)
                                      | fail)
                                    refine (rshort_any (V := ⟨d, .slice dp nD dc, .slice (some ⟨bm, om, none⟩) nD mc, r, .slice (some ⟨b, o, none⟩) N rc, .slice (some ⟨bs, os, none⟩) nS sc⟩) (HO.out.kept0 HR2.out.g) HF.out Hl.out (by rw [HnD.out]; omega) (by rw [HnD.out]; omega) _ Hsh.out).mono ?_
                                    rintro e w5 ⟨rfl, hg⟩
                                    have HR5 := hid (HR2.out.kept0 hg)
                                    have HX5 := hid (HX.out.kept0 hg)
                                    clear hg
                                    go_wp2
                                    go_meet
                                    exact ⟨true, rfl, hid ⟨by simp [bad2B], HR5.out, HX5.out⟩⟩
                                | false =>
                                  go_wp2
                                  go_meet
                                  exact ⟨true, rfl, hid ⟨by simp [bad2B], HR2.out, HX.out⟩⟩
                              | false =>
                                cases tI with
                                | true =>
                                  cases sh with
                                  | true =>
                                    go_wp2_with (first
                                      | (refine wpList_load_rw_g (by kernel_rfl) 27 _ rfl rfl HR2.out.box rfl Tryz.underlying27 info_object ?_)
                                      | fail)
                                    refine (rshort_any (V := ⟨d, .slice dp nD dc, .slice (some ⟨bm, om, none⟩) nD mc, r, .slice (some ⟨b, o, none⟩) N rc, .slice (some ⟨bs, os, none⟩) nS sc⟩) (HO.out.kept0 HR2.out.g) HF.out Hl.out (by rw [HnD.out]; omega) (by rw [HnD.out]; omega) _ Hsh.out).mono ?_
                                    rintro e w5 ⟨rfl, hg⟩
                                    have HR5 := hid (HR2.out.kept0 hg)
                                    have HX5 := hid (HX.out.kept0 hg)
                                    clear hg
                                    go_wp2
                                    go_meet
                                    exact ⟨true, rfl, hid ⟨by simp [bad2B], HR5.out, HX5.out⟩⟩
                                  | false =>
                                    go_wp2_with (first
                                      | (refine wpList_load_rw_g (by kernel_rfl) 27 _ rfl rfl HR2.out.box rfl Tryz.underlying27 info_object ?_)
                                      | fail)
                                    refine (rshort_any (V := ⟨d, .slice dp nD dc, .slice (some ⟨bm, om, none⟩) nD mc, r, .slice (some ⟨b, o, none⟩) N rc, .slice (some ⟨bs, os, none⟩) nS sc⟩) (HO.out.kept0 HR2.out.g) HF.out Hl.out (by rw [HnD.out]; omega) (by rw [HnD.out]; omega) _ Hsh.out).mono ?_
                                    rintro e w5 ⟨rfl, hg⟩
                                    have HR5 := hid (HR2.out.kept0 hg)
                                    have HX5 := hid (HX.out.kept0 hg)
                                    clear hg
                                    go_wp2
                                    go_meet
                                    exact ⟨true, rfl, hid ⟨by simp [bad2B], HR5.out, HX5.out⟩⟩
                                | false =>
                                  cases sh with
                                  | true =>
                                    go_wp2_with (first
                                      | (refine wpList_load_rw_g (by kernel_rfl) 27 _ rfl rfl HR2.out.box rfl Tryz.underlying27 info_object ?_)
                                      | fail)
                                    refine (rshort_any (V := ⟨d, .slice dp nD dc, .slice (some ⟨bm, om, none⟩) nD mc, r, .slice (some ⟨b, o, none⟩) N rc, .slice (some ⟨bs, os, none⟩) nS sc⟩) (HO.out.kept0 HR2.out.g) HF.out Hl.out (by rw [HnD.out]; omega) (by rw [HnD.out]; omega) _ Hsh.out).mono ?_
                                    rintro e w5 ⟨rfl, hg⟩
                                    have HR5 := hid (HR2.out.kept0 hg)
                                    have HX5 := hid (HX.out.kept0 hg)
                                    clear hg
                                    go_wp2
                                    go_meet
                                    exact ⟨false, rfl, hid ⟨by simp [bad2B], HR5.out, HX5.out⟩⟩
                                  | false =>
                                    go_wp2_with (first
                                      | (refine wpList_load_rw_g (by kernel_rfl) 27 _ rfl rfl HR2.out.box rfl Tryz.underlying27 info_object ?_)
                                      | fail)
                                    refine (rshort_any (V := ⟨d, .slice dp nD dc, .slice (some ⟨bm, om, none⟩) nD mc, r, .slice (some ⟨b, o, none⟩) N rc, .slice (some ⟨bs, os, none⟩) nS sc⟩) (HO.out.kept0 HR2.out.g) HF.out Hl.out (by rw [HnD.out]; omega) (by rw [HnD.out]; omega) _ Hsh.out).mono ?_
                                    rintro e w5 ⟨rfl, hg⟩
                                    have HR5 := hid (HR2.out.kept0 hg)
                                    have HX5 := hid (HX.out.kept0 hg)
                                    clear hg
                                    go_wp2
                                    go_meet
                                    exact ⟨true, rfl, hid ⟨by simp [bad2B], HR5.out, HX5.out⟩⟩
                            case rest =>
                              obtain ⟨bb, rfl, HB⟩ := hcut
                              have Hcf : Hid (codeF x k = if bb = true then some 1 else none) := hid (by
                                have e : codeF x k = if rrepB x (rlN x.Q k) = false ∨ outB x (rlN x.Q k) = true then some 1 else none := by
                                  rw [rrep_eq Hw.out (by rw [Hy.out]; exact Int.natCast_nonneg _) (by rw [Hy.out, HnD.out]; exact Int.ofNat_lt.2 htl2)]
                                  exact Hgood.out
                                rw [e, Hy.out, HB.out.1]
                                exact bad2_is rfl Hd0.out Htb.out Hsh.out)
                              have HR9 := hid HB.out.2.1
                              have HX9 := hid HB.out.2.2
                              clear HB
                              cases bb with
                              | true =>
                                have Hb : Hid (codeF x k = some 1) := hid (Hcf.out.trans (if_pos rfl))
                                go_wp2_with fail
                                refine (placed_any 102 k (by omega) _).mono ?_
                                rintro e w8 ⟨rfl, hg⟩
                                have H8 := hid (HR9.out.kept0 hg)
                                have E := hid (H8.out.res.row #[.int .i64 102, .bool true, .int .i64 k])
                                have EG := hid (grown_setRow H8.out.g HRb.out #[.int .i64 102, .bool true, .int .i64 k])
                                clear hg
                                go_wp2_with (first
                                  | (refine wpList_store_rw rfl 31 _ _ rfl rfl rfl H8.out.res info_flt9 rfl (by simp [Value.oneCell']) ?_)
                                  | fail)
                                refine bodyPost_ret (results_cell_row Tryz.results68 _ _ R _ _ _ _ rfl E.out.blk Tryz.underlying31 rfl info_flt9) rfl ?_
                                refine ⟨?_, EG.out⟩
                                rw [scanV_some Hb.out H8.out.no Hlt.out]
                                rfl
                              | false =>
                                have Hno : Hid (codeF x k = none) := hid (Hcf.out.trans (if_neg (by decide)))
                                have x9 := HX9.out.cell 0 (v := .int .i64 (ta : Int)) rfl
                                go_wp2
                                go_roundw
                                case rel => exact ⟨k + 1, Hlt.out, by go_num, by unfold lastR; rw [if_neg (by omega), Nat.add_sub_cancel, Hy.out], hid ⟨HR9.out.box, HR9.out.res, HR9.out.g, fun j hj => by
                                  by_cases e : j = k
                                  · rw [e]; exact Hno.out
                                  · exact HR9.out.no j (by omega)⟩⟩
                                case measure => simp [intOf]; have := Hlt.out; omega
                    · have hfz : (!decide (-65536 ≤ yd ∧ yd ≤ 65536)) = true := by rw [Bool.not_eq_true', decide_eq_false_iff_not]; exact h6
                      have Hfz := hid hfz
                      clear hfz
                      have Hb : Hid (codeF x k = some 2) := hid (codeF_bad (fun h => by
                        have h1 := h.1
                        have h2 := h.2
                        unfold rangeR at h1
                        rw [Hy.out, Hla.out, HnD.out, HnS.out] at h1
                        rw [Hy.out] at h2
                        simp only at h1 h2
                        omega))
                      go_wp2_with fail
                      refine (rfar_any yd _).mono ?_
                      rintro e w4 ⟨rfl, rfl⟩
                      rw [Hfz.out]
                      go_wp2_with fail
                      refine (placed_any 103 k (by omega) _).mono ?_
                      rintro e w8 ⟨rfl, hg⟩
                      have H8 := hid (HR2.out.kept0 hg)
                      have E := hid (H8.out.res.row #[.int .i64 103, .bool true, .int .i64 k])
                      have EG := hid (grown_setRow H8.out.g HRb.out #[.int .i64 103, .bool true, .int .i64 k])
                      clear hg
                      go_wp2_with (first
                        | (refine wpList_store_rw rfl 31 _ _ rfl rfl rfl H8.out.res info_flt9 rfl (by simp [Value.oneCell']) ?_)
                        | fail)
                      refine bodyPost_ret (results_cell_row Tryz.results68 _ _ R _ _ _ _ rfl E.out.blk Tryz.underlying31 rfl info_flt9) rfl ?_
                      refine ⟨?_, EG.out⟩
                      rw [scanV_some Hb.out H8.out.no Hlt.out]
                      rfl
    · obtain rfl : k = N := by omega
      have kn : ¬ ((k : Int) < (k : Int)) := by omega
      clear hlt
      have HRk := hid HR.out
      clear HR
      go_wp2_with fail
      refine (nofault_any _).mono ?_
      rintro e w8 ⟨rfl, hg⟩
      have H8 := hid (HRk.out.kept0 hg)
      have E := hid (H8.out.res.row #[.int .i64 0, .bool false, .int .i64 0])
      have EG := hid (grown_setRow H8.out.g HRb.out #[.int .i64 0, .bool false, .int .i64 0])
      clear hg
      go_wp2_with (first
        | (refine wpList_store_rw rfl 31 _ _ rfl rfl rfl H8.out.res info_flt9 rfl (by simp [Value.oneCell']) ?_)
        | fail)
      refine bodyPost_ret (results_cell_row Tryz.results68 _ _ R _ _ _ _ rfl E.out.blk Tryz.underlying31 rfl info_flt9) rfl ?_
      refine ⟨?_, EG.out⟩
      rw [scanV_none H8.out.no]
      rfl
end Go.Proofs.YtgahbpfmiibpeaaGreatDoor
