/- The document's objects (facaderef9): relocations of data: contract. (Made by gorv3.py.) -/
import Derived.Test.YtgahbpfmiibpeaaGreatDoorZGRvS
namespace Go.Proofs.YtgahbpfmiibpeaaGreatDoor
open Go.RowKit
def lastR (l : List Rl) (k : Nat) : Int := if k = 0 then -1 else (rlN l (k - 1)).a
def rangeR (x : PO) (l : List Rl) (k : Nat) (n : Int) : Prop := 0 ≤ (rlN l k).a ∧ (rlN l k).a < n ∧ lastR l k < (rlN l k).a ∧ 0 ≤ (rlN l k).s ∧ (rlN l k).s < x.S.length ∧ -65536 ≤ (rlN l k).d ∧ (rlN l k).d ≤ 65536
theorem inB_iff (x : PO) (l : List Rl) (k : Nat) (n : Int) : inB x l k n = true ↔ rangeR x l k n := by
  unfold inB rangeR lastR
  rw [decide_eq_true_eq]
  by_cases h : k = 0
  · rw [if_pos h]
    constructor
    · rintro ⟨_, a, b, c, d, e, f⟩; exact ⟨a, b, by omega, c, d, e, f⟩
    · rintro ⟨a, b, _, c, d, e, f⟩; exact ⟨.inl h, a, b, c, d, e, f⟩
  · rw [if_neg h]
    constructor
    · rintro ⟨g, a, b, c, d, e, f⟩; exact ⟨a, b, g.resolve_left h, c, d, e, f⟩
    · rintro ⟨a, b, g, c, d, e, f⟩; exact ⟨.inr g, a, b, c, d, e, f⟩
theorem dataF_bad {x : PO} {k : Nat} (h : ¬ (rangeR x x.R k x.D.length ∧ (rlN x.R k).k = 1)) : dataF x k = some 2 := by
  unfold dataF
  rw [if_pos]
  cases hi : inB x x.R k x.D.length
  · exact .inl rfl
  · exact .inr (fun e => h ⟨(inB_iff _ _ _ _).1 hi, e⟩)
theorem dataF_good {x : PO} {k : Nat} (h : rangeR x x.R k x.D.length ∧ (rlN x.R k).k = 1) : dataF x k = if outB x (rlN x.R k) = true then some 1 else none := by
  unfold dataF
  rw [if_neg]
  rw [(inB_iff _ _ _ _).2 h.1]
  intro e
  rcases e with e | e
  · cases e
  · exact e h.2
theorem zero_rel3 (w : World) : (zeroValue 90).run Tryz.prog w = .ok (.agg #[.int .i64 0, .int .i64 0, .int .i64 0, .int .i64 0]) w := by kernel_rfl
theorem zero_flt3 (w : World) : (zeroValue 31).run Tryz.prog w = .ok (.agg #[.int .i64 0, .bool false, .int .i64 0]) w := by kernel_rfl
set_option maxRecDepth 100000 in
set_option maxHeartbeats 16000000 in
theorem rdrels_any {W : World} {V : OV} {x : PO} (h : OAt W V x) (hr : x.R.length ≤ 1000000) (hd : x.D.length ≤ 1000000) (hs : x.S.length ≤ 1000000) :
    Calls Tryz.prog 67 #[V.agg] W fun e w' => e = .returned (flV (scanV (dataF x) x.R.length)) ∧ W.grownBy w' none := by
  obtain ⟨d, c, m, r, q, s⟩ := V
  obtain ⟨dp, dc, hdv⟩ := h.d.len'
  obtain ⟨rp, rc, hrv⟩ := h.r.len
  obtain ⟨sp, sc, hsv⟩ := h.s.len
  simp only at hdv hrv hsv
  subst hdv; subst hrv; subst hsv
  obtain ⟨nD, hnD⟩ : ∃ n, x.D.length = n := ⟨_, rfl⟩
  obtain ⟨nS, hnS⟩ : ∃ n, x.S.length = n := ⟨_, rfl⟩
  obtain ⟨N, hN⟩ : ∃ n, x.R.length = n := ⟨_, rfl⟩
  rw [hnD, hnS, hN] at h ⊢
  rw [hN] at hr
  rw [hnD] at hd
  rw [hnS] at hs
  have HnD := hid hnD
  have HnS := hid hnS
  have HN := hid hN
  have HO := hid h
  have HB0 := hid (RwAt.new W 27 #[.slice dp nD dc, c, m, .slice rp N rc, q, .slice sp nS sc])
  have n0 : (0 : Int) ≤ (N : Int) := by omega
  have n1 : (N : Int) ≤ 1000000 := by omega
  have d0 : (0 : Int) ≤ (nD : Int) := by omega
  have d1 : (nD : Int) ≤ 1000000 := by omega
  have s0 : (0 : Int) ≤ (nS : Int) := by omega
  have s1 : (nS : Int) ≤ 1000000 := by omega
  clear h hnD hnS hN hr hd hs
  have Hz := zero_flt3
  go_enter Tryz.func67, Tryz.ntmps67
  go_upto_region 1 with (fail)
  clear Hz
  have HRC : Hid (RCw W ((W.alloc (.cells #[.slice dp nD dc, c, m, .slice rp N rc, q, .slice sp nS sc] 27)).alloc (.cells #[.int .i64 0, .bool false, .int .i64 0] 31)) W.heap.size (W.heap.size + 1) ⟨.slice dp nD dc, c, m, .slice rp N rc, q, .slice sp nS sc⟩ (dataF x) 0) := hid ⟨HB0.out.alloc _, RwAt.new2 _ _ _ _, grown_trans (World.grownBy_alloc _ _ none) (World.grownBy_alloc _ _ none), fun j hj => absurd hj (by omega)⟩
  obtain ⟨R, hR⟩ : ∃ R, W.heap.size + 1 = R := ⟨_, rfl⟩
  have HRb : Hid (W.heap.size ≤ R) := hid (by omega)
  obtain ⟨G, hG⟩ : ∃ G, W.heap.size = G := ⟨_, rfl⟩
  rw [hR, hG] at HRC
  clear HB0
  generalize (W.alloc (.cells #[.slice dp nD dc, c, m, .slice rp N rc, q, .slice sp nS sc] 27)).alloc (.cells #[.int .i64 0, .bool false, .int .i64 0] 31) = w1 at HRC ⊢
  try rw [hR]
  try rw [hG]
  clear hR hG
  go_wp2
  go_loopw [3, 4] (fun l i wr => ∃ k : Nat, k ≤ N ∧ i = .int .i64 k ∧ l = .int .i64 (lastR x.R k) ∧ Hid (RCw W wr G R ⟨.slice dp nD dc, c, m, .slice rp N rc, q, .slice sp nS sc⟩ (dataF x) k)) (fun _ i _ => N - (intOf i).toNat)
  case atStart => exact ⟨0, Nat.zero_le _, rfl, rfl, HRC⟩
  case round =>
    obtain ⟨k, hk, rfl, rfl, HR⟩ := hrel
    have k0 : (0 : Int) ≤ (k : Int) := by omega
    obtain ⟨la, hla⟩ : ∃ la, lastR x.R k = la := ⟨_, rfl⟩
    have Hla := hid hla
    rw [hla]
    clear hla
    have e3 := HR.out.box.cell 3 (v := .slice rp N rc) rfl
    by_cases hlt : k < N
    · have kn : (k : Int) < (N : Int) := by omega
      have Hlt := hid hlt
      obtain ⟨⟨ya, yk, ys, yd⟩, hy⟩ : ∃ y, x.R[k]? = some y := ⟨_, List.getElem?_eq_getElem (by rw [HN.out]; exact hlt)⟩
      have Hy : Hid (rlN x.R k = ⟨ya, yk, ys, yd⟩) := hid (by unfold rlN; rw [List.getD_eq_getElem?_getD, hy]; rfl)
      obtain ⟨b, o, c', hv, -, hb, hc⟩ := (HO.out.kept0 HR.out.g).r.at_ (by rw [HN.out]; omega)
      simp only [Value.slice.injEq] at hv
      obtain ⟨rfl, -, -⟩ := hv
      have c0 : wr.cell? ⟨b, o + k * 4, none⟩ = some (.int .i64 ya) := hc (k * 4 + 0) _ (by rw [rlsC_get x.R k 0 _ hy (by decide)]; rfl)
      have c1 : wr.cell? ⟨b, o + k * 4 + 1, none⟩ = some (.int .i64 yk) := hc (k * 4 + 1) _ (by rw [rlsC_get x.R k 1 _ hy (by decide)]; rfl)
      have c2 : wr.cell? ⟨b, o + k * 4 + 2, none⟩ = some (.int .i64 ys) := hc (k * 4 + 2) _ (by rw [rlsC_get x.R k 2 _ hy (by decide)]; rfl)
      have c3 : wr.cell? ⟨b, o + k * 4 + 3, none⟩ = some (.int .i64 yd) := hc (k * 4 + 3) _ (by rw [rlsC_get x.R k 3 _ hy (by decide)]; rfl)
      have al := World.grownBy_alloc wr (.cells #[.int .i64 ya, .int .i64 yk, .int .i64 ys, .int .i64 yd] 90) none
      have HR2 := hid (HR.out.kept0 al)
      have HX := hid (RwAt.new wr 90 #[.int .i64 ya, .int .i64 yk, .int .i64 ys, .int .i64 yd])
      clear hb hc hy hlt al HR
      have Hzr := zero_rel3
      go_upto_region 6 with (fail)
      clear c0 c1 c2 c3 e3 Hzr
      obtain ⟨X, hX⟩ : ∃ X, wr.heap.size = X := ⟨_, rfl⟩
      rw [hX] at HX ⊢
      clear hX
      generalize wr.alloc (.cells #[.int .i64 ya, .int .i64 yk, .int .i64 ys, .int .i64 yd] 90) = w2 at HR2 HX ⊢
      have x0 := HX.out.cell 0 (v := .int .i64 ya) rfl
      have x1 := HX.out.cell 1 (v := .int .i64 yk) rfl
      have x2 := HX.out.cell 2 (v := .int .i64 ys) rfl
      have x3 := HX.out.cell 3 (v := .int .i64 yd) rfl
      have f0 := HR2.out.box.cell 0 (v := .slice dp nD dc) rfl
      have f5 := HR2.out.box.cell 5 (v := .slice sp nS sc) rfl
      by_cases h0 : ya < 0
      · have Hb : Hid (dataF x k = some 2) := hid (dataF_bad (fun h => by
          have h1 := h.1
          have h2 := h.2
          unfold rangeR at h1
          rw [Hy.out, Hla.out, HnD.out, HnS.out] at h1
          rw [Hy.out] at h2
          simp only at h1 h2
          omega))
        go_wp2_with fail
        refine (placed_any 103 k (by omega) _).mono ?_
        rintro e w8 ⟨rfl, hg⟩
        have H8 := hid (HR2.out.kept0 hg)
        have E := hid (H8.out.res.row #[.int .i64 103, .bool true, .int .i64 k])
        have EG := hid (grown_setRow H8.out.g HRb.out #[.int .i64 103, .bool true, .int .i64 k])
        clear hg
        go_wp2_with (first
          | (refine wpList_store_rw rfl 31 _ _ rfl rfl rfl H8.out.res info_flt9 rfl (by simp [Value.oneCell']) ?_)
          | fail)
        refine bodyPost_ret (results_cell_row Tryz.results67 _ _ R _ _ _ _ rfl E.out.blk Tryz.underlying31 rfl info_flt9) rfl ?_
        refine ⟨?_, EG.out⟩
        rw [scanV_some Hb.out H8.out.no Hlt.out]
        rfl
      · by_cases h1 : ya ≥ (nD : Int)
        · have Hb : Hid (dataF x k = some 2) := hid (dataF_bad (fun h => by
            have h1 := h.1
            have h2 := h.2
            unfold rangeR at h1
            rw [Hy.out, Hla.out, HnD.out, HnS.out] at h1
            rw [Hy.out] at h2
            simp only at h1 h2
            omega))
          go_wp2_with fail
          refine (placed_any 103 k (by omega) _).mono ?_
          rintro e w8 ⟨rfl, hg⟩
          have H8 := hid (HR2.out.kept0 hg)
          have E := hid (H8.out.res.row #[.int .i64 103, .bool true, .int .i64 k])
          have EG := hid (grown_setRow H8.out.g HRb.out #[.int .i64 103, .bool true, .int .i64 k])
          clear hg
          go_wp2_with (first
            | (refine wpList_store_rw rfl 31 _ _ rfl rfl rfl H8.out.res info_flt9 rfl (by simp [Value.oneCell']) ?_)
            | fail)
          refine bodyPost_ret (results_cell_row Tryz.results67 _ _ R _ _ _ _ rfl E.out.blk Tryz.underlying31 rfl info_flt9) rfl ?_
          refine ⟨?_, EG.out⟩
          rw [scanV_some Hb.out H8.out.no Hlt.out]
          rfl
        · by_cases h2 : ya ≤ la
          · have Hb : Hid (dataF x k = some 2) := hid (dataF_bad (fun h => by
              have h1 := h.1
              have h2 := h.2
              unfold rangeR at h1
              rw [Hy.out, Hla.out, HnD.out, HnS.out] at h1
              rw [Hy.out] at h2
              simp only at h1 h2
              omega))
            go_wp2_with fail
            refine (placed_any 103 k (by omega) _).mono ?_
            rintro e w8 ⟨rfl, hg⟩
            have H8 := hid (HR2.out.kept0 hg)
            have E := hid (H8.out.res.row #[.int .i64 103, .bool true, .int .i64 k])
            have EG := hid (grown_setRow H8.out.g HRb.out #[.int .i64 103, .bool true, .int .i64 k])
            clear hg
            go_wp2_with (first
              | (refine wpList_store_rw rfl 31 _ _ rfl rfl rfl H8.out.res info_flt9 rfl (by simp [Value.oneCell']) ?_)
              | fail)
            refine bodyPost_ret (results_cell_row Tryz.results67 _ _ R _ _ _ _ rfl E.out.blk Tryz.underlying31 rfl info_flt9) rfl ?_
            refine ⟨?_, EG.out⟩
            rw [scanV_some Hb.out H8.out.no Hlt.out]
            rfl
          · by_cases h3 : yk ≠ 1
            · have Hb : Hid (dataF x k = some 2) := hid (dataF_bad (fun h => by
                have h1 := h.1
                have h2 := h.2
                unfold rangeR at h1
                rw [Hy.out, Hla.out, HnD.out, HnS.out] at h1
                rw [Hy.out] at h2
                simp only at h1 h2
                omega))
              have b3 : (yk != 1) = true := by simpa using h3
              go_wp2_with fail
              refine (placed_any 103 k (by omega) _).mono ?_
              rintro e w8 ⟨rfl, hg⟩
              have H8 := hid (HR2.out.kept0 hg)
              have E := hid (H8.out.res.row #[.int .i64 103, .bool true, .int .i64 k])
              have EG := hid (grown_setRow H8.out.g HRb.out #[.int .i64 103, .bool true, .int .i64 k])
              clear hg
              go_wp2_with (first
                | (refine wpList_store_rw rfl 31 _ _ rfl rfl rfl H8.out.res info_flt9 rfl (by simp [Value.oneCell']) ?_)
                | fail)
              refine bodyPost_ret (results_cell_row Tryz.results67 _ _ R _ _ _ _ rfl E.out.blk Tryz.underlying31 rfl info_flt9) rfl ?_
              refine ⟨?_, EG.out⟩
              rw [scanV_some Hb.out H8.out.no Hlt.out]
              rfl
            · have b3 : (yk != 1) = false := by simpa using h3
              by_cases h4 : ys < 0
              · have Hb : Hid (dataF x k = some 2) := hid (dataF_bad (fun h => by
                  have h1 := h.1
                  have h2 := h.2
                  unfold rangeR at h1
                  rw [Hy.out, Hla.out, HnD.out, HnS.out] at h1
                  rw [Hy.out] at h2
                  simp only at h1 h2
                  omega))
                go_wp2_with fail
                refine (placed_any 103 k (by omega) _).mono ?_
                rintro e w8 ⟨rfl, hg⟩
                have H8 := hid (HR2.out.kept0 hg)
                have E := hid (H8.out.res.row #[.int .i64 103, .bool true, .int .i64 k])
                have EG := hid (grown_setRow H8.out.g HRb.out #[.int .i64 103, .bool true, .int .i64 k])
                clear hg
                go_wp2_with (first
                  | (refine wpList_store_rw rfl 31 _ _ rfl rfl rfl H8.out.res info_flt9 rfl (by simp [Value.oneCell']) ?_)
                  | fail)
                refine bodyPost_ret (results_cell_row Tryz.results67 _ _ R _ _ _ _ rfl E.out.blk Tryz.underlying31 rfl info_flt9) rfl ?_
                refine ⟨?_, EG.out⟩
                rw [scanV_some Hb.out H8.out.no Hlt.out]
                rfl
              · by_cases h5 : ys ≥ (nS : Int)
                · have Hb : Hid (dataF x k = some 2) := hid (dataF_bad (fun h => by
                    have h1 := h.1
                    have h2 := h.2
                    unfold rangeR at h1
                    rw [Hy.out, Hla.out, HnD.out, HnS.out] at h1
                    rw [Hy.out] at h2
                    simp only at h1 h2
                    omega))
                  go_wp2_with fail
                  refine (placed_any 103 k (by omega) _).mono ?_
                  rintro e w8 ⟨rfl, hg⟩
                  have H8 := hid (HR2.out.kept0 hg)
                  have E := hid (H8.out.res.row #[.int .i64 103, .bool true, .int .i64 k])
                  have EG := hid (grown_setRow H8.out.g HRb.out #[.int .i64 103, .bool true, .int .i64 k])
                  clear hg
                  go_wp2_with (first
                    | (refine wpList_store_rw rfl 31 _ _ rfl rfl rfl H8.out.res info_flt9 rfl (by simp [Value.oneCell']) ?_)
                    | fail)
                  refine bodyPost_ret (results_cell_row Tryz.results67 _ _ R _ _ _ _ rfl E.out.blk Tryz.underlying31 rfl info_flt9) rfl ?_
                  refine ⟨?_, EG.out⟩
                  rw [scanV_some Hb.out H8.out.no Hlt.out]
                  rfl
                · by_cases h6 : -65536 ≤ yd ∧ yd ≤ 65536
                  · have hfz : (!decide (-65536 ≤ yd ∧ yd ≤ 65536)) = false := by simpa using h6
                    have Hfz := hid hfz
                    clear hfz
                    have Hgood := hid (dataF_good (x := x) (k := k) ⟨by
                      unfold rangeR
                      rw [Hy.out, Hla.out, HnD.out, HnS.out]
                      simp only
                      omega, by rw [Hy.out]; exact Decidable.of_not_not h3⟩)
                    go_wp2_with fail
                    refine (rfar_any yd _).mono ?_
                    rintro e w4 ⟨rfl, rfl⟩
                    rw [Hfz.out]
                    obtain ⟨t, ht⟩ : ∃ t : Nat, ys = (t : Int) := ⟨ys.toNat, by omega⟩
                    have htl : t < nS := by omega
                    subst ht
                    obtain ⟨y, hy⟩ : ∃ y, x.S[t]? = some y := ⟨_, List.getElem?_eq_getElem (by rw [HnS.out]; exact htl)⟩
                    have Hsy : Hid (toB x ⟨ya, yk, (t : Int), yd⟩ = decide (y.i = 1)) := hid (by unfold toB symN; rw [Int.toNat_natCast, List.getD_eq_getElem?_getD, hy]; rfl)
                    obtain ⟨bs, os, cs', hvs, -, hbs, hcs⟩ := (HO.out.kept0 HR2.out.g).s.at_ (by rw [HnS.out]; omega)
                    simp only [Value.slice.injEq] at hvs
                    obtain ⟨rfl, -, -⟩ := hvs
                    have es : w2.cell? ⟨bs, os + t * 4 + 1, none⟩ = some (.int .i64 y.i) := hcs (t * 4 + 1) _ (by rw [sysC_get x.S t 1 _ hy (by decide)]; rfl)
                    have t0 : (0 : Int) ≤ (t : Int) := by omega
                    have t1 : (t : Int) < (nS : Int) := by omega
                    clear hbs hcs hy
                    by_cases hd0 : yd = 0
                    · have hd0b : (yd != 0) = false := by simpa using hd0
                      have Hno : Hid (dataF x k = none) := hid (by rw [Hgood.out, Hy.out]; unfold outB; simp [hd0])
                      go_wp2
                      go_roundw
                      case rel => exact ⟨k + 1, Hlt.out, by go_num, by unfold lastR; rw [if_neg (by omega), Nat.add_sub_cancel, Hy.out], hid ⟨HR2.out.box, HR2.out.res, HR2.out.g, fun j hj => by
                        by_cases e : j = k
                        · rw [e]; exact Hno.out
                        · exact HR2.out.no j (by omega)⟩⟩
                      case measure => simp [intOf]; have := Hlt.out; omega
                    · have hd0b : (yd != 0) = true := by simpa using hd0
                      by_cases hi : y.i = 1
                      · have hib : (y.i != 1) = false := by simpa using hi
                        have Hno : Hid (dataF x k = none) := hid (by rw [Hgood.out, Hy.out]; unfold outB; rw [Hsy.out]; simp [hi])
                        go_wp2
                        go_roundw
                        case rel => exact ⟨k + 1, Hlt.out, by go_num, by unfold lastR; rw [if_neg (by omega), Nat.add_sub_cancel, Hy.out], hid ⟨HR2.out.box, HR2.out.res, HR2.out.g, fun j hj => by
                          by_cases e : j = k
                          · rw [e]; exact Hno.out
                          · exact HR2.out.no j (by omega)⟩⟩
                        case measure => simp [intOf]; have := Hlt.out; omega
                      · have hib : (y.i != 1) = true := by simpa using hi
                        have Hb : Hid (dataF x k = some 1) := hid (by rw [Hgood.out, Hy.out]; unfold outB; rw [Hsy.out]; simp [hi, hd0])
                        go_wp2_with fail
                        refine (placed_any 102 k (by omega) _).mono ?_
                        rintro e w8 ⟨rfl, hg⟩
                        have H8 := hid (HR2.out.kept0 hg)
                        have E := hid (H8.out.res.row #[.int .i64 102, .bool true, .int .i64 k])
                        have EG := hid (grown_setRow H8.out.g HRb.out #[.int .i64 102, .bool true, .int .i64 k])
                        clear hg
                        go_wp2_with (first
                          | (refine wpList_store_rw rfl 31 _ _ rfl rfl rfl H8.out.res info_flt9 rfl (by simp [Value.oneCell']) ?_)
                          | fail)
                        refine bodyPost_ret (results_cell_row Tryz.results67 _ _ R _ _ _ _ rfl E.out.blk Tryz.underlying31 rfl info_flt9) rfl ?_
                        refine ⟨?_, EG.out⟩
                        rw [scanV_some Hb.out H8.out.no Hlt.out]
                        rfl
                  · have hfz : (!decide (-65536 ≤ yd ∧ yd ≤ 65536)) = true := by rw [Bool.not_eq_true', decide_eq_false_iff_not]; exact h6
                    have Hfz := hid hfz
                    clear hfz
                    have Hb : Hid (dataF x k = some 2) := hid (dataF_bad (fun h => by
                      have h1 := h.1
                      have h2 := h.2
                      unfold rangeR at h1
                      rw [Hy.out, Hla.out, HnD.out, HnS.out] at h1
                      rw [Hy.out] at h2
                      simp only at h1 h2
                      omega))
                    go_wp2_with fail
                    refine (rfar_any yd _).mono ?_
                    rintro e w4 ⟨rfl, rfl⟩
                    rw [Hfz.out]
                    go_wp2_with fail
                    refine (placed_any 103 k (by omega) _).mono ?_
                    rintro e w8 ⟨rfl, hg⟩
                    have H8 := hid (HR2.out.kept0 hg)
                    have E := hid (H8.out.res.row #[.int .i64 103, .bool true, .int .i64 k])
                    have EG := hid (grown_setRow H8.out.g HRb.out #[.int .i64 103, .bool true, .int .i64 k])
                    clear hg
                    go_wp2_with (first
                      | (refine wpList_store_rw rfl 31 _ _ rfl rfl rfl H8.out.res info_flt9 rfl (by simp [Value.oneCell']) ?_)
                      | fail)
                    refine bodyPost_ret (results_cell_row Tryz.results67 _ _ R _ _ _ _ rfl E.out.blk Tryz.underlying31 rfl info_flt9) rfl ?_
                    refine ⟨?_, EG.out⟩
                    rw [scanV_some Hb.out H8.out.no Hlt.out]
                    rfl
    · obtain rfl : k = N := by omega
      have kn : ¬ ((k : Int) < (k : Int)) := by omega
      clear hlt
      have HRk := hid HR.out
      clear HR
      go_wp2_with fail
      refine (nofault_any _).mono ?_
      rintro e w8 ⟨rfl, hg⟩
      have H8 := hid (HRk.out.kept0 hg)
      have E := hid (H8.out.res.row #[.int .i64 0, .bool false, .int .i64 0])
      have EG := hid (grown_setRow H8.out.g HRb.out #[.int .i64 0, .bool false, .int .i64 0])
      clear hg
      go_wp2_with (first
        | (refine wpList_store_rw rfl 31 _ _ rfl rfl rfl H8.out.res info_flt9 rfl (by simp [Value.oneCell']) ?_)
        | fail)
      refine bodyPost_ret (results_cell_row Tryz.results67 _ _ R _ _ _ _ rfl E.out.blk Tryz.underlying31 rfl info_flt9) rfl ?_
      refine ⟨?_, EG.out⟩
      rw [scanV_none H8.out.no]
      rfl
end Go.Proofs.YtgahbpfmiibpeaaGreatDoor
