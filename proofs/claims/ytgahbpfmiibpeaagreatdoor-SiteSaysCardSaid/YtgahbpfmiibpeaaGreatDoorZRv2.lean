/- The document's objects (facaderef9): code: contract. (Made by gorv2.py.) -/
import Derived.Test.YtgahbpfmiibpeaaGreatDoorZGRvS
namespace Go.Proofs.YtgahbpfmiibpeaaGreatDoor
open Go.RowKit
set_option maxRecDepth 100000 in
set_option maxHeartbeats 16000000 in
theorem rcode_any {W : World} {V : OV} {x : PO} (h : OAt W V x) (hf : OFit x) (hl : x.M.length = x.C.length) (hn : x.C.length ≤ 1000000) :
    Calls Tryz.prog 65 #[V.agg, .bool false] W fun e w' => e = .returned (flV (scanV (rwordF x) x.C.length)) ∧ W.grownBy w' none := by
  obtain ⟨d, c, m, r, q, s⟩ := V
  obtain ⟨cp, cc, hcv⟩ := h.c.len'
  obtain ⟨mp, mc, hmv⟩ := h.m.len'
  simp only at hcv hmv
  rw [hl] at hmv
  subst hcv; subst hmv
  obtain ⟨n, hne⟩ : ∃ n, x.C.length = n := ⟨_, rfl⟩
  rw [hne] at h hn ⊢
  have Hne := hid hne
  have HO := hid h
  have HF := hid hf
  have Hl := hid hl
  have HB0 := hid (RwAt.new W 27 #[d, .slice cp n cc, .slice mp n mc, r, q, s])
  have n0 : (0 : Int) ≤ (n : Int) := by omega
  have n1 : (n : Int) ≤ 1000000 := by omega
  have Hn := hid hn
  clear h hf hl hne hn
  have Hz := zero_flt
  go_enter Tryz.func65, Tryz.ntmps65
  go_upto_region 1 with (fail)
  clear Hz
  have HRC : Hid (RCw W ((W.alloc (.cells #[d, .slice cp n cc, .slice mp n mc, r, q, s] 27)).alloc (.cells #[.int .i64 0, .bool false, .int .i64 0] 31)) W.heap.size (W.heap.size + 1) ⟨d, .slice cp n cc, .slice mp n mc, r, q, s⟩ (rwordF x) 0) := hid ⟨HB0.out.alloc _, RwAt.new2 _ _ _ _, grown_trans (World.grownBy_alloc _ _ none) (World.grownBy_alloc _ _ none), fun j hj => absurd hj (by omega)⟩
  obtain ⟨R, hR⟩ : ∃ R, W.heap.size + 1 = R := ⟨_, rfl⟩
  have HRb : Hid (W.heap.size ≤ R) := hid (by omega)
  obtain ⟨G, hG⟩ : ∃ G, W.heap.size = G := ⟨_, rfl⟩
  rw [hR, hG] at HRC
  clear HB0
  generalize (W.alloc (.cells #[d, .slice cp n cc, .slice mp n mc, r, q, s] 27)).alloc (.cells #[.int .i64 0, .bool false, .int .i64 0] 31) = w1 at HRC ⊢
  try rw [hR]
  try rw [hG]
  clear hR hG
  go_wp2
  go_loopw [5] (fun i wr => ∃ k : Nat, k ≤ n ∧ i = .int .i64 k ∧ Hid (RCw W wr G R ⟨d, .slice cp n cc, .slice mp n mc, r, q, s⟩ (rwordF x) k)) (fun i _ => n - (intOf i).toNat)
  case atStart => exact ⟨0, Nat.zero_le _, rfl, HRC⟩
  case round =>
    obtain ⟨k, hk, rfl, HR⟩ := hrel
    have k0 : (0 : Int) ≤ (k : Int) := by omega
    have e1 := HR.out.box.cell 1 (v := .slice cp n cc) rfl
    by_cases hlt : k < n
    · have kn : (k : Int) < (n : Int) := by omega
      have Hlt := hid hlt
      obtain ⟨y, hy⟩ : ∃ y, x.C[k]? = some y := ⟨_, List.getElem?_eq_getElem (by rw [Hne.out]; exact hlt)⟩
      obtain ⟨mk, hm⟩ : ∃ mk, x.M[k]? = some mk := ⟨_, List.getElem?_eq_getElem (by rw [Hl.out, Hne.out]; exact hlt)⟩
      have Hy := hid hy
      have Hyd : Hid (x.C.getD k 0 = y) := hid (by rw [List.getD_eq_getElem?_getD, hy]; rfl)
      have Hyr := hid (HF.out.c y (List.mem_of_getElem? hy))
      have Hmap : Hid (mapN x k = mk) := hid (by unfold mapN; rw [List.getD_eq_getElem?_getD, hm]; rfl)
      obtain ⟨bm, om, cm, hvm, hbm, hcm⟩ := (HO.out.kept0 HR.out.g).m.at_ (by rw [Hl.out, Hne.out]; omega)
      simp only [Value.slice.injEq] at hvm
      obtain ⟨rfl, -, -⟩ := hvm
      have em := hcm k mk hm
      have HCM := hid hcm
      have e2 := HR.out.box.cell 2 (v := .slice (some ⟨bm, om, none⟩) n mc) rfl
      clear hbm hcm hm hy hlt
      go_upto_block 2 with fail
      go_cut [6, 7, 8, 9, 10, 11] from 24 to 109 (fun u6 u7 u8 u9 u10 u11 wz => ∃ z : Int, u6 = .int .i64 z ∧ Hid (z = badI (rwordF x k) ∧ RCw W wz G R ⟨d, .slice cp n cc, .slice (some ⟨bm, om, none⟩) n mc, r, q, s⟩ (rwordF x) k))
      case first =>
        by_cases h0 : mk = 0
        · subst h0
          by_cases hk0 : k = 0
          · subst hk0
            have hb : rwordF x 0 = some 8 := by unfold rwordF; rw [if_pos Hmap.out, if_neg (by omega)]
            have kz : ¬ ((0 : Int) > 0) := by omega
            have kz2 : (((0 : Nat) : Int) > 0) = False := by simp
            go_wp2
            go_meet
            exact ⟨109, rfl, hid ⟨by rw [hb]; rfl, HR.out⟩⟩
          · obtain ⟨j, rfl⟩ : ∃ j, k = j + 1 := ⟨k - 1, by omega⟩
            have kp : ((j + 1 : Nat) : Int) > 0 := by omega
            have kj : ((j + 1 : Nat) : Int) - 1 = (j : Int) := by omega
            have j0 : (0 : Int) ≤ (j : Int) := by omega
            have jn : (j : Int) < (n : Int) := by omega
            obtain ⟨mp1, hmp⟩ : ∃ mp1, x.M[j]? = some mp1 := ⟨_, List.getElem?_eq_getElem (by rw [Hl.out, Hne.out]; have := Hlt.out; omega)⟩
            obtain ⟨yp, hyp⟩ : ∃ yp, x.C[j]? = some yp := ⟨_, List.getElem?_eq_getElem (by rw [Hne.out]; have := Hlt.out; omega)⟩
            have Hmp : Hid (mapN x j = mp1) := hid (by unfold mapN; rw [List.getD_eq_getElem?_getD, hmp]; rfl)
            have Hop : Hid (wOp x j = yp / 16777216) := hid (by unfold wOp; rw [List.getD_eq_getElem?_getD, hyp]; rfl)
            have hypr := HF.out.c yp (List.mem_of_getElem? hyp)
            have yp0 := hypr.1
            have yp1 := hypr.2
            have emp := HCM.out j mp1 hmp
            obtain ⟨bc, oc, c', hvc, hbc, hcc⟩ := (HO.out.kept0 HR.out.g).c.at_ (by rw [Hne.out]; have := Hlt.out; omega)
            simp only [Value.slice.injEq] at hvc
            obtain ⟨rfl, -, -⟩ := hvc
            have eyp := hcc j yp hyp
            clear hmp hyp hbc hcc hypr hk0
            by_cases h1 : mp1 = 1
            · subst h1
              cases htw : twoB (yp / 16777216)
              · have hb : rwordF x (j + 1) = some 8 := by
                  unfold rwordF
                  rw [if_pos Hmap.out, if_neg (by rw [Nat.add_sub_cancel, Hop.out, htw]; simp)]
                have HT := hid htw
                clear htw
                go_wp2_with fail
                refine (rtwo_any (yp / 16777216) _).mono ?_
                rintro e w5 ⟨rfl, rfl⟩
                rw [HT.out]
                go_wp2
                go_meet
                exact ⟨109, rfl, hid ⟨by rw [hb]; rfl, HR.out⟩⟩
              · have hb : rwordF x (j + 1) = none := by
                  unfold rwordF
                  rw [if_pos Hmap.out, if_pos ⟨by omega, by rw [Nat.add_sub_cancel]; exact Hmp.out, by rw [Nat.add_sub_cancel, Hop.out]; exact htw⟩]
                have HT := hid htw
                clear htw
                go_wp2_with fail
                refine (rtwo_any (yp / 16777216) _).mono ?_
                rintro e w5 ⟨rfl, rfl⟩
                rw [HT.out]
                go_wp2
                go_meet
                exact ⟨0, rfl, hid ⟨by rw [hb]; rfl, HR.out⟩⟩
            · have hb : rwordF x (j + 1) = some 8 := by
                unfold rwordF
                rw [if_pos Hmap.out, if_neg (by rw [Nat.add_sub_cancel, Hmp.out]; simp [h1])]
              have h1b : (mp1 == 1) = false := by simpa using h1
              clear h1
              go_wp2
              go_meet
              exact ⟨109, rfl, hid ⟨by rw [hb]; rfl, HR.out⟩⟩
        · by_cases h1 : mk = 1
          · subst h1
            have h10 : ((1 : Int) == 0) = false := by decide
            obtain ⟨j, hj⟩ : ∃ j, secN x k = j := ⟨_, rfl⟩
            obtain ⟨bi, hbi⟩ : ∃ bi, wIns x k = bi := ⟨_, rfl⟩
            obtain ⟨q0, q1, q2, q3, q4, hof, hq0⟩ := ofV_word Hyd.out
            rw [hj, hbi] at hof
            rw [hbi] at hq0
            have Hq0 := hid hq0
            have Hbi := hid hbi
            have Hjr : Hid (0 ≤ j ∧ j < 4294967296) := hid (by rw [← hj]; exact sec9_fit HF.out k)
            have dr := grown_drew (grown_refl wr none)
            have HRd := hid (HR.out.kept0 dr)
            have HQ1 : Hid (∀ W' : World, W.grownBy W' none → Calls Tryz.prog 51 #[.agg #[d, .slice cp n cc, .slice (some ⟨bm, om, none⟩) n mc, r, q, s], .int .i64 k] W' fun e w' => e = .returned (.int .u32 j) ∧ W'.grownBy w' none) := hid (fun W' hW => by
              rw [← hj]
              exact second_any (V := ⟨d, .slice cp n cc, .slice (some ⟨bm, om, none⟩) n mc, r, q, s⟩) (HO.out.kept0 hW) (by rw [Hne.out]; exact Hlt.out) (by rw [Hne.out]; exact Hn.out))
            have HQ2 : Hid (∀ W' : World, Calls Tryz.prog 50 #[.int .u32 y, .int .u32 j] W' fun e w' => e = .returned (.tuple #[.agg #[.int .i64 q0, .int .i64 q1, .int .i64 q2, .int .i64 q3, .int .u32 q4], .bool bi]) ∧ W'.grownBy w' none) := hid (fun W' => by
              rw [← hof]
              exact rof_any y j W' Hyr.out.1 Hyr.out.2)
            clear hj hbi hof hq0 dr
            obtain ⟨bc, oc, c', hvc, hbc, hcc⟩ := (HO.out.kept0 HRd.out.g).c.at_ (by rw [Hne.out]; have := Hlt.out; omega)
            simp only [Value.slice.injEq] at hvc
            obtain ⟨rfl, -, -⟩ := hvc
            have eyd := hcc k y Hy.out
            have HEy := hid (And.intro hbc eyd)
            have g0 := HRd.out.box.cell 0 (v := d) rfl
            have g1 := HRd.out.box.cell 1 (v := .slice (some ⟨bc, oc, none⟩) n cc) rfl
            have g2 := HRd.out.box.cell 2 (v := .slice (some ⟨bm, om, none⟩) n mc) rfl
            have g3 := HRd.out.box.cell 3 (v := r) rfl
            have g4 := HRd.out.box.cell 4 (v := q) rfl
            have g5 := HRd.out.box.cell 5 (v := s) rfl
            clear hbc hcc
            go_upto_region 12 with (fail)
            go_cut [8, 9] from 52 to 64 (fun u8 u9 wz => ∃ X, u8 = .pointer (some ⟨X, 0, none⟩) ∧ u9 = .bool bi ∧ Hid (RwAt wz X 48 #[.int .i64 q0, .int .i64 q1, .int .i64 q2, .int .i64 q3, .int .u32 q4] ∧ wr.drew.grownBy wz none))
            case first =>
              rename_i hJ0 hJ
              have Hz9 := zero_ins9
              have HZr := hid (RwAt.new wr.drew 48 #[.int .i64 0, .int .i64 0, .int .i64 0, .int .i64 0, .int .u32 0])
              have HRz := hid (HR.out.kept0 (World.grownBy_alloc wr (.cells #[.int .i64 0, .int .i64 0, .int .i64 0, .int .i64 0, .int .u32 0] 48) none))
              have ga0 : (wr.alloc (.cells #[.int .i64 0, .int .i64 0, .int .i64 0, .int .i64 0, .int .u32 0] 48)).cell? ⟨G, 0, none⟩ = some (d) := HRz.out.box.cell 0 (v := d) rfl
              have ga1 : (wr.alloc (.cells #[.int .i64 0, .int .i64 0, .int .i64 0, .int .i64 0, .int .u32 0] 48)).cell? ⟨G, 1, none⟩ = some (.slice (some ⟨bc, oc, none⟩) n cc) := HRz.out.box.cell 1 (v := .slice (some ⟨bc, oc, none⟩) n cc) rfl
              have ga2 : (wr.alloc (.cells #[.int .i64 0, .int .i64 0, .int .i64 0, .int .i64 0, .int .u32 0] 48)).cell? ⟨G, 2, none⟩ = some (.slice (some ⟨bm, om, none⟩) n mc) := HRz.out.box.cell 2 (v := .slice (some ⟨bm, om, none⟩) n mc) rfl
              have ga3 : (wr.alloc (.cells #[.int .i64 0, .int .i64 0, .int .i64 0, .int .i64 0, .int .u32 0] 48)).cell? ⟨G, 3, none⟩ = some (r) := HRz.out.box.cell 3 (v := r) rfl
              have ga4 : (wr.alloc (.cells #[.int .i64 0, .int .i64 0, .int .i64 0, .int .i64 0, .int .u32 0] 48)).cell? ⟨G, 4, none⟩ = some (q) := HRz.out.box.cell 4 (v := q) rfl
              have ga5 : (wr.alloc (.cells #[.int .i64 0, .int .i64 0, .int .i64 0, .int .i64 0, .int .u32 0] 48)).cell? ⟨G, 5, none⟩ = some (s) := HRz.out.box.cell 5 (v := s) rfl
              have eyz : (wr.alloc (.cells #[.int .i64 0, .int .i64 0, .int .i64 0, .int .i64 0, .int .u32 0] 48)).cell? ⟨bc, oc + k, none⟩ = some (.int .u32 y) := (grown_cell (World.grownBy_alloc wr (.cells #[.int .i64 0, .int .i64 0, .int .i64 0, .int .i64 0, .int .u32 0] 48) none) HEy.out.1 (by simp)).trans HEy.out.2
              go_region_law (first
                | (go_simp
                   go_at_call 51
                   refine (HQ1.out _ (by first | exact HRd.out.g | exact grown_trans HRd.out.g (World.grownBy_alloc _ _ none))).mono ?_
                   rintro e w5 ⟨rfl, hg⟩
                   have hg2 : wr.drew.grownBy w5 none := by first | exact hg | exact grown_trans (World.grownBy_alloc _ _ none) hg
                   have HG5 := hid hg2
                   have e15 := (HRd.out.kept0 hg2).box.cell 1 (v := .slice (some ⟨bc, oc, none⟩) n cc) rfl
                   have ey5 : w5.cell? ⟨bc, oc + k, none⟩ = some (.int .u32 y) := (grown_cell hg2 HEy.out.1 (by simp)).trans HEy.out.2
                   try have HX5 : Hid (RwAt w5 wr.heap.size 48 #[.int .i64 0, .int .i64 0, .int .i64 0, .int .i64 0, .int .u32 0]) := hid ((RwAt.new wr.drew 48 #[.int .i64 0, .int .i64 0, .int .i64 0, .int .i64 0, .int .u32 0]).kept0 hg)
                   try have HX5 : Hid (RwAt w5 wr.heap.size 48 #[.int .i64 0, .int .i64 0, .int .i64 0, .int .i64 0, .int .u32 0]) := hid (HZr.out.kept0 hg)
                   have e15z : (w5.alloc (.cells #[.int .i64 0, .int .i64 0, .int .i64 0, .int .i64 0, .int .u32 0] 48)).cell? ⟨G, 1, none⟩ = some (.slice (some ⟨bc, oc, none⟩) n cc) := (HRd.out.kept0 (grown_trans hg2 (World.grownBy_alloc w5 (.cells #[.int .i64 0, .int .i64 0, .int .i64 0, .int .i64 0, .int .u32 0] 48) none))).box.cell 1 (v := .slice (some ⟨bc, oc, none⟩) n cc) rfl
                   have ey5z : (w5.alloc (.cells #[.int .i64 0, .int .i64 0, .int .i64 0, .int .i64 0, .int .u32 0] 48)).cell? ⟨bc, oc + k, none⟩ = some (.int .u32 y) := (grown_cell (grown_trans hg2 (World.grownBy_alloc w5 (.cells #[.int .i64 0, .int .i64 0, .int .i64 0, .int .i64 0, .int .u32 0] 48) none)) HEy.out.1 (by simp)).trans HEy.out.2
                   clear hg hg2)
                | (go_simp
                   go_at_call 50
                   refine (HQ2.out _).mono ?_
                   rintro e w6 ⟨rfl, hg⟩
                   have hg2 : w5.grownBy w6 none := by first | exact hg | exact grown_trans (World.grownBy_alloc _ _ none) hg
                   have HG6 := hid (grown_trans HG5.out hg2)
                   try have HX6 := hid ((RwAt.new w5 48 #[.int .i64 0, .int .i64 0, .int .i64 0, .int .i64 0, .int .u32 0]).kept0 hg)
                   try have HX6 := hid (HX5.out.kept0 hg2)
                   try have x0 := HX6.out.cell 0 (v := .int .i64 0) rfl
                   try have z0 := HX6.out.free 0
                   try have x1 := HX6.out.cell 1 (v := .int .i64 0) rfl
                   try have z1 := HX6.out.free 1
                   try have x2 := HX6.out.cell 2 (v := .int .i64 0) rfl
                   try have z2 := HX6.out.free 2
                   try have x3 := HX6.out.cell 3 (v := .int .i64 0) rfl
                   try have z3 := HX6.out.free 3
                   try have x4 := HX6.out.cell 4 (v := .int .u32 0) rfl
                   try have z4 := HX6.out.free 4
                   clear hg hg2)
                | fail)
              all_goals
                go_simp
                refine hJ _ _ (Met.intro (hJ0 _ _ ?_))
                (repeat apply Exists.intro)
                refine ⟨?_, rfl⟩
                first
                  | exact cut_set q0 q1 q2 q3 q4 bi HX6.out HG6.out (by first | exact HG5.out.size | exact Nat.le_refl _)
                  | exact cut_new q0 q1 q2 q3 q4 bi HG6.out
            case rest =>
              obtain ⟨X, rfl, rfl, HXX⟩ := hcut
              have HRx := hid (HRd.out.kept0 HXX.out.2)
              have HX := hid HXX.out.1
              clear HXX HRd HQ2 g0 g1 g2 g3 g4 g5 HEy eyd
              go_wp2_with (first
                | (refine wpList_load_rw rfl 27 _ rfl rfl HRx.out.box rfl Tryz.underlying27 info_object ?_)
                | fail)
              refine (HQ1.out _ HRx.out.g).mono ?_
              rintro e w5 ⟨rfl, hg⟩
              have HR5 := hid (HRx.out.kept0 hg)
              have HX5 := hid (HX.out.kept0 hg)
              clear hg HRx HX
              go_wp2_with fail
              refine (rback_any j _ Hjr.out.1 Hjr.out.2).mono ?_
              rintro e w6 ⟨⟨u0, u1, u2, u3, u4, ut, rfl⟩, hg⟩
              have HR6 := hid (HR5.out.kept0 hg)
              have HX6 := hid (HX5.out.kept0 hg)
              have al := World.grownBy_alloc w6 (.cells #[.int .i64 u0, .int .i64 u1, .int .i64 u2, .int .i64 u3, .int .u32 u4] 48) none
              have HR7 := hid (HR6.out.kept0 al)
              have HX7 := hid (HX6.out.kept0 al)
              clear hg al HR5 HX5 HR6 HX6
              go_upto_region 14 with (fail)
              generalize w6.alloc (.cells #[.int .i64 u0, .int .i64 u1, .int .i64 u2, .int .i64 u3, .int .u32 u4] 48) = w7 at HR7 HX7 ⊢
              have x0 := HX7.out.cell 0 (v := .int .i64 q0) rfl
              have Hm0 : Hid (mapN x k ≠ 0) := hid (by rw [Hmap.out]; decide)
              cases bi with
              | false =>
                have hb : rwordF x k = some 4 := by unfold rwordF; rw [if_neg Hm0.out, if_pos Hmap.out, if_pos (.inl Hbi.out)]
                go_wp2
                go_meet
                exact ⟨105, rfl, hid ⟨by rw [hb]; rfl, HR7.out⟩⟩
              | true =>
                have hq : wOp x k = q0 := (Hq0.out rfl).symm
                have Hq := hid hq
                clear hq
                by_cases h96 : q0 = 96
                · have hb : rwordF x k = some 4 := by unfold rwordF; rw [if_neg Hm0.out, if_pos Hmap.out, if_pos (.inr (by rw [Hq.out]; exact h96))]
                  subst h96
                  go_wp2
                  go_meet
                  exact ⟨105, rfl, hid ⟨by rw [hb]; rfl, HR7.out⟩⟩
                · have h96b : (q0 == 96) = false := by simpa using h96
                  have Hn4 : Hid (¬ (wIns x k = false ∨ wOp x k = 96)) := hid (by rw [Hbi.out, Hq.out]; simp [h96])
                  clear h96
                  cases htw : twoB q0
                  · have hb : rwordF x k = none := by unfold rwordF; rw [if_neg Hm0.out, if_pos Hmap.out, if_neg Hn4.out, if_neg (by rw [Hq.out, htw]; simp)]
                    have HT := hid htw
                    clear htw
                    go_wp2_with fail
                    refine (rtwo_any q0 _).mono ?_
                    rintro e w8 ⟨rfl, rfl⟩
                    rw [HT.out]
                    go_wp2
                    go_meet
                    exact ⟨0, rfl, hid ⟨by rw [hb]; rfl, HR7.out⟩⟩
                  · have HT := hid htw
                    clear htw
                    have f1 := HR7.out.box.cell 1 (v := .slice (some ⟨bc, oc, none⟩) n cc) rfl
                    have f2 := HR7.out.box.cell 2 (v := .slice (some ⟨bm, om, none⟩) n mc) rfl
                    by_cases hend : k + 1 = n
                    · have hb : rwordF x k = some 8 := by unfold rwordF; rw [if_neg Hm0.out, if_pos Hmap.out, if_neg Hn4.out, if_pos ⟨by rw [Hq.out]; exact HT.out, .inl (by rw [Hne.out]; exact hend)⟩]
                      have hge : (k : Int) + 1 ≥ (n : Int) := by omega
                      clear hend
                      go_wp2_with fail
                      refine (rtwo_any q0 _).mono ?_
                      rintro e w8 ⟨rfl, rfl⟩
                      rw [HT.out]
                      go_wp2
                      go_meet
                      exact ⟨109, rfl, hid ⟨by rw [hb]; rfl, HR7.out⟩⟩
                    · obtain ⟨m1, hm1⟩ : ∃ m1, x.M[k + 1]? = some m1 := ⟨_, List.getElem?_eq_getElem (by rw [Hl.out, Hne.out]; have := Hlt.out; omega)⟩
                      have Hm1 : Hid (mapN x (k + 1) = m1) := hid (by unfold mapN; rw [List.getD_eq_getElem?_getD, hm1]; rfl)
                      obtain ⟨bm', om', cm', hvm', hbm', hcm'⟩ := (HO.out.kept0 HR7.out.g).m.at_ (by rw [Hl.out, Hne.out]; have := Hlt.out; omega)
                      simp only [Value.slice.injEq, Option.some.injEq, Addr.mk.injEq, and_true] at hvm'
                      obtain ⟨⟨rfl, rfl⟩, -, -⟩ := hvm'
                      have em1 : w7.cell? ⟨bm, om + (k + 1), none⟩ = some (.int .u8 m1) := hcm' (k + 1) m1 hm1
                      have em2 : w7.cell? ⟨bm, om + k + 1, none⟩ = some (.int .u8 m1) := em1
                      have hge : ¬ ((k : Int) + 1 ≥ (n : Int)) := by have := Hlt.out; omega
                      have hltn : (k : Int) + 1 < (n : Int) := by have := Hlt.out; omega
                      have Hend := hid hend
                      clear hbm' hcm' hm1 hend
                      by_cases hm10 : m1 = 0
                      · have hb : rwordF x k = none := by
                          unfold rwordF
                          rw [if_neg Hm0.out, if_pos Hmap.out, if_neg Hn4.out, if_neg (by
                            rintro ⟨_, h | h⟩
                            · exact Hend.out (by rw [← Hne.out]; exact h)
                            · exact h (by rw [Hm1.out]; exact hm10))]
                        subst hm10
                        go_wp2_with fail
                        refine (rtwo_any q0 _).mono ?_
                        rintro e w8 ⟨rfl, rfl⟩
                        rw [HT.out]
                        go_wp2
                        go_meet
                        exact ⟨0, rfl, hid ⟨by rw [hb]; rfl, HR7.out⟩⟩
                      · have hb : rwordF x k = some 8 := by unfold rwordF; rw [if_neg Hm0.out, if_pos Hmap.out, if_neg Hn4.out, if_pos ⟨by rw [Hq.out]; exact HT.out, .inr (by rw [Hm1.out]; exact hm10)⟩]
                        have hm1b : (m1 != 0) = true := by simpa using hm10
                        clear hm10
                        go_wp2_with fail
                        refine (rtwo_any q0 _).mono ?_
                        rintro e w8 ⟨rfl, rfl⟩
                        rw [HT.out]
                        go_wp2
                        go_meet
                        exact ⟨109, rfl, hid ⟨by rw [hb]; rfl, HR7.out⟩⟩
          · by_cases h2 : mk = 2
            · subst h2
              have hb : rwordF x k = none := by unfold rwordF; rw [if_neg (by rw [Hmap.out]; decide), if_neg (by rw [Hmap.out]; decide), if_pos Hmap.out]
              go_wp2
              go_meet
              exact ⟨0, rfl, hid ⟨by rw [hb]; rfl, HR.out⟩⟩
            · have hb : rwordF x k = some 8 := by unfold rwordF; rw [if_neg (by rw [Hmap.out]; exact h0), if_neg (by rw [Hmap.out]; exact h1), if_neg (by rw [Hmap.out]; exact h2)]
              have b0 : (mk == 0) = false := by simpa using h0
              have b1 : (mk == 1) = false := by simpa using h1
              have b2 : (mk == 2) = false := by simpa using h2
              clear h0 h1 h2
              go_wp2
              go_meet
              exact ⟨109, rfl, hid ⟨by rw [hb]; rfl, HR.out⟩⟩
      case rest =>
        obtain ⟨z, rfl, HZ⟩ := hcut
        by_cases hz0 : z = 0
        · have hno : rwordF x k = none := badI_zero.1 (by rw [← HZ.out.1]; exact hz0)
          subst hz0
          have HNo := hid hno
          clear hno
          go_wp2
          go_roundw
          case rel => exact ⟨k + 1, Hlt.out, by go_num, hid ⟨HZ.out.2.box, HZ.out.2.res, HZ.out.2.g, fun j hj => by
            by_cases e : j = k
            · rw [e]; exact HNo.out
            · exact HZ.out.2.no j (by omega)⟩⟩
          case measure => simp [intOf]; have := Hlt.out; omega
        · obtain ⟨cd, hcd⟩ : ∃ cd, rwordF x k = some cd := by
            cases h : rwordF x k with
            | none => exact absurd (by rw [HZ.out.1, h]; rfl) hz0
            | some c => exact ⟨c, rfl⟩
          have hze : z = ((101 + cd : Nat) : Int) := by rw [HZ.out.1, hcd]; rfl
          have Hze := hid hze
          have Hcd := hid hcd
          have HZ2 := hid HZ.out.2
          have HnZ := hid hz0
          have hzb : (z != 0) = true := by simpa using hz0
          clear hze hcd HZ hz0
          go_wp2_with fail
          refine (placed_any z k HnZ.out _).mono ?_
          rintro e w8 ⟨rfl, hg⟩
          have H8 := hid (HZ2.out.kept0 hg)
          have E := hid (H8.out.res.row #[.int .i64 z, .bool true, .int .i64 k])
          have EG := hid (grown_setRow H8.out.g HRb.out #[.int .i64 z, .bool true, .int .i64 k])
          clear hg
          go_wp2_with (first
            | (refine wpList_store_rw rfl 31 _ _ rfl rfl rfl H8.out.res info_flt9 rfl (by simp [Value.oneCell']) ?_)
            | fail)
          refine bodyPost_ret (results_cell_row Tryz.results65 _ _ R _ _ _ _ rfl E.out.blk Tryz.underlying31 rfl info_flt9) rfl ?_
          refine ⟨?_, EG.out⟩
          rw [scanV_some Hcd.out H8.out.no Hlt.out, Hze.out]
          rfl
    · obtain rfl : k = n := by omega
      have kn : ¬ ((k : Int) < (k : Int)) := by omega
      clear hlt
      have HRk := hid HR.out
      clear HR
      go_wp2_with fail
      refine (nofault_any _).mono ?_
      rintro e w8 ⟨rfl, hg⟩
      have H8 := hid (HRk.out.kept0 hg)
      have E := hid (H8.out.res.row #[.int .i64 0, .bool false, .int .i64 0])
      have EG := hid (grown_setRow H8.out.g HRb.out #[.int .i64 0, .bool false, .int .i64 0])
      clear hg
      go_wp2_with (first
        | (refine wpList_store_rw rfl 31 _ _ rfl rfl rfl H8.out.res info_flt9 rfl (by simp [Value.oneCell']) ?_)
        | fail)
      refine bodyPost_ret (results_cell_row Tryz.results65 _ _ R _ _ _ _ rfl E.out.blk Tryz.underlying31 rfl info_flt9) rfl ?_
      refine ⟨?_, EG.out⟩
      rw [scanV_none H8.out.no]
      rfl
end Go.Proofs.YtgahbpfmiibpeaaGreatDoor
