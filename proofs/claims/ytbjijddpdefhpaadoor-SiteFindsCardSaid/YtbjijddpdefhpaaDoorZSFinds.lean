/- The law SiteFinds: walked. -/
import Derived.Test.YtbjijddpdefhpaaDoorZGSay
import Derived.Test.YtbjijddpdefhpaaDoorZObjL
import Derived.Test.YtbjijddpdefhpaaDoorZOBent0
import Derived.Deep.Cut
import Derived.Deep.RegionHeld3
import Derived.StillTailTactics
namespace Go.Proofs.YtbjijddpdefhpaaDoor
open Go.RowKit
/-- what stands beside the loop: the object in the box G, its sites -/
structure SFw (W w : World) (G : Nat) (V : OV) (x : PO) (v : Value) : Prop where
  box : RwAt w G 37 #[V.d, V.c, V.m, V.r, V.q, V.s]
  g : W.grownBy w none
  st : CsAt w v (siL x (stL x x.C.length)).length (sisC x (siL x (stL x x.C.length)))
theorem SFw.kept0 {W w w1 : World} {G : Nat} {V : OV} {x : PO} {v : Value} (h : SFw W w G V x v) (hg : w.grownBy w1 none) : SFw W w1 G V x v := ⟨h.box.kept0 hg, grown_trans h.g hg, h.st.kept0 hg⟩
set_option maxRecDepth 100000 in
set_option maxHeartbeats 16000000 in
theorem finds_walk (V : OV) (x : PO) (W : World) (A : Nat → Addr) (hS : ErrC W A) (h : OAt W V x) (hf : OFit x) :
    Calls Tryd.prog 4 #[V.agg] W fun e W' => e = .returned (.bool true) ∧ Below W.heap.size W W' := by
  obtain ⟨d, c, m, r, q, s⟩ := V
  have HB0 := hid (RwAt.new W 37 #[d, c, m, r, q, s])
  have HG0 := hid (World.grownBy_alloc W (.cells #[d, c, m, r, q, s] 37) none)
  have HO := hid h
  have HE := hid hS
  have HF := hid hf
  clear h hS hf
  go_enter Tryd.func4, Tryd.ntmps4
  go_upto_region 1 with (fail)
  obtain ⟨G, hG⟩ : ∃ G, W.heap.size = G := ⟨_, rfl⟩
  rw [hG] at HB0 ⊢
  clear hG
  generalize W.alloc (.cells #[d, c, m, r, q, s] 37) = w1 at HB0 HG0 ⊢
  go_wp2_with fail
  refine (first10_any (HE.out.kept0 HG0.out)).mono ?_
  rintro e w2 ⟨rfl, hg⟩
  have HB2 := hid (HB0.out.kept0 hg)
  have HG2 := hid (grown_trans HG0.out hg)
  clear hg HB0 HG0
  go_wp2_with (first
    | (refine wpList_load_rw rfl 37 _ rfl rfl HB2.out rfl Tryd.underlying37 info_object ?_)
    | fail)
  refine (light_any (V := ⟨d, c, m, r, q, s⟩) (HO.out.kept0 HG2.out) HF.out 200 (by omega) (by omega)).mono ?_
  rintro e w3 ⟨⟨li, rfl, hli⟩, hg⟩
  have HB3 := hid (HB2.out.kept0 hg)
  have HG3 := hid (grown_trans HG2.out hg)
  clear hg HB2 HG2
  cases li with
  | false =>
    go_wp2
    go_ret
    exact ⟨rfl, grown_below HG3.out⟩
  | true =>
    have HLi := hid (hli rfl)
    clear hli
    go_wp2_with (first
      | (refine wpList_load_rw rfl 37 _ rfl rfl HB3.out rfl Tryd.underlying37 info_object ?_)
      | fail)
    by_cases hv : validP x = none
    · refine (sites_yes (V := ⟨d, c, m, r, q, s⟩) (HO.out.kept0 HG3.out) (HE.out.kept0 HG3.out) HF.out hv).mono ?_
      rintro e w4 ⟨v, rfl, hown, hg⟩
      obtain ⟨vp, vc, rfl⟩ := own_slice hown
      have HSF : Hid (SFw W w4 G ⟨d, c, m, r, q, s⟩ x _) := hid ⟨HB3.out.kept0 hg, grown_trans HG3.out hg, CsAt.own hown⟩
      have Hok := hid (valid_ok hv)
      obtain ⟨N, hN⟩ : ∃ N, (siL x (stL x x.C.length)).length = N := ⟨_, rfl⟩
      obtain ⟨n, hn⟩ : ∃ n, x.C.length = n := ⟨_, rfl⟩
      have Hn200 : Hid (n ≤ 200) := hid (by have := HLi.out.c; omega)
      rw [hN] at HSF ⊢
      have HNe := hid hN
      have Hne := hid hn
      have HNb : Hid (N ≤ 200) := hid (by
        rw [← hN]
        exact Nat.le_trans (siL_length x _) (Nat.le_trans (stL_length x _) (by rw [hn]; exact Hn200.out)))
      obtain ⟨cp, cc, hcv⟩ := HO.out.c.len'
      obtain ⟨mp, mc, hmv⟩ := HO.out.m.len'
      simp only at hcv hmv
      rw [Hok.out.len, hn] at hmv
      rw [hn] at hcv
      subst hcv; subst hmv
      clear hown hg HB3 HG3 hN hn hv
      have n0 : (0 : Int) ≤ (n : Int) := by omega
      have n1 : (n : Int) ≤ 200 := by have := Hn200.out; omega
      have N0 : (0 : Int) ≤ (N : Int) := by omega
      have N1 : (N : Int) ≤ 200 := by have := HNb.out; omega
      go_wp2
      go_loopw [6, 7] (fun kk i wr => ∃ j : Nat, j ≤ n ∧ i = .int .i64 j ∧ kk = .int .i64 ((siL x (stL x j)).length : Int) ∧ Hid (SFw W wr G ⟨d, .slice cp n cc, .slice mp n mc, r, q, s⟩ x (.slice vp N vc))) (fun _ i _ => n - (intOf i).toNat)
      case atStart => exact ⟨0, Nat.zero_le _, rfl, rfl, HSF⟩
      case round =>
        obtain ⟨j, hj, rfl, rfl, HR⟩ := hrel
        have j0 : (0 : Int) ≤ (j : Int) := by omega
        obtain ⟨K, hK⟩ : ∃ K, (siL x (stL x j)).length = K := ⟨_, rfl⟩
        have HKe := hid hK
        rw [hK]
        clear hK
        have e1 := HR.out.box.cell 1 (v := .slice cp n cc) rfl
        by_cases hlt : j < n
        · have jn : (j : Int) < (n : Int) := by omega
          have Hlt := hid hlt
          obtain ⟨y, hy⟩ : ∃ y, x.C[j]? = some y := ⟨_, List.getElem?_eq_getElem (by rw [Hne.out]; exact hlt)⟩
          obtain ⟨mj, hm⟩ : ∃ mj, x.M[j]? = some mj := ⟨_, List.getElem?_eq_getElem (by rw [Hok.out.len, Hne.out]; exact hlt)⟩
          have hyr := HF.out.c y (List.mem_of_getElem? hy)
          have hyd : x.C.getD j 0 = y := by rw [List.getD_eq_getElem?_getD, hy]; rfl
          have hmd : mapN x j = mj := by unfold mapN; rw [List.getD_eq_getElem?_getD, hm]; rfl
          have HY := hid (And.intro hyr.1 (And.intro hyr.2 hyd))
          have y0 := hyr.1
          have y1 := hyr.2
          obtain ⟨bc, oc, c', hvc, hbc, hcc⟩ := (HO.out.kept0 HR.out.g).c.at_ (by rw [Hne.out]; omega)
          simp only [Value.slice.injEq] at hvc
          obtain ⟨rfl, -, -⟩ := hvc
          obtain ⟨bm, om, cm, hvm, hbm, hcm⟩ := (HO.out.kept0 HR.out.g).m.at_ (by rw [Hok.out.len, Hne.out]; omega)
          simp only [Value.slice.injEq] at hvm
          obtain ⟨rfl, -, -⟩ := hvm
          have ey := hcc j y hy
          have em := hcm j mj hm
          have e2 := HR.out.box.cell 2 (v := .slice (some ⟨bm, om, none⟩) n mc) rfl
          have hcl : clsI (wOp x j) = clsI (y / 16777216) := by unfold wOp; rw [hyd]
          obtain ⟨cl, hcl2⟩ : ∃ cl, clsI (y / 16777216) = cl := ⟨_, rfl⟩
          rw [hcl2] at hcl
          have Hcl := hid hcl
          have Hcl2 := hid hcl2
          have HMap := hid (And.intro hlt hmd)
          clear hlt hy hm hyr hyd hmd hbc hcc hbm hcm hcl hcl2
          go_wp2_with fail
          refine (rclass_any (y / 16777216) _).mono ?_
          rintro e w5 ⟨rfl, rfl⟩
          rw [Hcl2.out]
          by_cases hm1 : mj = 1
          · subst hm1
            by_cases h2 : cl = 2
            · subst h2
              have hn1 := siL_next (x := x) (i := j) (n := n) Hlt.out HMap.out.2 (by unfold isT; rw [Hcl.out]; simp)
              rw [HKe.out] at hn1
              have Hs2 := hid hn1.2
              have hKN : K < N := by
                have h1 := (List.getElem?_eq_some_iff.1 hn1.1).1
                have h2 := HNe.out
                rw [Hne.out] at h2
                omega
              obtain ⟨b2, o2, c2, hv2, -, hb2, hc2⟩ := HR.out.st.at_ (by rw [HNe.out]; omega)
              simp only [Value.slice.injEq] at hv2
              obtain ⟨rfl, -, -⟩ := hv2
              have hcc : ∀ t u, t < 7 → (siC x j)[t]? = some u → wr.cell? ⟨b2, o2 + K * 7 + t, none⟩ = some u := by
                intro t u ht hu
                have h0 := hc2 (K * 7 + t) u (by rw [Hne.out, sisC_get x _ K t j hn1.1 ht]; exact hu)
                rw [← Nat.add_assoc] at h0
                exact h0
              have s0 : wr.cell? ⟨b2, o2 + K * 7, none⟩ = some (.int .i64 (j : Int)) := hcc 0 _ (by decide) rfl
              have s1 : wr.cell? ⟨b2, o2 + K * 7 + 1, none⟩ = some (.int .i64 2) := hcc 1 _ (by decide) (by rw [siC, Hcl.out]; rfl)
              have s2 : wr.cell? ⟨b2, o2 + K * 7 + 2, none⟩ = some (.int .i64 (y / 16777216)) := hcc 2 _ (by decide) (by rw [siC, begC, HY.out.2.2]; rfl)
              have HKN := hid hKN
              have K0 : (0 : Int) ≤ (K : Int) := by omega
              have KN : (K : Int) < (N : Int) := by omega
              clear hc2 hb2 hcc hn1 hKN
              go_upto_region 18 with (fail)
              go_quiet (fail)
              go_wp2
              go_roundw
              case rel => exact ⟨j + 1, Hlt.out, by go_num, by rw [Hs2.out, List.length_append, HKe.out]; go_num, hid (HR.out.kept0 (grown_drewN (grown_refl _ none) _))⟩
              case measure => simp [intOf]; have := Hlt.out; omega
            · by_cases h3 : cl = 3
              · subst h3
                have h2b : ((3 : Int) == 2) = false := by decide
                have hn1 := siL_next (x := x) (i := j) (n := n) Hlt.out HMap.out.2 (by unfold isT; rw [Hcl.out]; simp)
                rw [HKe.out] at hn1
                have Hs2 := hid hn1.2
                have hKN : K < N := by
                  have h1 := (List.getElem?_eq_some_iff.1 hn1.1).1
                  have h2 := HNe.out
                  rw [Hne.out] at h2
                  omega
                obtain ⟨b2, o2, c2, hv2, -, hb2, hc2⟩ := HR.out.st.at_ (by rw [HNe.out]; omega)
                simp only [Value.slice.injEq] at hv2
                obtain ⟨rfl, -, -⟩ := hv2
                have hcc : ∀ t u, t < 7 → (siC x j)[t]? = some u → wr.cell? ⟨b2, o2 + K * 7 + t, none⟩ = some u := by
                  intro t u ht hu
                  have h0 := hc2 (K * 7 + t) u (by rw [Hne.out, sisC_get x _ K t j hn1.1 ht]; exact hu)
                  rw [← Nat.add_assoc] at h0
                  exact h0
                have s0 : wr.cell? ⟨b2, o2 + K * 7, none⟩ = some (.int .i64 (j : Int)) := hcc 0 _ (by decide) rfl
                have s1 : wr.cell? ⟨b2, o2 + K * 7 + 1, none⟩ = some (.int .i64 3) := hcc 1 _ (by decide) (by rw [siC, Hcl.out]; rfl)
                have s2 : wr.cell? ⟨b2, o2 + K * 7 + 2, none⟩ = some (.int .i64 (y / 16777216)) := hcc 2 _ (by decide) (by rw [siC, begC, HY.out.2.2]; rfl)
                have HKN := hid hKN
                have K0 : (0 : Int) ≤ (K : Int) := by omega
                have KN : (K : Int) < (N : Int) := by omega
                clear hc2 hb2 hcc hn1 hKN
                go_upto_region 18 with (fail)
                go_quiet (fail)
                go_wp2
                go_roundw
                case rel => exact ⟨j + 1, Hlt.out, by go_num, by rw [Hs2.out, List.length_append, HKe.out]; go_num, hid (HR.out.kept0 (grown_drewN (grown_refl _ none) _))⟩
                case measure => simp [intOf]; have := Hlt.out; omega
              · have HNot : Hid (¬ (mapN x j = 1 ∧ isT x j = true)) := hid (fun h => by
                  have := h.2
                  unfold isT at this
                  rw [Hcl.out] at this
                  simp only [decide_eq_true_eq] at this
                  omega)
                have h2b : (cl == 2) = false := by simpa using h2
                have h3b : (cl == 3) = false := by simpa using h3
                clear h2 h3
                have hn1 := siL_other (x := x) (i := j) (n := n) Hlt.out HNot.out
                rw [HKe.out] at hn1
                have Hs2 := hid hn1.2
                have hn3 := hn1.1
                rw [← Hne.out, HNe.out] at hn3
                clear hn1
                rcases hn3 with hKN | ⟨p, hp, hjp⟩
                · have KN : ¬ ((K : Int) < (N : Int)) := by omega
                  clear hKN
                  go_wp2
                  go_roundw
                  case rel => exact ⟨j + 1, Hlt.out, by go_num, by rw [Hs2.out, HKe.out], HR⟩
                  case measure => simp [intOf]; have := Hlt.out; omega
                · have hKN : K < N := by
                    have h1 := (List.getElem?_eq_some_iff.1 hp).1
                    have h2 := HNe.out
                    omega
                  obtain ⟨b2, o2, c2, hv2, -, hb2, hc2⟩ := HR.out.st.at_ (by rw [HNe.out]; omega)
                  simp only [Value.slice.injEq] at hv2
                  obtain ⟨rfl, -, -⟩ := hv2
                  have s0 : wr.cell? ⟨b2, o2 + K * 7, none⟩ = some (.int .i64 (p : Int)) := hc2 (K * 7 + 0) _ (by rw [sisC_get x _ K 0 p hp (by decide)]; rfl)
                  have pj : ((p : Int) == (j : Int)) = false := by simp only [beq_eq_false_iff_ne]; omega
                  have K0 : (0 : Int) ≤ (K : Int) := by omega
                  have KN : (K : Int) < (N : Int) := by omega
                  clear hc2 hb2 hp hKN hjp
                  go_wp2
                  go_roundw
                  case rel => exact ⟨j + 1, Hlt.out, by go_num, by rw [Hs2.out, HKe.out], HR⟩
                  case measure => simp [intOf]; have := Hlt.out; omega
          · have HNot : Hid (¬ (mapN x j = 1 ∧ isT x j = true)) := hid (fun h => hm1 (HMap.out.2.symm.trans h.1))
            have hm1b : (mj == 1) = false := by simpa using hm1
            clear hm1
            have hn1 := siL_other (x := x) (i := j) (n := n) Hlt.out HNot.out
            rw [HKe.out] at hn1
            have Hs2 := hid hn1.2
            have hn3 := hn1.1
            rw [← Hne.out, HNe.out] at hn3
            clear hn1
            rcases hn3 with hKN | ⟨p, hp, hjp⟩
            · have KN : ¬ ((K : Int) < (N : Int)) := by omega
              clear hKN
              go_wp2
              go_roundw
              case rel => exact ⟨j + 1, Hlt.out, by go_num, by rw [Hs2.out, HKe.out], HR⟩
              case measure => simp [intOf]; have := Hlt.out; omega
            · have hKN : K < N := by
                have h1 := (List.getElem?_eq_some_iff.1 hp).1
                have h2 := HNe.out
                omega
              obtain ⟨b2, o2, c2, hv2, -, hb2, hc2⟩ := HR.out.st.at_ (by rw [HNe.out]; omega)
              simp only [Value.slice.injEq] at hv2
              obtain ⟨rfl, -, -⟩ := hv2
              have s0 : wr.cell? ⟨b2, o2 + K * 7, none⟩ = some (.int .i64 (p : Int)) := hc2 (K * 7 + 0) _ (by rw [sisC_get x _ K 0 p hp (by decide)]; rfl)
              have pj : ((p : Int) == (j : Int)) = false := by simp only [beq_eq_false_iff_ne]; omega
              have K0 : (0 : Int) ≤ (K : Int) := by omega
              have KN : (K : Int) < (N : Int) := by omega
              clear hc2 hb2 hp hKN hjp
              go_wp2
              go_roundw
              case rel => exact ⟨j + 1, Hlt.out, by go_num, by rw [Hs2.out, HKe.out], HR⟩
              case measure => simp [intOf]; have := Hlt.out; omega
        · obtain rfl : j = n := by omega
          clear hlt
          have jn : ¬ ((j : Int) < (j : Int)) := by omega
          have hKN : K = N := by rw [← HKe.out, ← HNe.out, Hne.out]
          subst hKN
          have HGr := hid HR.out.g
          go_wp2
          go_ret
          exact ⟨rfl, grown_below HGr.out⟩
    · refine (sites_no (V := ⟨d, c, m, r, q, s⟩) (HO.out.kept0 HG3.out) (HE.out.kept0 HG3.out) HF.out hv).mono ?_
      rintro e w4 ⟨fv, rfl, hfl, hg⟩
      obtain ⟨t, pv, rfl, heq, hneq⟩ := flt_is_e hfl hv
      have HG4 := hid (grown_trans HG3.out hg)
      clear hfl hg hv
      go_wp2
      go_ret
      exact ⟨rfl, grown_below HG4.out⟩
end Go.Proofs.YtbjijddpdefhpaaDoor
