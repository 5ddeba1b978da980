/- The law LoadPages: walked. -/
import Derived.Test.YtpkgckjlhjcdmaaLoad2
import Derived.Deep.Cut
namespace Go.Proofs.Ytpkgckjlhjcdmaa
open Go.RowKit
theorem there_no {V : IV} {x : Ig} {e : Int} (W : World) (h : ImAt W V x) (hd : V.dn ≤ 1000000) (hc : V.cn ≤ 1000000) (k : Int) (hk : pageI x k = none) (k0 : -9223372036854775808 ≤ k) (k1 : k ≤ 9223372036854775807) :
    Calls Try.prog 9 #[.agg (imgC V e), .int .i64 k] W fun e' w' => e' = .returned (.bool false) ∧ W.grownBy w' none := by
  have al := World.grownBy_alloc W (.cells (imgC V e) 26) none
  have H1 := hid (page_no (e := e) _ (h.kept0 al) hd hc k hk k0 k1)
  have HX := hid (RwAt.new W 26 (imgC V e))
  have Hal := hid al
  clear h hk al hd hc
  go_enter Try.func9, Try.ntmps9
  go_upto_region 1 with (fail)
  generalize W.alloc (.cells (imgC V e) 26) = w1 at HX H1 Hal ⊢
  go_wp2_with (first
    | (refine wpList_load_im (by kernel_rfl) _ rfl rfl HX.out ?_)
    | fail)
  refine (H1.out).mono ?_; rintro e' w2 ⟨rfl, hg⟩
  have HG := hid (grown_trans Hal.out hg)
  clear hg
  go_wp2
  go_ret
  exact ⟨rfl, HG.out⟩
/-- where the walk stands: the image in its box -/
structure LdW (W w : World) (I : Nat) (V : IV) (x : Ig) : Prop where
  g : W.grownBy w none
  box : RwAt w I 26 (imgC V x.e)
  im : ImAt w V x
theorem LdW.kept0 {W w w1 : World} {I : Nat} {V : IV} {x : Ig} (h : LdW W w I V x) (hg : w.grownBy w1 none) : LdW W w1 I V x := ⟨grown_trans h.g hg, h.box.kept0 hg, h.im.kept0 hg⟩
set_option maxRecDepth 100000 in
set_option maxHeartbeats 16000000 in
theorem pages_walk (V : IV) (x : Ig) (page : Int) (W : World) (h : ImAt W V x) (p0 : -9223372036854775808 ≤ page) (p1 : page ≤ 9223372036854775807) :
    Calls Try.prog 3 #[.agg (imgC V x.e), .int .i64 page] W fun e W' => e = .returned (.bool true) ∧ Below W.heap.size W W' := by
  have al := World.grownBy_alloc W (.cells (imgC V x.e) 26) none
  have HL0 : Hid (LdW W (W.alloc (.cells (imgC V x.e) 26)) W.heap.size V x) := hid ⟨al, RwAt.new W _ _, h.kept0 al⟩
  clear h al
  go_enter Try.func3, Try.ntmps3
  go_upto_region 1 with (fail)
  generalize W.alloc (.cells (imgC V x.e) 26) = w1 at HL0 ⊢
  generalize W.heap.size = I at HL0 ⊢
  go_wp2_with fail
  refine (first14_any _).mono ?_; rintro e w2 ⟨rfl, hg⟩
  have HL2 := hid (HL0.out.kept0 hg)
  clear hg HL0
  go_wp2_with (first
    | (refine wpList_load_im (by kernel_rfl) _ rfl rfl HL2.out.box ?_)
    | fail)
  by_cases hl : lightI V 300 = true
  · refine (limage_any V x.e _ 300 300 rfl true hl).mono ?_; rintro e w3 ⟨rfl, hg⟩
    have HL3 := hid (HL2.out.kept0 hg)
    clear hg HL2
    obtain ⟨dp, dn, dc, cp, cn, cc, rp, rn, rc, pp, pn, pc, sp, sn, sc⟩ := V
    unfold lightI at hl
    have hl := of_decide_eq_true hl
    simp only at hl
    obtain ⟨l1, l2, _⟩ := hl
    obtain ⟨d, hd⟩ : ∃ d, (dn + 15) / 16 = d := ⟨_, rfl⟩
    obtain ⟨c, hc⟩ : ∃ c, (cn + 15) / 16 = c := ⟨_, rfl⟩
    have Hd : Hid (pgN x.D = d ∧ pgN x.C = c) := hid (by unfold pgN; rw [HL3.out.im.dl, HL3.out.im.cl]; exact ⟨hd, hc⟩)
    have Hdb : Hid (d ≤ 19 ∧ c ≤ 19) := hid (by omega)
    go_wp2_with (first
      | (refine wpList_load_im (by kernel_rfl) _ rfl rfl HL3.out.box ?_)
      | fail)
    refine (pages_any ⟨dp, dn, dc, cp, cn, cc, rp, rn, rc, pp, pn, pc, sp, sn, sc⟩ x.e _ (by simp only; omega) (by simp only; omega) d c hd hc).mono ?_; rintro e w4 ⟨rfl, hg⟩
    have HL4 := hid (HL3.out.kept0 hg)
    clear hg HL3
    have a1 : ¬ 16 * (d : Int) < (dn : Int) := by omega
    have a2 : ¬ (dn : Int) + 16 ≤ 16 * (d : Int) := by omega
    have a3 : ¬ 16 * (c : Int) < (cn : Int) := by omega
    have a4 : ¬ (cn : Int) + 16 ≤ 16 * (c : Int) := by omega
    have b1 : (0 : Int) ≤ (d : Int) := by omega
    have b2 : (0 : Int) ≤ (c : Int) := by omega
    have b3 : (d : Int) ≤ 19 := by omega
    have b4 : (c : Int) ≤ 19 := by omega
    have b5 : (dn : Int) ≤ 300 := by omega
    have b6 : (cn : Int) ≤ 300 := by omega
    obtain ⟨Q, hQ⟩ : ∃ Q, 17 + d = Q := ⟨_, rfl⟩
    have HQ := hid (fun W => quota_any ⟨dp, dn, dc, cp, cn, cc, rp, rn, rc, pp, pn, pc, sp, sn, sc⟩ x.e W (by simp only; omega) Q (by simp only; omega))
    have hq : 17 + (d : Int) = (Q : Int) := by omega
    clear hQ
    have c0 := HL4.out.box.cell 0 (v := .int .u32 x.e) rfl
    have c1 := HL4.out.box.cell 1 (v := .slice dp dn dc) rfl
    have c2 := HL4.out.box.cell 2 (v := .slice cp cn cc) rfl
    have c3 := HL4.out.box.cell 3 (v := .slice rp rn rc) rfl
    have c4 := HL4.out.box.cell 4 (v := .slice pp pn pc) rfl
    have c5 := HL4.out.box.cell 5 (v := .slice sp sn sc) rfl
    clear hd hc
    go_wp2_with fail
    refine (HQ.out _).mono ?_; rintro e w5 ⟨rfl, hg⟩
    have HL5 := hid (HL4.out.kept0 hg)
    clear hg HL4 c0 c1 c2 c3 c4 c5 HQ
    go_wp2
    clear hq a1 a2 a3 a4
    go_loopw [8] (fun i wr => ∃ p : Nat, p ≤ 150 ∧ i = .int .i64 p ∧ Hid (LdW W wr I ⟨dp, dn, dc, cp, cn, cc, rp, rn, rc, pp, pn, pc, sp, sn, sc⟩ x)) (fun i _ => 150 - (intOf i).toNat)
    case atStart => exact ⟨0, Nat.zero_le _, rfl, HL5⟩
    case round =>
      clear HL5
      obtain ⟨p, hp, rfl, HP⟩ := hrel
      have q0 : (0 : Int) ≤ (p : Int) := by omega
      by_cases hlt : p < 150
      · have q1 : (p : Int) < 150 := by omega
        go_wp2_with (first
          | (refine wpList_load_im (by kernel_rfl) _ rfl rfl HP.out.box ?_)
          | fail)
        by_cases h128 : p < 128
        · have h1 : ¬ (128 : Int) ≤ (p : Int) := by omega
          have h1' : (p : Int) < 128 := by omega
          by_cases hpd : p < d
          · have h2 : (p : Int) < (d : Int) := by omega
            refine (page_yes (e := x.e) _ HP.out.im (by simp only; omega) (by simp only; omega) (p : Int) (by rw [pageI_low h1', pageOfI_some (by rw [Hd.out.1]; exact hpd)]) (by omega) (by omega)).mono ?_
            rintro e w7 ⟨g, rfl, hgl, hs, hg⟩
            have HL := hid (HP.out.kept0 hg)
            have HS := hid hs
            have HPg := hid hgl
            clear hgl hs hg HP
            have c1 := HL.out.box.cell 1 (v := .slice dp dn dc) rfl
            have c2 := HL.out.box.cell 2 (v := .slice cp cn cc) rfl
            have HIs := hid HPg.out
            go_wp2
            all_goals try (exfalso; omega)
            go_loop [11] (fun i => ∃ j : Nat, j ≤ 16 ∧ i = .int .i64 j) (fun i => 16 - (intOf i).toNat)
            case atStart => exact ⟨0, Nat.zero_le _, rfl⟩
            case round =>
              obtain ⟨j, hj, rfl⟩ := hrel
              have j0 : (0 : Int) ≤ (j : Int) := by omega
              by_cases hlt2 : j < 16
              · have j1 : (j : Int) < 16 := by omega
                obtain ⟨T, hT⟩ : ∃ T : Nat, 16 * p + j = T := ⟨_, rfl⟩
                have hT1 : 16 * (p : Int) + (j : Int) = (T : Int) := by omega
                have t0 : (0 : Int) ≤ (T : Int) := by omega
                have t1 : (T : Int) ≤ 100000 := by omega
                obtain ⟨z, hz⟩ : ∃ z, x.D.getD T 0 = z := ⟨_, rfl⟩
                have hcz : w7.cell? ⟨g, j, none⟩ = some (.int .u32 z) := sl_cell HS.out (by rw [pgW_get hlt2, hT, hz])
                by_cases hin : T < dn
                · have hin1 : (T : Int) < (dn : Int) := by omega
                  obtain ⟨b, o, c', hv, hb, hcell⟩ := sl_at HL.out.im.d (by have e := HL.out.im.dl; simp only at e; omega)
                  simp only [Value.slice.injEq] at hv
                  obtain ⟨rfl, hv2, rfl⟩ := hv
                  have hcd := hcell T z (by rw [List.getD, List.getElem?_eq_getElem (by have e := HL.out.im.dl; simp only at e; omega)] at hz; rw [List.getElem?_eq_getElem (by have e := HL.out.im.dl; simp only at e; omega)]; exact congrArg some hz)
                  clear hv2 hcell hz hT hb
                  go_wp2
                  go_round
                  case rel => exact ⟨j + 1, by omega, by go_num⟩
                  case measure => first | (simp [intOf]; omega) | (have := Hpe.out; simp [intOf]; omega)
                · have hin1 : ¬ (T : Int) < (dn : Int) := by omega
                  have hz0 : z = 0 := by rw [← hz, List.getD, List.getElem?_eq_none (by have e := HL.out.im.dl; simp only at e; omega)]; rfl
                  subst hz0
                  clear hz hT
                  go_wp2
                  go_round
                  case rel => exact ⟨j + 1, by omega, by go_num⟩
                  case measure => first | (simp [intOf]; omega) | (have := Hpe.out; simp [intOf]; omega)
              · have j1 : ¬ (j : Int) < 16 := by omega
                clear c1 c2
                go_wp2
                go_roundw
                case rel => exact ⟨p + 1, by omega, by go_num, hid (HL.out)⟩
                case measure => first | (simp [intOf]; omega) | (have := Hpe.out; simp [intOf]; omega)
          · have h2 : ¬ (p : Int) < (d : Int) := by omega
            refine (page_no (e := x.e) _ HP.out.im (by simp only; omega) (by simp only; omega) (p : Int) (by rw [pageI_low h1', pageOfI_none (by rw [Hd.out.1]; omega)]) (by omega) (by omega)).mono ?_
            rintro e w7 ⟨rfl, hg⟩
            have HL := hid (HP.out.kept0 hg)
            clear hg HP
            go_wp2
            all_goals try (exfalso; omega)
            go_loop [11] (fun i => i = .int .i64 0) (fun i => 0)
            case atStart => rfl
            case round =>
              subst hrel
              go_wp2
              go_roundw
              case rel => exact ⟨p + 1, by omega, by go_num, HL⟩
              case measure => first | (simp [intOf]; omega) | (have := Hpe.out; simp [intOf]; omega)
        · obtain ⟨r, hr⟩ : ∃ r : Nat, p = 128 + r := ⟨p - 128, by omega⟩
          subst hr
          have h1 : (128 : Int) ≤ ((128 + r : Nat) : Int) := by omega
          have h3 : ¬ ((128 + r : Nat) : Int) < (d : Int) := by omega
          by_cases hpd : r < c
          · have h2 : ((128 + r : Nat) : Int) < 128 + (c : Int) := by omega
            refine (page_yes (e := x.e) _ HP.out.im (by simp only; omega) (by simp only; omega) ((128 + r : Nat) : Int) (by rw [pageI_high h1, show ((128 + r : Nat) : Int) - 128 = (r : Int) from by omega, pageOfI_some (by rw [Hd.out.2]; exact hpd)]) (by omega) (by omega)).mono ?_
            rintro e w7 ⟨g, rfl, hgl, hs, hg⟩
            have HL := hid (HP.out.kept0 hg)
            have HS := hid hs
            have HPg := hid hgl
            clear hgl hs hg HP
            obtain ⟨p, hpe⟩ : ∃ p, 128 + r = p := ⟨_, rfl⟩
            have Hpe := hid hpe
            rw [hpe] at h1 h2 h3 hp hlt q0 q1 ⊢
            clear hpe h128
            have c1 := HL.out.box.cell 1 (v := .slice dp dn dc) rfl
            have c2 := HL.out.box.cell 2 (v := .slice cp cn cc) rfl
            have HIs := hid HPg.out
            go_wp2
            all_goals try (exfalso; omega)
            go_loop [11] (fun i => ∃ j : Nat, j ≤ 16 ∧ i = .int .i64 j) (fun i => 16 - (intOf i).toNat)
            case atStart => exact ⟨0, Nat.zero_le _, rfl⟩
            case round =>
              obtain ⟨j, hj, rfl⟩ := hrel
              have j0 : (0 : Int) ≤ (j : Int) := by omega
              by_cases hlt2 : j < 16
              · have j1 : (j : Int) < 16 := by omega
                obtain ⟨T, hT⟩ : ∃ T : Nat, 16 * r + j = T := ⟨_, rfl⟩
                have hT1 : 16 * (p : Int) + (j : Int) - 2048 = (T : Int) := by have := Hpe.out; omega
                have t0 : (0 : Int) ≤ (T : Int) := by omega
                have t1 : (T : Int) ≤ 100000 := by omega
                obtain ⟨z, hz⟩ : ∃ z, x.C.getD T 0 = z := ⟨_, rfl⟩
                have hcz : w7.cell? ⟨g, j, none⟩ = some (.int .u32 z) := sl_cell HS.out (by rw [pgW_get hlt2, hT, hz])
                by_cases hin : T < cn
                · have hin1 : (T : Int) < (cn : Int) := by omega
                  obtain ⟨b, o, c', hv, hb, hcell⟩ := sl_at HL.out.im.c (by have e := HL.out.im.cl; simp only at e; omega)
                  simp only [Value.slice.injEq] at hv
                  obtain ⟨rfl, hv2, rfl⟩ := hv
                  have hcd := hcell T z (by rw [List.getD, List.getElem?_eq_getElem (by have e := HL.out.im.cl; simp only at e; omega)] at hz; rw [List.getElem?_eq_getElem (by have e := HL.out.im.cl; simp only at e; omega)]; exact congrArg some hz)
                  clear hv2 hcell hz hT hb
                  go_wp2
                  go_round
                  case rel => exact ⟨j + 1, by omega, by go_num⟩
                  case measure => first | (simp [intOf]; omega) | (have := Hpe.out; simp [intOf]; omega)
                · have hin1 : ¬ (T : Int) < (cn : Int) := by omega
                  have hz0 : z = 0 := by rw [← hz, List.getD, List.getElem?_eq_none (by have e := HL.out.im.cl; simp only at e; omega)]; rfl
                  subst hz0
                  clear hz hT
                  go_wp2
                  go_round
                  case rel => exact ⟨j + 1, by omega, by go_num⟩
                  case measure => first | (simp [intOf]; omega) | (have := Hpe.out; simp [intOf]; omega)
              · have j1 : ¬ (j : Int) < 16 := by omega
                clear c1 c2
                go_wp2
                go_roundw
                case rel => exact ⟨p + 1, by omega, by go_num, hid (HL.out)⟩
                case measure => first | (simp [intOf]; omega) | (have := Hpe.out; simp [intOf]; omega)
          · have h2 : ¬ ((128 + r : Nat) : Int) < 128 + (c : Int) := by omega
            refine (page_no (e := x.e) _ HP.out.im (by simp only; omega) (by simp only; omega) ((128 + r : Nat) : Int) (by rw [pageI_high h1, pageOfI_none (by rw [Hd.out.2]; omega)]) (by omega) (by omega)).mono ?_
            rintro e w7 ⟨rfl, hg⟩
            have HL := hid (HP.out.kept0 hg)
            clear hg HP
            obtain ⟨p, hpe⟩ : ∃ p, 128 + r = p := ⟨_, rfl⟩
            have Hpe := hid hpe
            rw [hpe] at h1 h2 h3 hp hlt q0 q1 ⊢
            clear hpe h128
            go_wp2
            all_goals try (exfalso; omega)
            go_loop [11] (fun i => i = .int .i64 0) (fun i => 0)
            case atStart => rfl
            case round =>
              subst hrel
              go_wp2
              go_roundw
              case rel => exact ⟨p + 1, by omega, by go_num, HL⟩
              case measure => first | (simp [intOf]; omega) | (have := Hpe.out; simp [intOf]; omega)
      · have q1 : ¬ (p : Int) < 150 := by omega
        go_wp2_with (first
          | (refine wpList_load_im (by kernel_rfl) _ rfl rfl HP.out.box ?_)
          | fail)
        refine (page_no (e := x.e) _ HP.out.im (by simp only; omega) (by simp only; omega) (-1) (by rw [pageI_low (by omega), pageOfI_none (by omega)]) (by omega) (by omega)).mono ?_
        rintro e w7 ⟨rfl, hg⟩
        have HL := hid (HP.out.kept0 hg)
        clear hg HP
        by_cases hpg : page < 128 + (c : Int)
        · go_wp2
          go_ret
          exact ⟨rfl, grown_below HL.out.g⟩
        · have Hn : Hid (pageI x page = none) := hid (by rw [pageI_high (by omega), pageOfI_none (by rw [Hd.out.2]; omega)])
          have c0 := HL.out.box.cell 0 (v := .int .u32 x.e) rfl
          have c1 := HL.out.box.cell 1 (v := .slice dp dn dc) rfl
          have c2 := HL.out.box.cell 2 (v := .slice cp cn cc) rfl
          have c3 := HL.out.box.cell 3 (v := .slice rp rn rc) rfl
          have c4 := HL.out.box.cell 4 (v := .slice pp pn pc) rfl
          have c5 := HL.out.box.cell 5 (v := .slice sp sn sc) rfl
          go_wp2_with fail
          refine (there_no (e := x.e) _ HL.out.im (by simp only; omega) (by simp only; omega) page Hn.out p0 p1).mono ?_
          rintro e w8 ⟨rfl, hg⟩
          have HL8 := hid (HL.out.kept0 hg)
          clear hg HL
          go_wp2
          go_ret
          exact ⟨rfl, grown_below HL8.out.g⟩
  · have hl := Bool.eq_false_iff.2 hl
    refine (limage_any V x.e _ 300 300 rfl false hl).mono ?_; rintro e w3 ⟨rfl, hg⟩
    have HL3 := hid (HL2.out.kept0 hg)
    clear hg HL2
    go_wp2
    go_ret
    exact ⟨rfl, grown_below HL3.out.g⟩
end Go.Proofs.Ytpkgckjlhjcdmaa
