/- The law RewriteOnce: walked. -/
import Derived.Test.YteanoklaammpiaaDoorZGRwD
import Derived.Test.YteanoklaammpiaaDoorZRws
import Derived.Test.YteanoklaammpiaaDoorZObjI
import Derived.Test.YteanoklaammpiaaDoorZObjS
import Derived.Test.YteanoklaammpiaaDoorZObjL
namespace Go.Proofs.YteanoklaammpiaaDoor
open Go.RowKit
theorem rwo_len1 (x : PO) : (rwO x).D.length = x.D.length ∧ (rwO x).C.length = plN x x.C.length ∧ (rwO x).M.length = plN x x.C.length ∧ (rwO x).R.length = x.R.length ∧ (rwO x).Q.length = x.Q.length ∧ (rwO x).S.length = x.S.length := ⟨rfl, rwC_length x _, rwM_length x _, rfl, by simp [rwO], by simp [rwO]⟩
/-- its numbers are as wide as they may be -/
theorem rw_fit {x : PO} (hf : OFit x) (hok : OkP x) (hm : plN x x.C.length ≤ 2048) : OFit (rwO x) := by
  have hc : ∀ k n, k ≤ n → n ≤ x.C.length → ∀ v ∈ rwC x k, 0 ≤ v ∧ v < 4294967296 := by
    intro k n
    induction k with
    | zero => intro _ _ v hv; simp [rwC] at hv
    | succ k ih =>
      intro hk hn v hv
      have hkn : k < x.C.length := by omega
      have hy := hf.c _ (List.getElem_mem hkn)
      have hyd : x.C.getD k 0 = x.C[k] := by rw [List.getD_eq_getElem?_getD, List.getElem?_eq_getElem hkn]; rfl
      cases hs : siteB x k
      · rw [rwC_no hs, List.mem_append, List.mem_singleton] at hv
        rcases hv with hv | rfl
        · exact ih (by omega) hn v hv
        · rw [hyd]; exact hy
      · rw [rwC_yes hs, List.mem_append] at hv
        rcases hv with hv | hv
        · exact ih (by omega) hn v hv
        · have ht := (siteB_yes hs).2
          unfold isT wOp clsI at ht
          rw [hyd] at ht
          simp only [decide_eq_true_eq] at ht
          have h31 : x.C[k] < 2147483648 := by
            repeat' split at ht
            all_goals omega
          simp only [List.mem_cons, List.not_mem_nil, or_false] at hv
          rcases hv with rfl | rfl
          · omega
          · rw [hyd]; omega
  have hM : ∀ k n, k ≤ n → n ≤ x.C.length → ∀ v ∈ rwM x k, 0 ≤ v ∧ v < 256 := by
    intro k n
    induction k with
    | zero => intro _ _ v hv; simp [rwM] at hv
    | succ k ih =>
      intro hk hn v hv
      have hkn : k < x.M.length := by rw [hok.len]; omega
      have hyd : x.M.getD k 0 = x.M[k] := by rw [List.getD_eq_getElem?_getD, List.getElem?_eq_getElem hkn]; rfl
      cases hs : siteB x k
      · rw [rwM_no hs, List.mem_append, List.mem_singleton] at hv
        rcases hv with hv | rfl
        · exact ih (by omega) hn v hv
        · rw [hyd]; exact hf.m _ (List.getElem_mem hkn)
      · rw [rwM_yes hs, List.mem_append] at hv
        rcases hv with hv | hv
        · exact ih (by omega) hn v hv
        · simp only [List.mem_cons, List.not_mem_nil, or_false] at hv
          omega
  obtain ⟨l0, l1, l2, l3, l4, l5⟩ := rwo_len1 x
  refine ⟨hf.d, hc x.C.length x.C.length (Nat.le_refl _) (Nat.le_refl _), hM x.C.length x.C.length (Nat.le_refl _) (Nat.le_refl _), ?_⟩
  rw [l0, l1, l2, l3, l4, l5]
  have := hf.l
  have h2 : (2048 : Nat) ≤ maxLen := by unfold maxLen; omega
  omega
theorem rw_ll {x : PO} {n : Int} (h : LightP x n) (hn : n ≤ 1000) (hm : plN x x.C.length ≤ 2048) : Ll (rwO x) := by
  obtain ⟨l0, l1, l2, l3, l4, l5⟩ := rwo_len1 x
  have := ll_of_light h hn
  unfold Ll at this ⊢
  rw [l0, l1, l2, l3, l4, l5]
  omega
set_option maxRecDepth 100000 in
set_option maxHeartbeats 16000000 in
theorem once_walk (V : OV) (x : PO) (W : World) (A : Nat → Addr) (hS : Sents W A) (h : OAt W V x) (hf : OFit x) :
    Calls Tryd.prog 3 #[V.agg] W fun e W' => e = .returned (.bool true) ∧ Below W.heap.size W W' := by
  obtain ⟨d, c, m, r, q, s⟩ := V
  have HB0 := hid (RwAt.new W 27 #[d, c, m, r, q, s])
  have HG0 := hid (World.grownBy_alloc W (.cells #[d, c, m, r, q, s] 27) none)
  have HO := hid h
  have HS := hid hS
  have HF := hid hf
  clear h hS hf
  go_enter Tryd.func3, Tryd.ntmps3
  go_upto_region 1 with (fail)
  obtain ⟨G, hG⟩ : ∃ G, W.heap.size = G := ⟨_, rfl⟩
  rw [hG] at HB0 ⊢
  clear hG
  generalize W.alloc (.cells #[d, c, m, r, q, s] 27) = w1 at HB0 HG0 ⊢
  go_wp2_with fail
  refine (first11_any (HS.out.errc.kept0 HG0.out)).mono ?_
  rintro e w2 ⟨rfl, hg⟩
  have HB2 := hid (HB0.out.kept0 hg)
  have HG2 := hid (grown_trans HG0.out hg)
  clear hg HB0 HG0
  go_wp2_with (first
    | (refine wpList_load_rw rfl 27 _ rfl rfl HB2.out rfl Tryd.underlying27 info_object ?_)
    | fail)
  refine (light_any (V := ⟨d, c, m, r, q, s⟩) (HO.out.kept0 HG2.out) HF.out 200 (by omega) (by omega)).mono ?_
  rintro e w3 ⟨⟨li, rfl, hli⟩, hg⟩
  have HB3 := hid (HB2.out.kept0 hg)
  have HG3 := hid (grown_trans HG2.out hg)
  clear hg HB2 HG2
  cases li with
  | false =>
    go_wp2
    go_ret
    exact ⟨rfl, grown_below HG3.out⟩
  | true =>
    have HLi := hid (hli rfl)
    clear hli
    go_wp2_with (first
      | (refine wpList_load_rw rfl 27 _ rfl rfl HB3.out rfl Tryd.underlying27 info_object ?_)
      | fail)
    by_cases hv : validP x = none
    · have Hok := hid (valid_ok hv)
      have Hv := hid hv
      have Hpl : Hid (plN x x.C.length ≤ 2048) := hid (by have := (pl_le x x.C.length).2; have := HLi.out.c; omega)
      refine (do_yes (V := ⟨d, c, m, r, q, s⟩) (HO.out.kept0 HG3.out) (HS.out.errc.kept0 HG3.out) HF.out hv Hpl.out).mono ?_
      rintro e w4 ⟨V2, pv, rfl, ho2, hp, hg⟩
      obtain ⟨s0, t0, s1, t1, s2, t2, s3, t3, s4, t4, s5, t5, hV2⟩ := ho2.slices
      obtain ⟨z0, hz0⟩ : ∃ z0, (rwO x).D.length = z0 := ⟨_, rfl⟩
      obtain ⟨z1, hz1⟩ : ∃ z1, (rwO x).C.length = z1 := ⟨_, rfl⟩
      obtain ⟨z2, hz2⟩ : ∃ z2, (rwO x).M.length = z2 := ⟨_, rfl⟩
      obtain ⟨z3, hz3⟩ : ∃ z3, (rwO x).R.length = z3 := ⟨_, rfl⟩
      obtain ⟨z4, hz4⟩ : ∃ z4, (rwO x).Q.length = z4 := ⟨_, rfl⟩
      obtain ⟨z5, hz5⟩ : ∃ z5, (rwO x).S.length = z5 := ⟨_, rfl⟩
      rw [hz0, hz1, hz2, hz3, hz4, hz5] at hV2
      subst hV2
      obtain ⟨bp, qp, hpv⟩ := own_at0 hp (by omega)
      subst hpv
      have Hpc : Hid (∀ k, k ≤ x.C.length → w4.cell? ⟨bp, k, none⟩ = some (.int .i64 (plN x k : Int))) := hid (fun k hk => (CsAt.own hp).cell0 k _ (by rw [List.getElem?_map, plL_get x (by omega)]; rfl))
      have al := World.grownBy_alloc w4 (.cells #[.slice s0 z0 t0, .slice s1 z1 t1, .slice s2 z2 t2, .slice s3 z3 t3, .slice s4 z4 t4, .slice s5 z5 t5] 27) none
      have HX := hid (RwAt.new w4 27 #[.slice s0 z0 t0, .slice s1 z1 t1, .slice s2 z2 t2, .slice s3 z3 t3, .slice s4 z4 t4, .slice s5 z5 t5])
      have HO2 := hid (ho2.at_.kept0 al)
      have HB5 := hid ((HB3.out.kept0 hg).kept0 al)
      have HG5 := hid (grown_trans (grown_trans HG3.out hg) al)
      have HPb := hid (And.intro (World.block_lt_of_cell? w4 _ (Hpc.out 0 (Nat.zero_le _))) al)
      have Hzo := zero_obj
      clear ho2 hp hg al hv hz0 hz1 hz2 hz3 hz4 hz5 HB3
      go_upto_region 9 with (fail)
      obtain ⟨X, hX⟩ : ∃ X, w4.heap.size = X := ⟨_, rfl⟩
      rw [hX] at HX ⊢
      clear hX
      generalize w4.alloc (.cells #[.slice s0 z0 t0, .slice s1 z1 t1, .slice s2 z2 t2, .slice s3 z3 t3, .slice s4 z4 t4, .slice s5 z5 t5] 27) = w5 at HX HO2 HB5 HG5 HPb ⊢
      go_wp2_with (first
        | (refine wpList_load_rw rfl 27 _ rfl rfl HB5.out rfl Tryd.underlying27 info_object ?_)
        | fail)
      refine (rsites_any (V := ⟨d, c, m, r, q, s⟩) (HO.out.kept0 HG5.out) HF.out Hok.out).mono ?_
      rintro e w6 ⟨lv, rfl, hl, hg⟩
      obtain ⟨lp, lcap, hlv⟩ := own_slice hl
      obtain ⟨L, hL⟩ : ∃ L, (siL x (stL x x.C.length)).length = L := ⟨_, rfl⟩
      rw [hL] at hlv hl
      subst hlv
      have HLs := hid (CsAt.own hl)
      have HLe := hid hL
      have HX6 := hid (HX.out.kept0 hg)
      have HO6 := hid (HO2.out.kept0 hg)
      have HB6 := hid (HB5.out.kept0 hg)
      have HG6 := hid (grown_trans HG5.out hg)
      have HPg := hid (grown_trans HPb.out.2 hg)
      clear hl hL hg HX HO2 HB5 HG5
      go_wp2_with (first
        | (refine wpList_load_rw rfl 27 _ rfl rfl HX6.out rfl Tryd.underlying27 info_object ?_)
        | fail)
      have HF2 := hid (rw_fit HF.out Hok.out Hpl.out)
      have HLl := hid (rw_ll HLi.out (by omega) Hpl.out)
      by_cases hL0 : L = 0
      · subst hL0
        have hsame : rwO x = x := rw_same Hok.out (siL_zero_cnt (List.eq_nil_of_length_eq_zero HLe.out))
        have Hsame := hid hsame
        clear hsame
        refine (do_yes HO6.out (HS.out.errc.kept0 HG6.out) HF2.out (by rw [Hsame.out]; exact Hv.out) (by rw [Hsame.out]; exact Hpl.out)).mono ?_
        rintro e w7 ⟨V3, pv3, rfl, ho3, hp3, hg⟩
        obtain ⟨u0, v0, u1, v1, u2, v2, u3, v3, u4, v4, u5, v5, hV3⟩ := ho3.slices
        obtain ⟨y0, hy0⟩ : ∃ z0, (rwO (rwO x)).D.length = z0 := ⟨_, rfl⟩
        obtain ⟨y1, hy1⟩ : ∃ z1, (rwO (rwO x)).C.length = z1 := ⟨_, rfl⟩
        obtain ⟨y2, hy2⟩ : ∃ z2, (rwO (rwO x)).M.length = z2 := ⟨_, rfl⟩
        obtain ⟨y3, hy3⟩ : ∃ z3, (rwO (rwO x)).R.length = z3 := ⟨_, rfl⟩
        obtain ⟨y4, hy4⟩ : ∃ z4, (rwO (rwO x)).Q.length = z4 := ⟨_, rfl⟩
        obtain ⟨y5, hy5⟩ : ∃ z5, (rwO (rwO x)).S.length = z5 := ⟨_, rfl⟩
        rw [hy0, hy1, hy2, hy3, hy4, hy5] at hV3
        subst hV3
        have al := World.grownBy_alloc w7 (.cells #[.slice u0 y0 v0, .slice u1 y1 v1, .slice u2 y2 v2, .slice u3 y3 v3, .slice u4 y4 v4, .slice u5 y5 v5] 27) none
        have HX8 := hid ((HX6.out.kept0 hg).kept0 al)
        have HO8 := hid ((HO6.out.kept0 hg).kept0 al)
        have HB8 := hid ((HB6.out.kept0 hg).kept0 al)
        have HG8 := hid (grown_trans (grown_trans HG6.out hg) al)
        clear ho3 hp3 hg al hy0 hy1 hy2 hy3 hy4 hy5 HX6 HO6 HB6 HG6
        go_upto_region 11 with (fail)
        generalize w7.alloc (.cells #[.slice u0 y0 v0, .slice u1 y1 v1, .slice u2 y2 v2, .slice u3 y3 v3, .slice u4 y4 v4, .slice u5 y5 v5] 27) = w8 at HX8 HO8 HB8 HG8 ⊢
        go_wp2_with (first
          | (refine wpList_load_rw rfl 27 _ rfl rfl HX8.out rfl Tryd.underlying27 info_object ?_)
          | fail)
        refine (valid_any HO8.out (HS.out.errc.kept0 HG8.out) HF2.out).mono ?_
        rintro e w9 ⟨fv, rfl, hfl, hg⟩
        rw [Hsame.out, Hv.out] at hfl
        obtain rfl : fv = .nilIface := hfl
        have HX9 := hid (HX8.out.kept0 hg)
        have HO9 := hid (HO8.out.kept0 hg)
        have HB9 := hid (HB8.out.kept0 hg)
        have HG9 := hid (grown_trans HG8.out hg)
        clear hg HX8 HO8 HB8 HG8
        go_wp2_with (first
          | (refine wpList_load_rw_g (by kernel_rfl) 27 _ rfl rfl HX9.out rfl Tryd.underlying27 info_object ?_)
          | (refine wpList_load_rw_g (by kernel_rfl) 27 _ rfl rfl HB9.out rfl Tryd.underlying27 info_object ?_)
          | fail)
        refine (osame_any (V' := ⟨d, c, m, r, q, s⟩) HO9.out (HO.out.kept0 HG9.out) HLl.out true (by rw [Hsame.out]; simp)).mono ?_
        rintro e w10 ⟨rfl, hg⟩
        have HGa := hid (grown_trans HG9.out hg)
        clear hg
        go_wp2
        go_ret
        exact ⟨rfl, grown_below HGa.out⟩
      · have hL1 : 0 < L := by omega
        obtain ⟨f, rest, hfr⟩ : ∃ f rest, siL x (stL x x.C.length) = f :: rest := by
          cases hl : siL x (stL x x.C.length) with
          | nil => have h1 := HLe.out; rw [hl] at h1; simp at h1; omega
          | cons f rest => exact ⟨f, rest, rfl⟩
        obtain ⟨hf1, hf2, hf3⟩ := si_head hfr
        have hnv : validP (rwO x) = some (4, some f) := rw_first Hok.out hf1 hf2 hf3 Hpl.out
        have hpf : plN x f = f := by unfold plN; rw [(rw_none hf3).1]; rfl
        have Hnv := hid hnv
        have Hpf := hid hpf
        have Hf1 := hid hf1
        have Hfr := hid hfr
        clear hnv hpf hf1 hf2 hf3 hfr
        refine (do_no HO6.out (HS.out.errc.kept0 HG6.out) HF2.out (by rw [Hnv.out]; simp)).mono ?_
        rintro e w7 ⟨fv, rfl, hfl, hg⟩
        rw [Hnv.out] at hfl
        obtain ⟨B, rfl, hB⟩ := hfl
        rw [zeroO]
        have al := World.grownBy_alloc w7 (.cells #[.slice none 0 0, .slice none 0 0, .slice none 0 0, .slice none 0 0, .slice none 0 0, .slice none 0 0] 27) none
        have HX8 := hid ((HX6.out.kept0 hg).kept0 al)
        have HO8 := hid ((HO6.out.kept0 hg).kept0 al)
        have HB8 := hid (hB.kept0 al)
        have HG8 := hid (grown_trans (grown_trans HG6.out hg) al)
        have HL8 := hid (HLs.out.kept0 (grown_trans hg al))
        have HP8 := hid (grown_trans HPg.out (grown_trans hg al))
        clear hB hg al HX6 HO6 HB6 HG6 HLs
        go_upto_region 11 with (fail)
        generalize w7.alloc (.cells #[.slice none 0 0, .slice none 0 0, .slice none 0 0, .slice none 0 0, .slice none 0 0, .slice none 0 0] 27) = w8 at HX8 HO8 HB8 HG8 HL8 HP8 ⊢
        go_wp2_with (first
          | (refine wpList_load_rw rfl 27 _ rfl rfl HX8.out rfl Tryd.underlying27 info_object ?_)
          | fail)
        refine (valid_any HO8.out (HS.out.errc.kept0 HG8.out) HF2.out).mono ?_
        rintro e w9 ⟨fv, rfl, hfl, hg⟩
        rw [Hnv.out] at hfl
        obtain ⟨B2, rfl, hB2⟩ := hfl
        have HB9 := hid (HB8.out.kept0 hg)
        have HC9 := hid hB2
        have HG9 := hid (grown_trans HG8.out hg)
        have HL9 := hid (HL8.out.kept0 hg)
        have HP9 := hid (grown_trans HP8.out hg)
        clear hg hB2 HX8 HO8 HB8 HG8 HL8 HP8
        have l0 : ((L : Int) == 0) = false := by simp only [beq_eq_false_iff_ne]; omega
        have l1 : (0 : Int) < (L : Int) := by omega
        obtain ⟨b2, o2, c2, hv2, -, hb2, hc2⟩ := HL9.out.at_ hL1
        simp only [Value.slice.injEq] at hv2
        obtain ⟨rfl, -, -⟩ := hv2
        have s0' : w9.cell? ⟨b2, o2, none⟩ = some (.int .i64 (f : Int)) := by
          have := hc2 0 _ (by rw [Hfr.out]; rfl)
          rwa [Nat.add_zero] at this
        have pf : w9.cell? ⟨bp, f, none⟩ = some (.int .i64 (f : Int)) := by
          have := (grown_cell (p := ⟨bp, f, none⟩) HP9.out HPb.out.1 (by simp)).trans (Hpc.out f (Nat.le_of_lt Hf1.out))
          rwa [Hpf.out] at this
        have f0 : (0 : Int) ≤ (f : Int) := by omega
        have f1 : (f : Int) < (x.C.length : Int) + 1 := by have := Hf1.out; omega
        have f2 : f < x.C.length + 1 := by have := Hf1.out; omega
        clear hc2 hb2 hL0 hL1
        go_wp2_with fail
        refine (placed_any 105 f (by decide) _).mono ?_
        rintro e w10 ⟨rfl, hg⟩
        have al := World.grownBy_alloc w10 (.cells #[.int .i64 105, .bool true, .int .i64 f] 40) none
        have HT := hid (RwAt.new w10 40 #[.int .i64 105, .bool true, .int .i64 f])
        have HBa := hid ((HB9.out.kept0 hg).kept0 al)
        have HCa := hid ((HC9.out.kept0 hg).kept0 al)
        have HGa := hid (grown_trans (grown_trans HG9.out hg) al)
        have Hzf := zero_flt
        clear hg al s0' pf HB9 HC9 HG9 HL9 HP9
        go_upto_region 15 with (fail)
        obtain ⟨T, hT⟩ : ∃ T, w10.heap.size = T := ⟨_, rfl⟩
        rw [hT] at HT ⊢
        clear hT Hzf
        generalize w10.alloc (.cells #[.int .i64 105, .bool true, .int .i64 f] 40) = w11 at HT HBa HCa HGa ⊢
        go_wp2_with (first
          | (refine wpList_load_rw_g (by kernel_rfl) 40 _ rfl rfl HT.out rfl Tryd.underlying40 info_flt9 ?_)
          | fail)
        refine (same_flt (HS.out.kept0 HGa.out) (v := atV B) (y := some (4, some f)) ⟨B, rfl, HBa.out⟩ (fun c p h => by cases h; decide) 105 true f true (by simp [fltC, fltB, fltN])).mono ?_
        rintro e w12 ⟨rfl, hg⟩
        have HTb := hid (HT.out.kept0 hg)
        have HCb := hid (HCa.out.kept0 hg)
        have HGb := hid (grown_trans HGa.out hg)
        clear hg HT HBa HCa HGa
        go_wp2_with (first
          | (refine wpList_load_rw_g (by kernel_rfl) 40 _ rfl rfl HTb.out rfl Tryd.underlying40 info_flt9 ?_)
          | fail)
        refine (same_flt (HS.out.kept0 HGb.out) (v := atV B2) (y := some (4, some f)) ⟨B2, rfl, HCb.out⟩ (fun c p h => by cases h; decide) 105 true f true (by simp [fltC, fltB, fltN])).mono ?_
        rintro e w13 ⟨rfl, hg⟩
        have HGc := hid (grown_trans HGb.out hg)
        clear hg
        go_wp2
        go_ret
        exact ⟨rfl, grown_below HGc.out⟩
    · refine (do_no (V := ⟨d, c, m, r, q, s⟩) (HO.out.kept0 HG3.out) (HS.out.errc.kept0 HG3.out) HF.out hv).mono ?_
      rintro e w4 ⟨fv, rfl, hfl, hg⟩
      obtain ⟨t, pv, rfl, heq, hneq⟩ := flt_is_e hfl hv
      have HG4 := hid (grown_trans HG3.out hg)
      rw [zeroO]
      have al := World.grownBy_alloc w4 (.cells #[.slice none 0 0, .slice none 0 0, .slice none 0 0, .slice none 0 0, .slice none 0 0, .slice none 0 0] 27) none
      have HG5 := hid (grown_trans HG4.out al)
      have Hzo := zero_obj
      clear hfl hg hv al
      go_upto_region 7 with (fail)
      clear Hzo
      generalize w4.alloc (.cells #[.slice none 0 0, .slice none 0 0, .slice none 0 0, .slice none 0 0, .slice none 0 0, .slice none 0 0] 27) = w5 at HG5 ⊢
      go_wp2
      go_ret
      exact ⟨rfl, grown_below HG5.out⟩
end Go.Proofs.YteanoklaammpiaaDoor
