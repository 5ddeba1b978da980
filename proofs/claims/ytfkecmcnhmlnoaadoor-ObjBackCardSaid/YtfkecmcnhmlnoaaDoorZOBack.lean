/- The law ObjBack: walked. (Made by goback.py.) -/
import Derived.Test.YtfkecmcnhmlnoaaDoorZOBent0
import Derived.Test.YtfkecmcnhmlnoaaDoorZObjY
import Derived.Deep.RegionHeld3
import Derived.StillTailTactics
namespace Go.Proofs.YtfkecmcnhmlnoaaDoor
open Go.RowKit
set_option maxRecDepth 100000 in
set_option maxHeartbeats 16000000 in
theorem back_walk (V : OV) (x : PO) (bv : Value) (bs : List Int) (a : Int) (W : World) (A : Nat → Addr) (hS : Sents W A) (h : OAt W V x) (hf : OFit x) (hb : BvAt W bv bs) (hbt : BtB bs) (ha0 : -9223372036854775808 ≤ a) (ha1 : a ≤ 9223372036854775807) :
    Calls Tryd.prog 4 #[V.agg, bv, .int .i64 a] W fun e W' => e = .returned (.bool true) ∧ Below W.heap.size W W' := by
  obtain ⟨d, c, m, r, q, s⟩ := V
  obtain ⟨bp, bc, rfl⟩ := hb.len
  obtain ⟨L, hL⟩ : ∃ L, bs.length = L := ⟨_, rfl⟩
  rw [hL] at hb ⊢
  have al := World.grownBy_alloc W (.cells #[d, c, m, r, q, s] 29) none
  have HB := hid (Bo.new h)
  have HS := hid (hS.kept0 al)
  have HV := hid (hb.kept0 al)
  have HVt := hid hbt
  have HF := hid hf
  have Ha := hid (And.intro ha0 ha1)
  have HLb := hid hL
  clear h hf hS ha0 ha1 hb hbt al hL
  go_enter Tryd.func4, Tryd.ntmps4
  go_upto_region 1 with (fail)
  obtain ⟨G0, hG⟩ : ∃ G, W.heap.size = G := ⟨_, rfl⟩
  rw [hG] at HB ⊢
  have HGW := hid hG
  clear hG
  generalize W.alloc (.cells #[d, c, m, r, q, s] 29) = w1 at HB HS HV ⊢
  go_wp2_with fail
  refine (first9_any HS.out.errc).mono ?_
  rintro e w2 ⟨rfl, hg⟩
  have HB2 := hid (HB.out.kept0 hg)
  have HS2 := hid (HS.out.kept0 hg)
  have HV2 := hid (HV.out.kept0 hg)
  clear hg HB HS HV
  go_wp2_with (first
    | (refine wpList_load_rw rfl 29 _ rfl rfl HB2.out.box rfl Tryd.underlying29 info_object ?_)
    | fail)
  refine (light_any HB2.out.o HF.out 200 (by omega) (by omega)).mono ?_
  rintro e w3 ⟨⟨lb, rfl, hlb⟩, hg⟩
  have HB3 := hid (HB2.out.kept0 hg)
  have HS3 := hid (HS2.out.kept0 hg)
  have HV3 := hid (HV2.out.kept0 hg)
  clear hg HB2 HS2 HV2
  cases lb
  · go_wp2
    go_ret
    exact ⟨rfl, grown_below HB3.out.g⟩
  have HL := hid (ll_of_light (hlb rfl) (by omega))
  clear hlb
  by_cases hn : 4000 < L
  · have hn1 : (L : Int) > 4000 := by omega
    go_wp2
    go_ret
    exact ⟨rfl, grown_below HB3.out.g⟩
  have hn1 : (L : Int) ≤ 4000 := by omega
  have Hl2 : Hid (bs.length ≤ 1099511627776) := hid (by have := HLb.out; omega)
  clear hn
  go_wp2_with fail
  refine (rread_any HS3.out.errr HS3.out.errc HV3.out HVt.out Hl2.out).mono ?_
  rintro e w7 ⟨⟨d2, c2, m2, r2, q2, s2⟩, fv, rfl, hg, hfl, hoa, hov⟩
  have HB7 := hid (HB3.out.kept0 hg)
  have HS7 := hid (HS3.out.kept0 hg)
  have HV7 := hid (HV3.out.kept0 hg)
  have Hz := zero_obj
  clear HB3 HS3 HV3 hn1
  cases hrf : readF bs with
  | none =>
    rw [hrf] at hfl
    obtain rfl : fv = .nilIface := hfl
    have hoa := hoa hrf
    obtain ⟨p0, c0, hv0⟩ := hoa.d.len'
    obtain ⟨p1, c1, hv1⟩ := hoa.c.len'
    obtain ⟨p2, c2', hv2⟩ := hoa.m.len'
    obtain ⟨p3, c3, hv3⟩ := hoa.r.len
    obtain ⟨p4, c4, hv4⟩ := hoa.q.len
    obtain ⟨p5, c5, hv5⟩ := hoa.s.len
    simp only at hv0 hv1 hv2 hv3 hv4 hv5
    subst hv0; subst hv1; subst hv2; subst hv3; subst hv4; subst hv5
    have hok := oread_yes HVt.out hrf
    have hvp := valid_none hok.1
    obtain ⟨x2, hx2⟩ : ∃ x2, readO bs = x2 := ⟨_, rfl⟩
    rw [hx2] at hoa hok hvp ⊢
    have al := World.grownBy_alloc w7 (.cells #[.slice p0 x2.D.length c0, .slice p1 x2.C.length c1, .slice p2 x2.M.length c2', .slice p3 x2.R.length c3, .slice p4 x2.Q.length c4, .slice p5 x2.S.length c5] 29) none
    have HO8 := hid (hoa.kept0 al)
    have HB8 := hid (HB7.out.kept0 al)
    have HS8 := hid (HS7.out.kept0 al)
    have HV8 := hid (HV7.out.kept0 al)
    have HX8 := hid (RwAt.new w7 29 #[.slice p0 x2.D.length c0, .slice p1 x2.C.length c1, .slice p2 x2.M.length c2', .slice p3 x2.R.length c3, .slice p4 x2.Q.length c4, .slice p5 x2.S.length c5])
    have HOk2 := hid hok
    have HVp := hid hvp
    clear hrf hoa hok hvp hx2 al hg hov HB7 HS7 HV7
    go_upto_region 7 with (fail)
    clear Hz
    obtain ⟨G1, hG1⟩ : ∃ G, w7.heap.size = G := ⟨_, rfl⟩
    rw [hG1] at HX8 ⊢
    clear hG1
    generalize w7.alloc (.cells #[.slice p0 x2.D.length c0, .slice p1 x2.C.length c1, .slice p2 x2.M.length c2', .slice p3 x2.R.length c3, .slice p4 x2.Q.length c4, .slice p5 x2.S.length c5] 29) = w8 at HO8 HB8 HS8 HV8 HX8 ⊢
    go_wp2_with (first
      | (refine wpList_load_rw rfl 29 _ rfl rfl HX8.out rfl Tryd.underlying29 info_object ?_)
      | fail)
    refine (bytes_yes HO8.out HS8.out.errc HOk2.out.2.1 HVp.out).mono ?_
    rintro e w9 ⟨v, rfl, hby, hg⟩
    rw [HOk2.out.2.2] at hby
    obtain ⟨yp, yc, rfl⟩ := own_slice hby.own
    have HO9 := hid (HO8.out.kept0 hg)
    have HB9 := hid (HB8.out.kept0 hg)
    have HS9 := hid (HS8.out.kept0 hg)
    have HV9 := hid (HV8.out.kept0 hg)
    have HX9 := hid (HX8.out.kept0 hg)
    have HY9 := hid hby.bv
    clear hg hby HO8 HB8 HS8 HV8 HX8
    go_wp2_with (first
      | (refine wpList_load_rw_g (by kernel_rfl) 29 _ rfl rfl HX9.out rfl Tryd.underlying29 info_object ?_)
      | fail)
    refine (valid_any HO9.out HS9.out.errc HOk2.out.2.1).mono ?_
    rintro e w10 ⟨v, rfl, hfl, hg⟩
    rw [HVp.out] at hfl
    obtain rfl : v = .nilIface := hfl
    have HB10 := hid (HB9.out.kept0 hg)
    have HS10 := hid (HS9.out.kept0 hg)
    have HV10 := hid (HV9.out.kept0 hg)
    have HY10 := hid (HY9.out.kept0 hg)
    clear hg HB9 HS9 HV9 HY9 HO9 HX9
    go_wp2_with fail
    refine (sby_any HY10.out.sl HV10.out.sl (by have := Hl2.out; omega) true (by simp)).mono ?_
    rintro e w11 ⟨rfl, hg⟩
    have HBz := hid (HB10.out.kept0 hg)
    have HSz := hid (HS10.out.kept0 hg)
    clear hg HB10 HS10 HV10 HY10 HOk2 HVp
    go_upto_region 11 with (fail)
    go_wp2_with (first
      | (refine wpList_load_rw rfl 29 _ rfl rfl HBz.out.box rfl Tryd.underlying29 info_object ?_)
      | fail)
    by_cases hv : validP x = none
    rotate_left
    · refine (bytes_no HBz.out.o HSz.out.errc HF.out hv).mono ?_
      rintro e wa ⟨fv2, rfl, hfl2, hga⟩
      obtain ⟨t2, pv2, rfl, hneq2⟩ := flt_is hfl2 hv
      have HBa := hid (HBz.out.kept0 hga)
      have HSa := hid (HSz.out.kept0 hga)
      clear hfl2 hga
      go_wp2_with (first
        | (refine wpList_load_rw_g (by kernel_rfl) 29 _ rfl rfl HBa.out.box rfl Tryd.underlying29 info_object ?_)
        | fail)
      refine (valid_any HBa.out.o HSa.out.errc HF.out).mono ?_
      rintro e wb ⟨fv3, rfl, hfl3, hgb⟩
      obtain ⟨t3, pv3, rfl, hneq3⟩ := flt_is hfl3 hv
      have HGb := hid (grown_trans HBa.out.g hgb)
      clear hfl3 hgb hv
      go_wp2
      go_ret
      exact ⟨rfl, grown_below HGb.out⟩
    · have HOk := hid (valid_ok hv)
      have HLen := hid (bytes_len (valid_ok hv))
      have HBt := hid (bytes_bt (valid_ok hv) HF.out)
      refine (bytes_yes HBz.out.o HSz.out.errc HF.out hv).mono ?_
      rintro e wa ⟨v3, rfl, hby, hga⟩
      have HBa := hid (HBz.out.kept0 hga)
      have HSa := hid (HSz.out.kept0 hga)
      obtain ⟨b3, hb3⟩ : ∃ b3, bytesP x = b3 := ⟨_, rfl⟩
      have Hb3 := hid hb3
      rw [hb3] at hby HLen HBt
      obtain ⟨M, hM⟩ : ∃ M, b3.length = M := ⟨_, rfl⟩
      have HM := hid hM
      obtain ⟨g, cap, hvv, -⟩ := by_set hby (k := 0) (by have := HLen.out; omega)
      rw [hM] at hvv HLen
      subst hvv
      have HYa := hid hby.bv
      have hcp : M ≤ cap := by
        rcases hby.bv with ⟨p, c', hv', h0⟩ | ⟨b, o, c', hv', h1, h2, _⟩
        · have := HLen.out; rw [h0] at hM; simp at hM; omega
        · simp only [Value.slice.injEq] at hv'
          omega
      have hcm : cap ≤ 9223372036854775807 := by
        rcases hby.bv with ⟨p, c', hv', h0⟩ | ⟨b, o, c', hv', h1, h2, _⟩
        · have := HLen.out; rw [h0] at hM; simp at hM; omega
        · simp only [Value.slice.injEq] at hv'
          omega
      have Hcp := hid (And.intro hcp hcm)
      have Hlm : Hid (b3.length ≤ 1099511627776) := hid (by have := HLen.out; omega)
      have hwh := oread_whole HOk.out HF.out
      rw [hb3] at hwh
      have Hwh := hid hwh
      clear hby hga hv hb3 hM hcp hcm hwh
      go_wp2_with fail
      refine (rread_any HSa.out.errr HSa.out.errc HYa.out HBt.out Hlm.out).mono ?_
      rintro e wb ⟨⟨dd, cc, mm, rr, qq, ss⟩, fv4, rfl, hg, hfl4, hoa4, -⟩
      rw [Hwh.out.2] at hfl4
      obtain rfl : fv4 = .nilIface := hfl4
      have hoa4 := hoa4 Hwh.out.2
      rw [Hwh.out.1] at hoa4
      obtain ⟨u0, e0, hv0⟩ := hoa4.d.len'
      obtain ⟨u1, e1, hv1⟩ := hoa4.c.len'
      obtain ⟨u2, e2, hv2⟩ := hoa4.m.len'
      obtain ⟨u3, e3, hv3⟩ := hoa4.r.len
      obtain ⟨u4, e4, hv4⟩ := hoa4.q.len
      obtain ⟨u5, e5, hv5⟩ := hoa4.s.len
      simp only at hv0 hv1 hv2 hv3 hv4 hv5
      subst hv0; subst hv1; subst hv2; subst hv3; subst hv4; subst hv5
      have Hz := zero_obj
      have al := World.grownBy_alloc wb (.cells #[.slice u0 x.D.length e0, .slice u1 x.C.length e1, .slice u2 x.M.length e2, .slice u3 x.R.length e3, .slice u4 x.Q.length e4, .slice u5 x.S.length e5] 29) none
      have HOb := hid (hoa4.kept0 al)
      have HBb := hid ((HBa.out.kept0 hg).kept0 al)
      have HSb := hid ((HSa.out.kept0 hg).kept0 al)
      have HYb := hid ((HYa.out.kept0 hg).kept0 al)
      have HXb := hid (RwAt.new wb 29 #[.slice u0 x.D.length e0, .slice u1 x.C.length e1, .slice u2 x.M.length e2, .slice u3 x.R.length e3, .slice u4 x.Q.length e4, .slice u5 x.S.length e5])
      clear hoa4 hg al HBa HSa HYa HBz HSz Hwh
      go_upto_region 15 with (fail)
      obtain ⟨G2, hG2⟩ : ∃ G, wb.heap.size = G := ⟨_, rfl⟩
      rw [hG2] at HXb ⊢
      clear hG2
      generalize wb.alloc (.cells #[.slice u0 x.D.length e0, .slice u1 x.C.length e1, .slice u2 x.M.length e2, .slice u3 x.R.length e3, .slice u4 x.Q.length e4, .slice u5 x.S.length e5] 29) = wc at HOb HBb HSb HYb HXb ⊢
      obtain ⟨k, hk⟩ : ∃ k, numB a M = k := ⟨_, rfl⟩
      have Hk := hid hk
      have hkL : k < M := by rw [← hk]; exact numB_lt a (by have := HLen.out; omega)
      have HkL := hid hkL
      have kk0 : (0 : Int) ≤ (k : Int) := by omega
      have kk1 : (k : Int) ≤ (cap : Int) := by have := Hcp.out; omega
      clear hk hkL
      clear Hz
      go_wp2_with fail
      refine (number_of a M M k rfl Hk.out (by have := HLen.out; omega) (by have := HLen.out; omega) Ha.out.1 Ha.out.2).mono ?_
      rintro e wd ⟨rfl, rfl⟩
      have hcz : (cap = 0) = False := eq_false (by have := Hcp.out; have := HLen.out; omega)
      go_wp2_with fail
      have hne5 := oread_cut HOk.out HF.out (by rw [Hb3.out]; exact HBt.out) k (by rw [Hb3.out, HM.out]; exact HkL.out)
      rw [Hb3.out] at hne5
      have HNe5 := hid hne5
      clear hne5
      refine (rread_any HSb.out.errr HSb.out.errc (HYb.out.cut (k := k) (by have := HM.out; have := HkL.out; omega)) (fun b hb => HBt.out b (List.mem_of_mem_take hb)) (by have := Hlm.out; rw [List.length_take]; omega)).mono ?_
      rintro e we ⟨⟨dd, cc, mm, rr, qq, ss⟩, fv5, rfl, hg, hfl5, -, hov5⟩
      obtain ⟨t5, pv5, rfl, heq5, hneq5⟩ := flt_is_e hfl5 HNe5.out
      have hV5 := hov5 HNe5.out
      simp only [ov0, OV.mk.injEq] at hV5
      obtain ⟨rfl, rfl, rfl, rfl, rfl, rfl⟩ := hV5
      have Hz := zero_obj
      have al := World.grownBy_alloc we (.cells #[.slice none 0 0, .slice none 0 0, .slice none 0 0, .slice none 0 0, .slice none 0 0, .slice none 0 0] 29) none
      have HOe := hid ((HOb.out.kept0 hg).kept0 al)
      have HBe := hid ((HBb.out.kept0 hg).kept0 al)
      have HSe := hid ((HSb.out.kept0 hg).kept0 al)
      have HYe := hid ((HYb.out.kept0 hg).kept0 al)
      have HXe := hid ((HXb.out.kept0 hg).kept0 al)
      clear hfl5 hov5 hg al HOb HBb HSb HYb HXb HNe5 kk0 kk1 hcz
      go_upto_region 16 with (fail)
      clear Hz
      generalize we.alloc (.cells #[.slice none 0 0, .slice none 0 0, .slice none 0 0, .slice none 0 0, .slice none 0 0, .slice none 0 0] 29) = wf at HOe HBe HSe HYe HXe ⊢
      go_wp2_with fail
      refine (rbytes_any HYe.out.sl (by have := HM.out; have := HLen.out; omega)).mono ?_
      rintro e wg ⟨v6, rfl, hby6, hg⟩
      obtain ⟨yp6, yc6, rfl⟩ := own_slice hby6.own
      have HGg := hid hg
      have HBy6 := hid (hby6.kept0 (World.grownBy_alloc wg (.cells #[.int .u8 0] 5) none))
      have HB6 := hid hby6
      have hbo := HBy6.out.own
      rw [HM.out] at hbo
      have HBo := hid hbo
      clear hby6 hg hbo
      rw [HM.out]
      obtain ⟨i, hi, hz0, hz1, hz2⟩ := info_byte
      have Hi := hid hi
      have Hz0 := hid hz0
      have Hz1 := hid hz1
      have Hz2 := hid hz2
      have HML : Hid (M ≤ 100000) := hid HLen.out.2
      have Hnews : Hid (∀ j u, [Value.int .u8 0][j]? = some u → (wg.alloc (.cells #[.int .u8 0] 5)).cell? ((⟨wg.heap.size, 0, none⟩ : Addr).add j) = some u) := hid (World.news_of_block (heap_alloc_new wg _))
      clear hi hz0 hz1 hz2
      go_wp2_with (first
        | (refine wpList_append_lies _ rfl _ _ 25 rfl wf.heap.size 5 i _ 1 1 Tryd.underlying25 Hi.out Hz0.out Hz1.out Hz2.out rfl (by decide) _ M _ rfl HBo.out ⟨wg.heap.size, 0, none⟩ 1 1 _ rfl rfl Hnews.out (by simp [Value.oneCell']) (by decide) (by have := HML.out; unfold maxLen; omega) (by have := HML.out; omega) HBy6.out.le _ rfl ?_; intro g6 cap6 w6 hown hgrow hat hlt2; have HO := hid hown; have HG := hid hgrow; clear hown hgrow hat hlt2)
        | fail)
      have hgw : wf.grownBy w6 none := grown_new' (grown_trans (grown_none HGg.out) (grown_trans (World.grownBy_alloc wg _ _) HG.out)) (fun j hj => (HB6.out.own.lt j (by rw [HM.out]; exact hj)).1)
      have hy6 : By wf.heap.size w6 (.slice (some ⟨g6, 0, none⟩) (M + 1) cap6) (b3 ++ [0]) := ⟨by rw [List.length_append, HM.out, List.map_append]; exact HO.out, hgw.size⟩
      have HYg := hid hy6.bv
      have HOg := hid (HOe.out.kept0 hgw)
      have HBg := hid (HBe.out.kept0 hgw)
      have HSg := hid (HSe.out.kept0 hgw)
      have HXg := hid (HXe.out.kept0 hgw)
      have hlong := oread_longer HOk.out HF.out [0] (by simp)
      rw [Hb3.out] at hlong
      have HLg := hid hlong
      clear hgw hy6 hlong HO HG HGg HBy6 HB6 HBo Hnews HOe HBe HSe HYe HXe Hi Hz0 Hz1 Hz2
      refine (rread_any HSg.out.errr HSg.out.errc HYg.out (fun b hb => by rcases List.mem_append.1 hb with h | h; exact HBt.out b h; obtain rfl := List.mem_singleton.1 h; omega) (by have := HM.out; have := HML.out; rw [List.length_append, List.length_singleton]; omega)).mono ?_
      rintro e wh ⟨⟨dd, cc, mm, rr, qq, ss⟩, fv7, rfl, hg, hfl7, -, hov7⟩
      rw [HLg.out] at hfl7
      have hV7 := hov7 (by rw [HLg.out]; simp)
      simp only [ov0, OV.mk.injEq] at hV7
      obtain ⟨rfl, rfl, rfl, rfl, rfl, rfl⟩ := hV7
      have Hz := zero_obj
      have al := World.grownBy_alloc wh (.cells #[.slice none 0 0, .slice none 0 0, .slice none 0 0, .slice none 0 0, .slice none 0 0, .slice none 0 0] 29) none
      have HOh := hid ((HOg.out.kept0 hg).kept0 al)
      have HBh := hid ((HBg.out.kept0 hg).kept0 al)
      have HSh := hid ((HSg.out.kept0 hg).kept0 al)
      have HXh := hid ((HXg.out.kept0 hg).kept0 al)
      have HFh := hid (hfl7.kept0 al)
      clear hfl7 hov7 hg al HOg HBg HSg HXg HYg HLg
      go_upto_region 17 with (fail)
      clear Hz
      generalize wh.alloc (.cells #[.slice none 0 0, .slice none 0 0, .slice none 0 0, .slice none 0 0, .slice none 0 0, .slice none 0 0] 29) = wi at HOh HBh HSh HXh HFh ⊢
      go_wp2_with (first
        | (refine wpList_load_rw_g (by kernel_rfl) 29 _ rfl rfl HXh.out rfl Tryd.underlying29 info_object ?_)
        | (refine wpList_load_rw_g (by kernel_rfl) 29 _ rfl rfl HBh.out.box rfl Tryd.underlying29 info_object ?_)
        | fail)
      refine (osame_any (V' := ⟨d, c, m, r, q, s⟩) HOh.out HBh.out.o HL.out true (by simp)).mono ?_
      rintro e wj ⟨rfl, hg⟩
      have HBj := hid (HBh.out.kept0 hg)
      have HSj := hid (HSh.out.kept0 hg)
      have HFj := hid (HFh.out.kept0 hg)
      clear hg HBh HSh HFh HOh HXh
      go_wp2_with fail
      refine (is_flt HSj.out HFj.out (fun c p h => by obtain ⟨rfl, rfl⟩ := Prod.mk.inj (Option.some.inj h); omega) 102 true (by decide)).mono ?_
      rintro e wk ⟨rfl, hg⟩
      have HGk := hid (grown_trans HBj.out.g hg)
      clear hg
      go_wp2
      go_ret
      exact ⟨rfl, grown_below HGk.out⟩
  | some y =>
    rw [hrf] at hfl
    obtain ⟨t, pv, rfl, heq, hneq⟩ := flt_is_e hfl (by simp)
    have hV := hov (by rw [hrf]; simp)
    simp only [ov0, OV.mk.injEq] at hV
    obtain ⟨rfl, rfl, rfl, rfl, rfl, rfl⟩ := hV
    have al := World.grownBy_alloc w7 (.cells #[.slice none 0 0, .slice none 0 0, .slice none 0 0, .slice none 0 0, .slice none 0 0, .slice none 0 0] 29) none
    have HBz := hid (HB7.out.kept0 al)
    have HSz := hid (HS7.out.kept0 al)
    clear hrf hfl hoa hov al hg HB7 HS7 HV7
    go_upto_region 7 with (fail)
    clear Hz
    generalize w7.alloc (.cells #[.slice none 0 0, .slice none 0 0, .slice none 0 0, .slice none 0 0, .slice none 0 0, .slice none 0 0] 29) = w8 at HBz HSz ⊢
    go_upto_region 11 with (fail)
    clear heq hneq
    go_wp2_with (first
      | (refine wpList_load_rw rfl 29 _ rfl rfl HBz.out.box rfl Tryd.underlying29 info_object ?_)
      | fail)
    by_cases hv : validP x = none
    rotate_left
    · refine (bytes_no HBz.out.o HSz.out.errc HF.out hv).mono ?_
      rintro e wa ⟨fv2, rfl, hfl2, hga⟩
      obtain ⟨t2, pv2, rfl, hneq2⟩ := flt_is hfl2 hv
      have HBa := hid (HBz.out.kept0 hga)
      have HSa := hid (HSz.out.kept0 hga)
      clear hfl2 hga
      go_wp2_with (first
        | (refine wpList_load_rw_g (by kernel_rfl) 29 _ rfl rfl HBa.out.box rfl Tryd.underlying29 info_object ?_)
        | fail)
      refine (valid_any HBa.out.o HSa.out.errc HF.out).mono ?_
      rintro e wb ⟨fv3, rfl, hfl3, hgb⟩
      obtain ⟨t3, pv3, rfl, hneq3⟩ := flt_is hfl3 hv
      have HGb := hid (grown_trans HBa.out.g hgb)
      clear hfl3 hgb hv
      go_wp2
      go_ret
      exact ⟨rfl, grown_below HGb.out⟩
    · have HOk := hid (valid_ok hv)
      have HLen := hid (bytes_len (valid_ok hv))
      have HBt := hid (bytes_bt (valid_ok hv) HF.out)
      refine (bytes_yes HBz.out.o HSz.out.errc HF.out hv).mono ?_
      rintro e wa ⟨v3, rfl, hby, hga⟩
      have HBa := hid (HBz.out.kept0 hga)
      have HSa := hid (HSz.out.kept0 hga)
      obtain ⟨b3, hb3⟩ : ∃ b3, bytesP x = b3 := ⟨_, rfl⟩
      have Hb3 := hid hb3
      rw [hb3] at hby HLen HBt
      obtain ⟨M, hM⟩ : ∃ M, b3.length = M := ⟨_, rfl⟩
      have HM := hid hM
      obtain ⟨g, cap, hvv, -⟩ := by_set hby (k := 0) (by have := HLen.out; omega)
      rw [hM] at hvv HLen
      subst hvv
      have HYa := hid hby.bv
      have hcp : M ≤ cap := by
        rcases hby.bv with ⟨p, c', hv', h0⟩ | ⟨b, o, c', hv', h1, h2, _⟩
        · have := HLen.out; rw [h0] at hM; simp at hM; omega
        · simp only [Value.slice.injEq] at hv'
          omega
      have hcm : cap ≤ 9223372036854775807 := by
        rcases hby.bv with ⟨p, c', hv', h0⟩ | ⟨b, o, c', hv', h1, h2, _⟩
        · have := HLen.out; rw [h0] at hM; simp at hM; omega
        · simp only [Value.slice.injEq] at hv'
          omega
      have Hcp := hid (And.intro hcp hcm)
      have Hlm : Hid (b3.length ≤ 1099511627776) := hid (by have := HLen.out; omega)
      have hwh := oread_whole HOk.out HF.out
      rw [hb3] at hwh
      have Hwh := hid hwh
      clear hby hga hv hb3 hM hcp hcm hwh
      go_wp2_with fail
      refine (rread_any HSa.out.errr HSa.out.errc HYa.out HBt.out Hlm.out).mono ?_
      rintro e wb ⟨⟨dd, cc, mm, rr, qq, ss⟩, fv4, rfl, hg, hfl4, hoa4, -⟩
      rw [Hwh.out.2] at hfl4
      obtain rfl : fv4 = .nilIface := hfl4
      have hoa4 := hoa4 Hwh.out.2
      rw [Hwh.out.1] at hoa4
      obtain ⟨u0, e0, hv0⟩ := hoa4.d.len'
      obtain ⟨u1, e1, hv1⟩ := hoa4.c.len'
      obtain ⟨u2, e2, hv2⟩ := hoa4.m.len'
      obtain ⟨u3, e3, hv3⟩ := hoa4.r.len
      obtain ⟨u4, e4, hv4⟩ := hoa4.q.len
      obtain ⟨u5, e5, hv5⟩ := hoa4.s.len
      simp only at hv0 hv1 hv2 hv3 hv4 hv5
      subst hv0; subst hv1; subst hv2; subst hv3; subst hv4; subst hv5
      have Hz := zero_obj
      have al := World.grownBy_alloc wb (.cells #[.slice u0 x.D.length e0, .slice u1 x.C.length e1, .slice u2 x.M.length e2, .slice u3 x.R.length e3, .slice u4 x.Q.length e4, .slice u5 x.S.length e5] 29) none
      have HOb := hid (hoa4.kept0 al)
      have HBb := hid ((HBa.out.kept0 hg).kept0 al)
      have HSb := hid ((HSa.out.kept0 hg).kept0 al)
      have HYb := hid ((HYa.out.kept0 hg).kept0 al)
      have HXb := hid (RwAt.new wb 29 #[.slice u0 x.D.length e0, .slice u1 x.C.length e1, .slice u2 x.M.length e2, .slice u3 x.R.length e3, .slice u4 x.Q.length e4, .slice u5 x.S.length e5])
      clear hoa4 hg al HBa HSa HYa HBz HSz Hwh
      go_upto_region 15 with (fail)
      obtain ⟨G2, hG2⟩ : ∃ G, wb.heap.size = G := ⟨_, rfl⟩
      rw [hG2] at HXb ⊢
      clear hG2
      generalize wb.alloc (.cells #[.slice u0 x.D.length e0, .slice u1 x.C.length e1, .slice u2 x.M.length e2, .slice u3 x.R.length e3, .slice u4 x.Q.length e4, .slice u5 x.S.length e5] 29) = wc at HOb HBb HSb HYb HXb ⊢
      obtain ⟨k, hk⟩ : ∃ k, numB a M = k := ⟨_, rfl⟩
      have Hk := hid hk
      have hkL : k < M := by rw [← hk]; exact numB_lt a (by have := HLen.out; omega)
      have HkL := hid hkL
      have kk0 : (0 : Int) ≤ (k : Int) := by omega
      have kk1 : (k : Int) ≤ (cap : Int) := by have := Hcp.out; omega
      clear hk hkL
      clear Hz
      go_wp2_with fail
      refine (number_of a M M k rfl Hk.out (by have := HLen.out; omega) (by have := HLen.out; omega) Ha.out.1 Ha.out.2).mono ?_
      rintro e wd ⟨rfl, rfl⟩
      have hcz : (cap = 0) = False := eq_false (by have := Hcp.out; have := HLen.out; omega)
      go_wp2_with fail
      have hne5 := oread_cut HOk.out HF.out (by rw [Hb3.out]; exact HBt.out) k (by rw [Hb3.out, HM.out]; exact HkL.out)
      rw [Hb3.out] at hne5
      have HNe5 := hid hne5
      clear hne5
      refine (rread_any HSb.out.errr HSb.out.errc (HYb.out.cut (k := k) (by have := HM.out; have := HkL.out; omega)) (fun b hb => HBt.out b (List.mem_of_mem_take hb)) (by have := Hlm.out; rw [List.length_take]; omega)).mono ?_
      rintro e we ⟨⟨dd, cc, mm, rr, qq, ss⟩, fv5, rfl, hg, hfl5, -, hov5⟩
      obtain ⟨t5, pv5, rfl, heq5, hneq5⟩ := flt_is_e hfl5 HNe5.out
      have hV5 := hov5 HNe5.out
      simp only [ov0, OV.mk.injEq] at hV5
      obtain ⟨rfl, rfl, rfl, rfl, rfl, rfl⟩ := hV5
      have Hz := zero_obj
      have al := World.grownBy_alloc we (.cells #[.slice none 0 0, .slice none 0 0, .slice none 0 0, .slice none 0 0, .slice none 0 0, .slice none 0 0] 29) none
      have HOe := hid ((HOb.out.kept0 hg).kept0 al)
      have HBe := hid ((HBb.out.kept0 hg).kept0 al)
      have HSe := hid ((HSb.out.kept0 hg).kept0 al)
      have HYe := hid ((HYb.out.kept0 hg).kept0 al)
      have HXe := hid ((HXb.out.kept0 hg).kept0 al)
      clear hfl5 hov5 hg al HOb HBb HSb HYb HXb HNe5 kk0 kk1 hcz
      go_upto_region 16 with (fail)
      clear Hz
      generalize we.alloc (.cells #[.slice none 0 0, .slice none 0 0, .slice none 0 0, .slice none 0 0, .slice none 0 0, .slice none 0 0] 29) = wf at HOe HBe HSe HYe HXe ⊢
      go_wp2_with fail
      refine (rbytes_any HYe.out.sl (by have := HM.out; have := HLen.out; omega)).mono ?_
      rintro e wg ⟨v6, rfl, hby6, hg⟩
      obtain ⟨yp6, yc6, rfl⟩ := own_slice hby6.own
      have HGg := hid hg
      have HBy6 := hid (hby6.kept0 (World.grownBy_alloc wg (.cells #[.int .u8 0] 5) none))
      have HB6 := hid hby6
      have hbo := HBy6.out.own
      rw [HM.out] at hbo
      have HBo := hid hbo
      clear hby6 hg hbo
      rw [HM.out]
      obtain ⟨i, hi, hz0, hz1, hz2⟩ := info_byte
      have Hi := hid hi
      have Hz0 := hid hz0
      have Hz1 := hid hz1
      have Hz2 := hid hz2
      have HML : Hid (M ≤ 100000) := hid HLen.out.2
      have Hnews : Hid (∀ j u, [Value.int .u8 0][j]? = some u → (wg.alloc (.cells #[.int .u8 0] 5)).cell? ((⟨wg.heap.size, 0, none⟩ : Addr).add j) = some u) := hid (World.news_of_block (heap_alloc_new wg _))
      clear hi hz0 hz1 hz2
      go_wp2_with (first
        | (refine wpList_append_lies _ rfl _ _ 25 rfl wf.heap.size 5 i _ 1 1 Tryd.underlying25 Hi.out Hz0.out Hz1.out Hz2.out rfl (by decide) _ M _ rfl HBo.out ⟨wg.heap.size, 0, none⟩ 1 1 _ rfl rfl Hnews.out (by simp [Value.oneCell']) (by decide) (by have := HML.out; unfold maxLen; omega) (by have := HML.out; omega) HBy6.out.le _ rfl ?_; intro g6 cap6 w6 hown hgrow hat hlt2; have HO := hid hown; have HG := hid hgrow; clear hown hgrow hat hlt2)
        | fail)
      have hgw : wf.grownBy w6 none := grown_new' (grown_trans (grown_none HGg.out) (grown_trans (World.grownBy_alloc wg _ _) HG.out)) (fun j hj => (HB6.out.own.lt j (by rw [HM.out]; exact hj)).1)
      have hy6 : By wf.heap.size w6 (.slice (some ⟨g6, 0, none⟩) (M + 1) cap6) (b3 ++ [0]) := ⟨by rw [List.length_append, HM.out, List.map_append]; exact HO.out, hgw.size⟩
      have HYg := hid hy6.bv
      have HOg := hid (HOe.out.kept0 hgw)
      have HBg := hid (HBe.out.kept0 hgw)
      have HSg := hid (HSe.out.kept0 hgw)
      have HXg := hid (HXe.out.kept0 hgw)
      have hlong := oread_longer HOk.out HF.out [0] (by simp)
      rw [Hb3.out] at hlong
      have HLg := hid hlong
      clear hgw hy6 hlong HO HG HGg HBy6 HB6 HBo Hnews HOe HBe HSe HYe HXe Hi Hz0 Hz1 Hz2
      refine (rread_any HSg.out.errr HSg.out.errc HYg.out (fun b hb => by rcases List.mem_append.1 hb with h | h; exact HBt.out b h; obtain rfl := List.mem_singleton.1 h; omega) (by have := HM.out; have := HML.out; rw [List.length_append, List.length_singleton]; omega)).mono ?_
      rintro e wh ⟨⟨dd, cc, mm, rr, qq, ss⟩, fv7, rfl, hg, hfl7, -, hov7⟩
      rw [HLg.out] at hfl7
      have hV7 := hov7 (by rw [HLg.out]; simp)
      simp only [ov0, OV.mk.injEq] at hV7
      obtain ⟨rfl, rfl, rfl, rfl, rfl, rfl⟩ := hV7
      have Hz := zero_obj
      have al := World.grownBy_alloc wh (.cells #[.slice none 0 0, .slice none 0 0, .slice none 0 0, .slice none 0 0, .slice none 0 0, .slice none 0 0] 29) none
      have HOh := hid ((HOg.out.kept0 hg).kept0 al)
      have HBh := hid ((HBg.out.kept0 hg).kept0 al)
      have HSh := hid ((HSg.out.kept0 hg).kept0 al)
      have HXh := hid ((HXg.out.kept0 hg).kept0 al)
      have HFh := hid (hfl7.kept0 al)
      clear hfl7 hov7 hg al HOg HBg HSg HXg HYg HLg
      go_upto_region 17 with (fail)
      clear Hz
      generalize wh.alloc (.cells #[.slice none 0 0, .slice none 0 0, .slice none 0 0, .slice none 0 0, .slice none 0 0, .slice none 0 0] 29) = wi at HOh HBh HSh HXh HFh ⊢
      go_wp2_with (first
        | (refine wpList_load_rw_g (by kernel_rfl) 29 _ rfl rfl HXh.out rfl Tryd.underlying29 info_object ?_)
        | (refine wpList_load_rw_g (by kernel_rfl) 29 _ rfl rfl HBh.out.box rfl Tryd.underlying29 info_object ?_)
        | fail)
      refine (osame_any (V' := ⟨d, c, m, r, q, s⟩) HOh.out HBh.out.o HL.out true (by simp)).mono ?_
      rintro e wj ⟨rfl, hg⟩
      have HBj := hid (HBh.out.kept0 hg)
      have HSj := hid (HSh.out.kept0 hg)
      have HFj := hid (HFh.out.kept0 hg)
      clear hg HBh HSh HFh HOh HXh
      go_wp2_with fail
      refine (is_flt HSj.out HFj.out (fun c p h => by obtain ⟨rfl, rfl⟩ := Prod.mk.inj (Option.some.inj h); omega) 102 true (by decide)).mono ?_
      rintro e wk ⟨rfl, hg⟩
      have HGk := hid (grown_trans HBj.out.g hg)
      clear hg
      go_wp2
      go_ret
      exact ⟨rfl, grown_below HGk.out⟩
end Go.Proofs.YtfkecmcnhmlnoaaDoor
