/- The law ObjBent: walked. -/
import Derived.Test.YtfkecmcnhmlnoaaDoorZOBent0
import Derived.Deep.RegionHeld3
import Derived.StillTailTactics
namespace Go.Proofs.YtfkecmcnhmlnoaaDoor
open Go.RowKit
theorem fault_code (z : Int) (bb nn : Value) (W : World) : (Instr.field 40 (.agg #[.int .i64 z, bb, nn]) 0).run Tryd.prog W = .ok (.int .i64 z) W := by
  simp [Instr.field, run_underlying Tryd.underlying40, asAgg, go_sem]
set_option maxRecDepth 100000 in
set_option maxHeartbeats 8000000 in
theorem bent_walk (V : OV) (x : PO) (a bit : Int) (W : World) (A : Nat → Addr) (hS : Sents W A) (h : OAt W V x) (hf : OFit x) (ha0 : -9223372036854775808 ≤ a) (ha1 : a ≤ 9223372036854775807) (hb0 : -9223372036854775808 ≤ bit) (hb1 : bit ≤ 9223372036854775807) :
    Calls Tryd.prog 6 #[V.agg, .int .i64 a, .int .i64 bit] W fun e W' => e = .returned (.bool true) ∧ Below W.heap.size W W' := by
  obtain ⟨d, c, m, r, q, s⟩ := V
  have HB := hid (Bo.new h)
  have HS := hid (hS.kept0 (World.grownBy_alloc W (.cells #[d, c, m, r, q, s] 29) none))
  have HF := hid hf
  have Ha := hid (And.intro ha0 ha1)
  have Hbt := hid (And.intro hb0 hb1)
  clear h hf hS ha0 ha1 hb0 hb1
  go_enter Tryd.func6, Tryd.ntmps6
  go_upto_region 1 with (fail)
  obtain ⟨G0, hG⟩ : ∃ G, W.heap.size = G := ⟨_, rfl⟩
  rw [hG] at HB ⊢
  have HGW := hid hG
  clear hG
  generalize W.alloc (.cells #[d, c, m, r, q, s] 29) = w1 at HB HS ⊢
  go_wp2_with fail
  refine (first9_any HS.out.errc).mono ?_
  rintro e w2 ⟨rfl, hg⟩
  have HB2 := hid (HB.out.kept0 hg)
  have HS2 := hid (HS.out.kept0 hg)
  clear hg HB HS
  go_wp2_with (first
    | (refine wpList_load_rw rfl 29 _ rfl rfl HB2.out.box rfl Tryd.underlying29 info_object ?_)
    | fail)
  refine (light_any HB2.out.o HF.out 100 (by omega) (by omega)).mono ?_
  rintro e w3 ⟨⟨lb, rfl, hlb⟩, hg⟩
  have HB3 := hid (HB2.out.kept0 hg)
  have HS3 := hid (HS2.out.kept0 hg)
  clear hg HB2 HS2
  cases lb
  · go_wp2
    go_ret
    exact ⟨rfl, grown_below HB3.out.g⟩
  have HL := hid (ll_of_light (hlb rfl) (by omega))
  clear hlb
  go_wp2_with (first
    | (refine wpList_load_rw rfl 29 _ rfl rfl HB3.out.box rfl Tryd.underlying29 info_object ?_)
    | fail)
  by_cases hv : validP x = none
  rotate_left
  · refine (bytes_no HB3.out.o HS3.out.errc HF.out hv).mono ?_
    rintro e w4 ⟨fv, rfl, hfl, hg⟩
    obtain ⟨t, pv, rfl, hneq⟩ := flt_is hfl hv
    have HG4 := hid (grown_trans HB3.out.g hg)
    clear hfl hg hv
    go_wp2
    go_ret
    exact ⟨rfl, grown_below HG4.out⟩
  · have HOk := hid (valid_ok hv)
    have HLen := hid (bytes_len (valid_ok hv))
    have HBt := hid (bytes_bt (valid_ok hv) HF.out)
    refine (bytes_yes HB3.out.o HS3.out.errc HF.out hv).mono ?_
    rintro e w4 ⟨v, rfl, hby, hg⟩
    have HBy := hid hby
    have HB4 := hid (HB3.out.kept0 hg)
    have HS4 := hid (HS3.out.kept0 hg)
    have HGw := hid hg
    obtain ⟨bs, hbs⟩ : ∃ bs, bytesP x = bs := ⟨_, rfl⟩
    have Hbs := hid hbs
    rw [hbs] at HBy HLen HBt
    obtain ⟨L, hL⟩ : ∃ L, bs.length = L := ⟨_, rfl⟩
    have HLn := hid hL
    rw [hL] at HLen
    obtain ⟨k, hk⟩ : ∃ k, numB a L = k := ⟨_, rfl⟩
    have Hk := hid hk
    have hkL : k < L := by rw [← hk]; exact numB_lt a (by have := HLen.out; omega)
    obtain ⟨g, cap, hvv, hBg, hglt, hc0, hfz, hset⟩ := by_set HBy.out (k := k) (by rw [hL]; exact hkL)
    rw [hL] at hvv
    subst hvv
    have HgB := hid (And.intro hBg hglt)
    have HSet := hid hset
    obtain ⟨old, hold⟩ : ∃ old, bs.getD k 0 = old := ⟨_, rfl⟩
    have Hold := hid hold
    rw [hold] at hc0
    obtain ⟨N, hN⟩ : ∃ N, numB bit 8 = N := ⟨_, rfl⟩
    have HN := hid hN
    have hN8 : N < 8 := by rw [← hN]; exact numB_lt bit (by omega)
    have HN8 := hid hN8
    have L0 : (L : Int) ≥ 24 := by have := HLen.out; omega
    have kk0 : (0 : Int) ≤ (k : Int) := by omega
    have kk1 : (k : Int) < (L : Int) := by omega
    have hu : IntKind.u64.wrap (N : Int) = (N : Int) := by rw [IntKind.wrap_u64]; omega
    have HkL := hid hkL
    have hom := HBt.out old (by rw [← hold, List.getD_eq_getElem?_getD, List.getElem?_eq_getElem (by rw [hL]; exact hkL)]; exact List.getElem_mem _)
    have HOld := hid hom
    have hk0e : bs[k]? = some old := by rw [← hold, List.getD_eq_getElem?_getD, List.getElem?_eq_getElem (by rw [hL]; exact hkL)]; rfl
    have Hke := hid hk0e
    clear hby hg hv hbs hL hk hBg hglt hset hold hN hkL hN8 hom hk0e
    go_wp2_with fail
    refine (number_of a L L k rfl Hk.out (by have := HLen.out; omega) (by have := HLen.out; omega) Ha.out.1 Ha.out.2).mono ?_
    rintro e w5 ⟨rfl, rfl⟩
    go_upto_region 10 with (fail)
    go_wp2
    refine wp_region_still_tail 10 (by kernel_rfl) (by kernel_rfl) ?_
    simp only [List.take_succ_cons, List.take_zero, List.drop_succ_cons, List.drop_zero]
    repeat still_step
    still_call ((number_of bit 8 8 N rfl HN.out (by omega) (by omega) Hbt.out.1 Hbt.out.2).mono fun _ _ ⟨he, hw⟩ => ⟨he, hw.symm⟩)
    repeat still_step
    refine wpStill_nil ?_
    change wpList _ _ _ _ _ w4.drew
    go_upto_region 11 with (fail)
    obtain ⟨y, hy⟩ : ∃ y, bits BinOp.xor IntKind.u8 old (2 ^ min N 8 % 256) = y := ⟨_, rfl⟩
    have hyb := bent_bit HN8.out HOld.out.1 HOld.out.2
    rw [hy] at hyb ⊢
    have HY := hid hyb
    have hgs : w4.grownBy (w4.setCell ⟨g, k, none⟩ (.int .u8 y)).drew (some g) := grown_drew (grown_setCell (grown_refl _ _) _ _)
    have hg36 : w3.grownBy (w4.setCell ⟨g, k, none⟩ (.int .u8 y)).drew none := grown_new' (grown_trans (grown_none HGw.out) hgs) (fun j hj => by obtain rfl := Option.some.inj hj; exact HgB.out.1)
    have HBv := hid ((HSet.out y).kept0 (grown_drew (grown_refl _ none)))
    have HB6 := hid (HB3.out.kept0 hg36)
    have HS6 := hid (HS3.out.kept0 hg36)
    clear hy hyb hgs hg36 hc0 hfz hu HSet HB3 HS3 HB4 HS4 HGw HBy
    generalize (w4.setCell ⟨g, k, none⟩ (.int .u8 y)).drew = w6 at HBv HB6 HS6 ⊢
    obtain ⟨bt, hbt⟩ : ∃ bt, bs.set k y = bt := ⟨_, rfl⟩
    have hBt2 : BtB bt := by rw [← hbt]; exact bt_set HBt.out k HY.out.1 HY.out.2.1
    have hne : bt ≠ bytesP x := by
      intro e
      rw [Hbs.out, ← hbt] at e
      have h1 := congrArg (·[k]?) e
      simp only [List.getElem?_set, if_pos (show k < bs.length by rw [HLn.out]; exact HkL.out), Hke.out] at h1
      exact HY.out.2.2 (Option.some.inj h1)
    have HBt2 := hid hBt2
    have HNe := hid hne
    have hl2 : bt.length ≤ 1099511627776 := by rw [← hbt, List.length_set, HLn.out]; have := HLen.out; omega
    have Hl2 := hid hl2
    rw [hbt] at HBv
    clear hbt hBt2 hne hl2
    go_wp2_with fail
    refine (rread_any HS6.out.errr HS6.out.errc HBv.out HBt2.out Hl2.out).mono ?_
    rintro e w7 ⟨⟨d2, c2, m2, r2, q2, s2⟩, fv, rfl, hg, hfl, hoa, hov⟩
    have HB7 := hid (HB6.out.kept0 hg)
    have HS7 := hid (HS6.out.kept0 hg)
    have Hz := zero_obj
    cases hrf : readF bt with
    | none =>
      rw [hrf] at hfl
      obtain rfl : fv = .nilIface := hfl
      have hoa := hoa hrf
      obtain ⟨p0, c0, hv0⟩ := hoa.d.len'
      obtain ⟨p1, c1, hv1⟩ := hoa.c.len'
      obtain ⟨p2, c2', hv2⟩ := hoa.m.len'
      obtain ⟨p3, c3, hv3⟩ := hoa.r.len
      obtain ⟨p4, c4, hv4⟩ := hoa.q.len
      obtain ⟨p5, c5, hv5⟩ := hoa.s.len
      simp only at hv0 hv1 hv2 hv3 hv4 hv5
      subst hv0; subst hv1; subst hv2; subst hv3; subst hv4; subst hv5
      have hok := oread_yes HBt2.out hrf
      have hnx := oread_other HBt2.out hrf HNe.out
      have hvp := valid_none hok.1
      have hlim := many_of hok.1
      have hml := hok.1.len
      obtain ⟨x2, hx2⟩ : ∃ x2, readO bt = x2 := ⟨_, rfl⟩
      rw [hx2] at hoa hok hnx hvp hlim hml ⊢
      have al := World.grownBy_alloc w7 (.cells #[.slice p0 x2.D.length c0, .slice p1 x2.C.length c1, .slice p2 x2.M.length c2', .slice p3 x2.R.length c3, .slice p4 x2.Q.length c4, .slice p5 x2.S.length c5] 29) none
      have HO8 := hid (hoa.kept0 al)
      have HB8 := hid (HB7.out.kept0 al)
      have HS8 := hid (HS7.out.kept0 al)
      have HX8 := hid (RwAt.new w7 29 #[.slice p0 x2.D.length c0, .slice p1 x2.C.length c1, .slice p2 x2.M.length c2', .slice p3 x2.R.length c3, .slice p4 x2.Q.length c4, .slice p5 x2.S.length c5])
      have HOk2 := hid hok
      have HNx := hid hnx
      have HVp := hid hvp
      have HL2 : Hid (Ll x2) := hid (by unfold Ll; omega)
      clear hrf hoa hok hnx hvp hlim hml hx2 al hg hov HB6 HS6 HB7 HS7
      go_upto_region 12 with (fail)
      clear Hz
      obtain ⟨G1, hG1⟩ : ∃ G, w7.heap.size = G := ⟨_, rfl⟩
      rw [hG1] at HX8 ⊢
      clear hG1
      generalize w7.alloc (.cells #[.slice p0 x2.D.length c0, .slice p1 x2.C.length c1, .slice p2 x2.M.length c2', .slice p3 x2.R.length c3, .slice p4 x2.Q.length c4, .slice p5 x2.S.length c5] 29) = w8 at HO8 HB8 HS8 HX8 ⊢
      have hne2 : decide (x2 = x) = false := by simpa using HNx.out
      have HNe2 := hid hne2
      clear hne2
      go_wp2_with (first
        | (refine wpList_load_rw_g (by kernel_rfl) 29 _ rfl rfl HX8.out rfl Tryd.underlying29 info_object ?_)
        | (refine wpList_load_rw_g (by kernel_rfl) 29 _ rfl rfl HB8.out.box rfl Tryd.underlying29 info_object ?_)
        | fail)
      refine (osame_any (V' := ⟨d, c, m, r, q, s⟩) HO8.out HB8.out.o HL2.out false HNe2.out).mono ?_
      rintro e w9 ⟨rfl, hg⟩
      have HO9 := hid (HO8.out.kept0 hg)
      have HB9 := hid (HB8.out.kept0 hg)
      have HS9 := hid (HS8.out.kept0 hg)
      have HX9 := hid (HX8.out.kept0 hg)
      clear hg HO8 HB8 HS8 HX8
      go_wp2_with (first
        | (refine wpList_load_rw_g (by kernel_rfl) 29 _ rfl rfl HX9.out rfl Tryd.underlying29 info_object ?_)
        | (refine wpList_load_rw_g (by kernel_rfl) 29 _ rfl rfl HB9.out.box rfl Tryd.underlying29 info_object ?_)
        | fail)
      refine (valid_any HO9.out HS9.out.errc HOk2.out.2.1).mono ?_
      rintro e w10 ⟨v, rfl, hfl, hg⟩
      rw [HVp.out] at hfl
      obtain rfl : v = .nilIface := hfl
      have HG10 := hid (grown_trans HB9.out.g hg)
      clear hg
      go_wp2
      go_ret
      exact ⟨rfl, grown_below HG10.out⟩
    | some y =>
      rw [hrf] at hfl
      obtain ⟨t, pv, rfl, heq, hneq⟩ := flt_is_e hfl (by simp)
      have hV := hov (by rw [hrf]; simp)
      simp only [ov0, OV.mk.injEq] at hV
      obtain ⟨rfl, rfl, rfl, rfl, rfl, rfl⟩ := hV
      have al := World.grownBy_alloc w7 (.cells #[.slice none 0 0, .slice none 0 0, .slice none 0 0, .slice none 0 0, .slice none 0 0, .slice none 0 0] 29) none
      have HFl := hid (hfl.kept0 al)
      have HB8 := hid (HB7.out.kept0 al)
      have HS8 := hid (HS7.out.kept0 al)
      have HX8 := hid (RwAt.new w7 29 #[.slice none 0 0, .slice none 0 0, .slice none 0 0, .slice none 0 0, .slice none 0 0, .slice none 0 0])
      obtain ⟨cc, pp⟩ := y
      have hcd := oread_code hrf
      have Hc16 : Hid (cc < 16) := hid (by omega)
      have hval : ∃ z : Int, ∃ bb nn, flV (some (cc, pp)) = .agg #[.int .i64 z, bb, nn] ∧ (z = 101 ∨ z = 102 ∨ z = 103 ∨ z = 104 ∨ z = 105 ∨ z = 106 ∨ z = 107 ∨ z = 109) := by
        refine ⟨((101 + cc : Nat) : Int), _, _, rfl, by omega⟩
      obtain ⟨z, bb, nn, hval, hz⟩ := hval
      have Hval := hid hval
      have Hz' := hid hz
      clear hrf hfl hoa hov al hg HB6 HS6 HB7 HS7 hcd hval hz
      go_upto_region 12 with (fail)
      clear Hz
      obtain ⟨G1, hG1⟩ : ∃ G, w7.heap.size = G := ⟨_, rfl⟩
      rw [hG1] at HX8 ⊢
      clear hG1
      generalize w7.alloc (.cells #[.slice none 0 0, .slice none 0 0, .slice none 0 0, .slice none 0 0, .slice none 0 0, .slice none 0 0] 29) = w8 at HFl HB8 HS8 HX8 ⊢
      go_upto_region 14 with (fail)
      go_wp2_with fail
      refine (fault_any HS8.out HFl.out (fun c p h => by obtain ⟨rfl, rfl⟩ := Prod.mk.inj (Option.some.inj h); exact Hc16.out)).mono ?_
      rintro e w9 ⟨rfl, hg⟩
      rw [Hval.out]
      go_upto_region 15 with (fail)
      rw [fault_code]
      have HG9 := hid (grown_trans HB8.out.g hg)
      have HX9 := hid (HX8.out.kept0 hg)
      have r0 := HX9.out.cell 0 (v := .slice none 0 0) rfl
      have r1 := HX9.out.cell 1 (v := .slice none 0 0) rfl
      clear hg
      rcases Hz'.out with rfl | rfl | rfl | rfl | rfl | rfl | rfl | rfl
      all_goals
        clear Hz'
        go_wp2
        go_ret
        exact ⟨rfl, grown_below HG9.out⟩
end Go.Proofs.YtfkecmcnhmlnoaaDoor
