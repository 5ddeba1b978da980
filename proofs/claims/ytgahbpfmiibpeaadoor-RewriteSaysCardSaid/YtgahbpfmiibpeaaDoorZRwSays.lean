/- The law RewriteSays: walked. -/
import Derived.Test.YtgahbpfmiibpeaaDoorZGRwD
import Derived.Test.YtgahbpfmiibpeaaDoorZRwK
import Derived.Test.YtgahbpfmiibpeaaDoorZRv6
import Derived.Test.YtgahbpfmiibpeaaDoorZGObjM
import Derived.Test.YtgahbpfmiibpeaaDoorZObjS
import Derived.Test.YtgahbpfmiibpeaaDoorZGIsa
import Derived.Test.YtgahbpfmiibpeaaDoorZRwrB
namespace Go.Proofs.YtgahbpfmiibpeaaDoor
set_option linter.unusedSimpArgs false
set_option linter.unusedVariables false
open Go.RowKit
theorem fltC_pos2 {y : Fl} (h : y ≠ none) : fltC y ≠ 0 := by
  cases y with
  | none => exact absurd rfl h
  | some z => obtain ⟨c, p⟩ := z; simp only [fltC]; omega

theorem ll_zero : Ll ⟨[], [], [], [], [], []⟩ := by unfold Ll; simp
theorem rwo_len2 (x : PO) : (rwO x).C.length = plN x x.C.length := rwC_length x _
theorem rw_ll2 {x : PO} (h : Ll x) (hm : plN x x.C.length ≤ 2048) : Ll (rwO x) := by
  obtain ⟨h0, h1, h2, h3, h4, h5⟩ := h
  have hc : (rwO x).C.length = plN x x.C.length := rwC_length x _
  have hmm : (rwO x).M.length = plN x x.C.length := rwM_length x _
  refine ⟨h0, by omega, by omega, h3, ?_, ?_⟩
  · show (x.Q.map (rwR x)).length ≤ _; rw [List.length_map]; exact h4
  · show (x.S.map (rwS x)).length ≤ _; rw [List.length_map]; exact h5
theorem backV_parts (y : Int) : ∃ a b c d e t, backV y = .tuple #[.agg #[.int .i64 a, .int .i64 b, .int .i64 c, .int .i64 d, .int .u32 e], .bool t] := by
  unfold backV
  split
  · exact ⟨_, _, _, _, _, _, rfl⟩
  · exact ⟨_, _, _, _, _, _, rfl⟩
theorem same_ins (op a b c i : Int) (w : World) : Calls Tryd.prog 16 #[.agg #[.int .i64 op, .int .i64 a, .int .i64 b, .int .i64 c, .int .u32 i], .agg #[.int .i64 op, .int .i64 a, .int .i64 b, .int .i64 c, .int .u32 i]] w fun e w' => e = .returned (.bool true) ∧ w.grownBy w' none :=
  (same_any op a b c i op a b c i w).mono fun e w' h => ⟨by rw [h.1]; simp [samI], below_is_grown h.2⟩
theorem oat_slices {w : World} {V : OV} {x : PO} (h : OAt w V x) : ∃ p0 c0 p1 c1 p2 c2 p3 c3 p4 c4 p5 c5, V = ⟨.slice p0 x.D.length c0, .slice p1 x.C.length c1, .slice p2 x.M.length c2, .slice p3 x.R.length c3, .slice p4 x.Q.length c4, .slice p5 x.S.length c5⟩ := by
  obtain ⟨d, c, m, r, q, s⟩ := V
  obtain ⟨p0, c0, e0⟩ := h.d.len'
  obtain ⟨p1, c1, e1⟩ := h.c.len'
  obtain ⟨p2, c2, e2⟩ := h.m.len'
  obtain ⟨p3, c3, e3⟩ := h.r.len
  obtain ⟨p4, c4, e4⟩ := h.q.len
  obtain ⟨p5, c5, e5⟩ := h.s.len
  simp only at e0 e1 e2 e3 e4 e5
  subst e0; subst e1; subst e2; subst e3; subst e4; subst e5
  exact ⟨_, _, _, _, _, _, _, _, _, _, _, _, rfl⟩
theorem oat_zero9 (w : World) : OAt w ⟨.slice none 0 0, .slice none 0 0, .slice none 0 0, .slice none 0 0, .slice none 0 0, .slice none 0 0⟩ ⟨[], [], [], [], [], []⟩ :=
  ⟨.inl ⟨⟨_, _, rfl⟩, rfl⟩, .inl ⟨⟨_, _, rfl⟩, rfl⟩, .inl ⟨⟨_, _, rfl⟩, rfl⟩, .inl ⟨⟨_, _, rfl⟩, rfl, rfl⟩, .inl ⟨⟨_, _, rfl⟩, rfl, rfl⟩, .inl ⟨⟨_, _, rfl⟩, rfl, rfl⟩⟩
/-- what lies beside: the law's own boxes, all of them known -/
structure RsW (W w : World) (G X Y F : Nat) (V V1 V2 : OV) (x z : PO) (f0 : Int) (f1 : Bool) (f2 : Int) (lv mv : Value) (l : List Int) : Prop where
  g : W.grownBy w none
  box : RwAt w G 27 #[V.d, V.c, V.m, V.r, V.q, V.s]
  bx : RwAt w X 27 #[V1.d, V1.c, V1.m, V1.r, V1.q, V1.s]
  by_ : RwAt w Y 27 #[V2.d, V2.c, V2.m, V2.r, V2.q, V2.s]
  bf : RwAt w F 37 #[.int .i64 f0, .bool f1, .int .i64 f2]
  o1 : OAt w V1 z
  o2 : OAt w V2 z
  l1 : SlAt w .i64 lv l
  l2 : SlAt w .i64 mv l
theorem RsW.kept0 {W w w1 : World} {G X Y F : Nat} {V V1 V2 : OV} {x z : PO} {f0 : Int} {f1 : Bool} {f2 : Int} {lv mv : Value} {l : List Int} (h : RsW W w G X Y F V V1 V2 x z f0 f1 f2 lv mv l) (hg : w.grownBy w1 none) : RsW W w1 G X Y F V V1 V2 x z f0 f1 f2 lv mv l :=
  ⟨grown_trans h.g hg, h.box.kept0 hg, h.bx.kept0 hg, h.by_.kept0 hg, h.bf.kept0 hg, h.o1.kept0 hg, h.o2.kept0 hg, h.l1.kept0 hg, h.l2.kept0 hg⟩
set_option maxRecDepth 100000 in
set_option maxHeartbeats 16000000 in
theorem rsays_walk (V : OV) (x : PO) (y : Int) (W : World) (A : Nat → Addr) (hS : Sents W A) (h : OAt W V x) (hf : OFit x) (hy0 : 0 ≤ y) (hy1 : y ≤ 4294967295) :
    Calls Tryd.prog 3 #[V.agg, .int .u32 y] W fun e W' => e = .returned (.bool true) ∧ Below W.heap.size W W' := by
  obtain ⟨d, c, m, r, q, s⟩ := V
  have HB0 := hid (RwAt.new W 27 #[d, c, m, r, q, s])
  have HG0 := hid (World.grownBy_alloc W (.cells #[d, c, m, r, q, s] 27) none)
  have HO := hid h
  have HE := hid hS
  have HF := hid hf
  have HY := hid (And.intro hy0 hy1)
  clear h hS hf hy0 hy1
  go_enter Tryd.func3, Tryd.ntmps3
  go_upto_region 1 with (fail)
  obtain ⟨G, hG⟩ : ∃ G, W.heap.size = G := ⟨_, rfl⟩
  rw [hG] at HB0 ⊢
  clear hG
  generalize W.alloc (.cells #[d, c, m, r, q, s] 27) = w1 at HB0 HG0 ⊢
  go_wp2_with fail
  refine (first11_any (HE.out.errc.kept0 HG0.out)).mono ?_
  rintro e w2 ⟨rfl, hg⟩
  have HB2 := hid (HB0.out.kept0 hg)
  have HG2 := hid (grown_trans HG0.out hg)
  clear hg HB0 HG0
  go_wp2_with (first
    | (refine wpList_load_rw rfl 27 _ rfl rfl HB2.out rfl Tryd.underlying27 info_object ?_)
    | fail)
  refine (light_any (V := ⟨d, c, m, r, q, s⟩) (HO.out.kept0 HG2.out) HF.out 200 (by omega) (by omega)).mono ?_
  rintro e w3 ⟨⟨li, rfl, hli⟩, hg⟩
  have HB3 := hid (HB2.out.kept0 hg)
  have HG3 := hid (grown_trans HG2.out hg)
  clear hg HB2 HG2
  cases li with
  | false =>
    go_wp2
    go_ret
    exact ⟨rfl, grown_below HG3.out⟩
  | true =>
    have HLi := hid (hli rfl)
    clear hli
    have HLl : Hid (Ll x) := hid (by obtain ⟨a, b, c, d, e, f⟩ := HLi.out; unfold Ll; refine ⟨?_, ?_, ?_, ?_, ?_, ?_⟩ <;> omega)
    have Hzo := zero_obj
    have Hzf := zero_fltr
    have Hzi := zero_ins9
    go_wp2_with (first
      | (refine wpList_load_rw rfl 27 _ rfl rfl HB3.out rfl Tryd.underlying27 info_object ?_)
      | fail)
    by_cases hv : validP x = none
    · have Hv := hid hv
      clear hv
      have HPl : Hid (plN x x.C.length ≤ 2048) := hid (by have := (pl_le x x.C.length).2; have := HLi.out.c; omega)
      have HLr := hid (rw_ll2 HLl.out HPl.out)
      refine (do_yes (V := ⟨d, c, m, r, q, s⟩) (HO.out.kept0 HG3.out) (HE.out.errc.kept0 HG3.out) HF.out Hv.out HPl.out).mono ?_
      rintro e w4 ⟨V1, lv, rfl, ho, hl, hg⟩
      have HO4 := hid ho.at_
      have HL4 : Hid (SlAt w4 .i64 lv (plL x (x.C.length + 1))) := hid (SlAt.own hl)
      obtain ⟨p0, c0, p1, c1, p2, c2, p3, c3, p4, c4, p5, c5, rfl⟩ := oat_slices HO4.out
      obtain ⟨n0, hn0⟩ : ∃ n, (rwO x).D.length = n := ⟨_, rfl⟩
      obtain ⟨n1, hn1⟩ : ∃ n, (rwO x).C.length = n := ⟨_, rfl⟩
      obtain ⟨n2, hn2⟩ : ∃ n, (rwO x).M.length = n := ⟨_, rfl⟩
      obtain ⟨n3, hn3⟩ : ∃ n, (rwO x).R.length = n := ⟨_, rfl⟩
      obtain ⟨n4, hn4⟩ : ∃ n, (rwO x).Q.length = n := ⟨_, rfl⟩
      obtain ⟨n5, hn5⟩ : ∃ n, (rwO x).S.length = n := ⟨_, rfl⟩
      have Hn1 := hid hn1
      rw [hn0, hn1, hn2, hn3, hn4, hn5] at HO4 ⊢
      have al := World.grownBy_alloc w4 (.cells #[.slice p0 n0 c0, .slice p1 n1 c1, .slice p2 n2 c2, .slice p3 n3 c3, .slice p4 n4 c4, .slice p5 n5 c5] 27) none
      have HX5 := hid (RwAt.new w4 27 #[.slice p0 n0 c0, .slice p1 n1 c1, .slice p2 n2 c2, .slice p3 n3 c3, .slice p4 n4 c4, .slice p5 n5 c5])
      have HB5 := hid ((HB3.out.kept0 hg).kept0 al)
      have HO5 := hid (HO4.out.kept0 al)
      have HL5 := hid (HL4.out.kept0 al)
      have HG5 := hid (grown_trans (grown_trans HG3.out hg) al)

      clear hg al HO4 HL4 HB3 HG3 ho hl
      go_upto_region 7 with (fail)
      obtain ⟨X, hX⟩ : ∃ X, w4.heap.size = X := ⟨_, rfl⟩
      rw [hX] at HX5 ⊢
      clear hX
      generalize w4.alloc (.cells #[.slice p0 n0 c0, .slice p1 n1 c1, .slice p2 n2 c2, .slice p3 n3 c3, .slice p4 n4 c4, .slice p5 n5 c5] 27) = w5 at *
      go_wp2_with (first
        | (refine wpList_load_rw rfl 27 _ rfl rfl HB5.out rfl Tryd.underlying27 info_object ?_)
        | fail)
      refine (rrw_yes (V := ⟨d, c, m, r, q, s⟩) (HO.out.kept0 HG5.out) (fun W' hW => rvalid_any ((HO.out.kept0 HG5.out).kept0 hW) HF.out HLl.out) HF.out Hv.out HPl.out).mono ?_
      rintro e w6 ⟨V2, mv, rfl, ho, hl, hg⟩
      obtain ⟨q0, b0, q1, b1, q2, b2, q3, b3, q4, b4, q5, b5, rfl⟩ := oat_slices ho
      rw [hn0, hn1, hn2, hn3, hn4, hn5] at ho ⊢
      rw [show flV none = .agg #[.int .i64 0, .bool false, .int .i64 0] from rfl]
      have al := World.grownBy_alloc w6 (.cells #[.slice q0 n0 b0, .slice q1 n1 b1, .slice q2 n2 b2, .slice q3 n3 b3, .slice q4 n4 b4, .slice q5 n5 b5] 27) none
      have al2 := World.grownBy_alloc (w6.alloc (.cells #[.slice q0 n0 b0, .slice q1 n1 b1, .slice q2 n2 b2, .slice q3 n3 b3, .slice q4 n4 b4, .slice q5 n5 b5] 27)) (.cells #[.int .i64 0, .bool false, .int .i64 0] 37) none
      have hga := grown_trans hg (grown_trans al al2)
      have hY := (RwAt.new w6 27 #[.slice q0 n0 b0, .slice q1 n1 b1, .slice q2 n2 b2, .slice q3 n3 b3, .slice q4 n4 b4, .slice q5 n5 b5]).alloc (.cells #[.int .i64 0, .bool false, .int .i64 0] 37)
      have hF := RwAt.new2 w6 (.cells #[.slice q0 n0 b0, .slice q1 n1 b1, .slice q2 n2 b2, .slice q3 n3 b3, .slice q4 n4 b4, .slice q5 n5 b5] 27) 37 #[.int .i64 0, .bool false, .int .i64 0]
      have HR : Hid (RsW W ((w6.alloc (.cells #[.slice q0 n0 b0, .slice q1 n1 b1, .slice q2 n2 b2, .slice q3 n3 b3, .slice q4 n4 b4, .slice q5 n5 b5] 27)).alloc (.cells #[.int .i64 0, .bool false, .int .i64 0] 37)) G X w6.heap.size (w6.heap.size + 1) ⟨d, c, m, r, q, s⟩ ⟨.slice p0 n0 c0, .slice p1 n1 c1, .slice p2 n2 c2, .slice p3 n3 c3, .slice p4 n4 c4, .slice p5 n5 c5⟩ ⟨.slice q0 n0 b0, .slice q1 n1 b1, .slice q2 n2 b2, .slice q3 n3 b3, .slice q4 n4 b4, .slice q5 n5 b5⟩ x (rwO x) 0 false 0 lv mv (plL x (x.C.length + 1))) := hid ⟨grown_trans HG5.out hga, HB5.out.kept0 hga, HX5.out.kept0 hga, hY, hF, HO5.out.kept0 hga, (ho.kept0 al).kept0 al2, HL5.out.kept0 hga, (hl.kept0 al).kept0 al2⟩

      clear hg al al2 hga hY hF ho hl HG5 HB5 HX5 HO5 HL5 hn0 hn1 hn2 hn3 hn4 hn5
      go_upto_region 8 with (fail)
      obtain ⟨Y, hY⟩ : ∃ Y, w6.heap.size = Y := ⟨_, rfl⟩
      rw [hY] at HR ⊢
      clear hY
      generalize (w6.alloc (.cells #[.slice q0 n0 b0, .slice q1 n1 b1, .slice q2 n2 b2, .slice q3 n3 b3, .slice q4 n4 b4, .slice q5 n5 b5] 27)).alloc (.cells #[.int .i64 0, .bool false, .int .i64 0] 37) = w8 at *
      go_wp2_with (first
        | (refine wpList_load_rw rfl 27 _ rfl rfl HR.out.box rfl Tryd.underlying27 info_object ?_)
        | fail)
      refine (needs_yes (V := ⟨d, c, m, r, q, s⟩) (HO.out.kept0 HR.out.g) (HE.out.errc.kept0 HR.out.g) HF.out Hv.out).mono ?_
      rintro e w9 ⟨rfl, hg⟩
      have HR9 := hid (HR.out.kept0 hg)
      clear hg HR
      obtain ⟨a0, a1, a2, a3, a4, tb, hbk⟩ := backV_parts y
      go_wp2_with fail
      refine (wback_is y _ HY.out.1 (by have := HY.out.2; omega)).mono ?_
      rintro e w10 ⟨rfl, hg⟩
      rw [hbk]
      have al := World.grownBy_alloc w10 (.cells #[.int .i64 a0, .int .i64 a1, .int .i64 a2, .int .i64 a3, .int .u32 a4] 43) none
      have HI := hid (RwAt.new w10 43 #[.int .i64 a0, .int .i64 a1, .int .i64 a2, .int .i64 a3, .int .u32 a4])
      have HR10 := hid ((HR9.out.kept0 hg).kept0 al)


      clear hg al HR9
      go_upto_region 10 with (fail)
      obtain ⟨I, hI⟩ : ∃ I, w10.heap.size = I := ⟨_, rfl⟩
      rw [hI] at HI ⊢
      clear hI
      generalize w10.alloc (.cells #[.int .i64 a0, .int .i64 a1, .int .i64 a2, .int .i64 a3, .int .u32 a4] 43) = w11 at *
      go_wp2_with fail
      refine (rback_is y _ HY.out.1 (by have := HY.out.2; omega)).mono ?_
      rintro e w12 ⟨rfl, hg⟩
      rw [hbk]
      have al := World.grownBy_alloc w12 (.cells #[.int .i64 a0, .int .i64 a1, .int .i64 a2, .int .i64 a3, .int .u32 a4] 43) none
      have HJ := hid (RwAt.new w12 43 #[.int .i64 a0, .int .i64 a1, .int .i64 a2, .int .i64 a3, .int .u32 a4])
      have HI13 := hid ((HI.out.kept0 hg).kept0 al)
      have HR13 := hid ((HR10.out.kept0 hg).kept0 al)


      clear hg al HR10 HI hbk
      go_upto_region 11 with (fail)
      obtain ⟨J, hJ⟩ : ∃ J, w12.heap.size = J := ⟨_, rfl⟩
      rw [hJ] at HJ ⊢
      clear hJ
      generalize w12.alloc (.cells #[.int .i64 a0, .int .i64 a1, .int .i64 a2, .int .i64 a3, .int .u32 a4] 43) = w13 at *
      clear Hzo Hzf Hzi
      have tt : (tb == tb) = true := by simp
      go_wp2_with (first
        | (refine wpList_load_rw rfl 37 _ rfl rfl HR13.out.bf rfl Tryd.underlying37 info_flt9 ?_)
        | fail)
      refine (same_flt (A := A) (HE.out.kept0 HR13.out.g) (v := .nilIface) (y := none) rfl (fun c p h => by cases h) 0 false 0 true (by decide)).mono ?_
      rintro e w14 ⟨rfl, hg⟩
      have HR14 := hid (HR13.out.kept0 hg)
      have HI14 := hid (HI13.out.kept0 hg)
      have HJ14 := hid (HJ.out.kept0 hg)

      clear hg HR13 HI13 HJ
      go_wp2_with (first
        | (refine wpList_load_rw_g (by kernel_rfl) 27 _ rfl rfl HR14.out.bx rfl Tryd.underlying27 info_object ?_)
        | (refine wpList_load_rw_g (by kernel_rfl) 27 _ rfl rfl HR14.out.by_ rfl Tryd.underlying27 info_object ?_)
        | fail)
      refine (so_any (V := ⟨.slice p0 n0 c0, .slice p1 n1 c1, .slice p2 n2 c2, .slice p3 n3 c3, .slice p4 n4 c4, .slice p5 n5 c5⟩) (V' := ⟨.slice q0 n0 b0, .slice q1 n1 b1, .slice q2 n2 b2, .slice q3 n3 b3, .slice q4 n4 b4, .slice q5 n5 b5⟩) HR14.out.o1 HR14.out.o2 HLr.out HLr.out true (by simp)).mono ?_
      rintro e w15 ⟨rfl, hg⟩
      have HR15 := hid (HR14.out.kept0 hg)
      have HI15 := hid (HI14.out.kept0 hg)
      have HJ15 := hid (HJ14.out.kept0 hg)

      clear hg HR14 HI14 HJ14
      go_wp2_with fail
      refine (si_any HR15.out.l1 HR15.out.l2 (by rw [plL_length]; have := HLl.out.2.1; omega) (by rw [plL_length]; have := HLl.out.2.1; omega) true (by simp)).mono ?_
      rintro e w16 ⟨rfl, hg⟩
      have HR16 := hid (HR15.out.kept0 hg)
      have HI16 := hid (HI15.out.kept0 hg)
      have HJ16 := hid (HJ15.out.kept0 hg)

      clear hg HR15 HI15 HJ15
      go_wp2_with (first
        | (refine wpList_load_rw_g (by kernel_rfl) 43 _ rfl rfl HI16.out rfl Tryd.underlying43 info_ins9 ?_)
        | (refine wpList_load_rw_g (by kernel_rfl) 43 _ rfl rfl HJ16.out rfl Tryd.underlying43 info_ins9 ?_)
        | fail)
      refine (same_ins _ _ _ _ _ _).mono ?_
      rintro e w17 ⟨rfl, hg⟩
      have HR17 := hid (HR16.out.kept0 hg)

      clear hg HR16 HI16 HJ16
      have f0 := HR17.out.bf.cell 0 (v := .int .i64 0) rfl
      have y1 := HR17.out.by_.cell 1 (v := .slice q1 n1 b1) rfl
      have hpn : (plN x x.C.length : Int) = (n1 : Int) := by rw [← Hn1.out, (rwo_len2 x)]
      rw [hpn]
      have nn : ((n1 : Int) == (n1 : Int)) = true := by simp
      clear hpn
      go_wp2
      go_ret
      exact ⟨rfl, grown_below HR17.out.g⟩
    · have Hv := hid hv
      clear hv
      refine (do_no (V := ⟨d, c, m, r, q, s⟩) (HO.out.kept0 HG3.out) (HE.out.errc.kept0 HG3.out) HF.out Hv.out).mono ?_
      rintro e w4 ⟨fv, rfl, hfl, hg⟩
      have Hfl := hid hfl
      have HO4 := hid (oat_zero9 w4)
      have HL4 : Hid (SlAt w4 .i64 (.slice none 0 0) []) := hid (.inl ⟨⟨_, _, rfl⟩, rfl⟩)
      unfold zeroO
      have al := World.grownBy_alloc w4 (.cells #[.slice none 0 0, .slice none 0 0, .slice none 0 0, .slice none 0 0, .slice none 0 0, .slice none 0 0] 27) none
      have HX5 := hid (RwAt.new w4 27 #[.slice none 0 0, .slice none 0 0, .slice none 0 0, .slice none 0 0, .slice none 0 0, .slice none 0 0])
      have HB5 := hid ((HB3.out.kept0 hg).kept0 al)
      have HO5 := hid (HO4.out.kept0 al)
      have HL5 := hid (HL4.out.kept0 al)
      have HG5 := hid (grown_trans (grown_trans HG3.out hg) al)
      have Hfl5 := hid (Hfl.out.kept0 al)
      clear hg al HO4 HL4 HB3 HG3 hfl Hfl
      go_upto_region 7 with (fail)
      obtain ⟨X, hX⟩ : ∃ X, w4.heap.size = X := ⟨_, rfl⟩
      rw [hX] at HX5 ⊢
      clear hX
      generalize w4.alloc (.cells #[.slice none 0 0, .slice none 0 0, .slice none 0 0, .slice none 0 0, .slice none 0 0, .slice none 0 0] 27) = w5 at *
      go_wp2_with (first
        | (refine wpList_load_rw rfl 27 _ rfl rfl HB5.out rfl Tryd.underlying27 info_object ?_)
        | fail)
      refine (rrw_no (V := ⟨d, c, m, r, q, s⟩) (HO.out.kept0 HG5.out) (fun W' hW => rvalid_any ((HO.out.kept0 HG5.out).kept0 hW) HF.out HLl.out) Hv.out).mono ?_
      rintro e w6 ⟨rfl, hg⟩
      obtain ⟨e0, he0⟩ : ∃ e, fltC (validP x) = e := ⟨_, rfl⟩
      obtain ⟨e1, he1⟩ : ∃ e, fltB (validP x) = e := ⟨_, rfl⟩
      obtain ⟨e2, he2⟩ : ∃ e, fltN (validP x) = e := ⟨_, rfl⟩
      have Hes := hid (And.intro he0 (And.intro he1 he2))
      unfold zeroO
      rw [show flV (validP x) = .agg #[.int .i64 e0, .bool e1, .int .i64 e2] by rw [← he0, ← he1, ← he2]; rfl]
      clear he0 he1 he2
      have ho := oat_zero9 w6
      have hl : SlAt w6 .i64 (.slice none 0 0) [] := .inl ⟨⟨_, _, rfl⟩, rfl⟩
      have al := World.grownBy_alloc w6 (.cells #[.slice none 0 0, .slice none 0 0, .slice none 0 0, .slice none 0 0, .slice none 0 0, .slice none 0 0] 27) none
      have al2 := World.grownBy_alloc (w6.alloc (.cells #[.slice none 0 0, .slice none 0 0, .slice none 0 0, .slice none 0 0, .slice none 0 0, .slice none 0 0] 27)) (.cells #[.int .i64 e0, .bool e1, .int .i64 e2] 37) none
      have hga := grown_trans hg (grown_trans al al2)
      have hY := (RwAt.new w6 27 #[.slice none 0 0, .slice none 0 0, .slice none 0 0, .slice none 0 0, .slice none 0 0, .slice none 0 0]).alloc (.cells #[.int .i64 e0, .bool e1, .int .i64 e2] 37)
      have hF := RwAt.new2 w6 (.cells #[.slice none 0 0, .slice none 0 0, .slice none 0 0, .slice none 0 0, .slice none 0 0, .slice none 0 0] 27) 37 #[.int .i64 e0, .bool e1, .int .i64 e2]
      have HR : Hid (RsW W ((w6.alloc (.cells #[.slice none 0 0, .slice none 0 0, .slice none 0 0, .slice none 0 0, .slice none 0 0, .slice none 0 0] 27)).alloc (.cells #[.int .i64 e0, .bool e1, .int .i64 e2] 37)) G X w6.heap.size (w6.heap.size + 1) ⟨d, c, m, r, q, s⟩ ⟨.slice none 0 0, .slice none 0 0, .slice none 0 0, .slice none 0 0, .slice none 0 0, .slice none 0 0⟩ ⟨.slice none 0 0, .slice none 0 0, .slice none 0 0, .slice none 0 0, .slice none 0 0, .slice none 0 0⟩ x ⟨[], [], [], [], [], []⟩ e0 e1 e2 (.slice none 0 0) (.slice none 0 0) []) := hid ⟨grown_trans HG5.out hga, HB5.out.kept0 hga, HX5.out.kept0 hga, hY, hF, HO5.out.kept0 hga, (ho.kept0 al).kept0 al2, HL5.out.kept0 hga, (hl.kept0 al).kept0 al2⟩
      have Hfl8 := hid (Hfl5.out.kept0 hga)
      clear hg al al2 hga hY hF ho hl HG5 HB5 HX5 HO5 HL5 Hfl5
      go_upto_region 8 with (fail)
      obtain ⟨Y, hY⟩ : ∃ Y, w6.heap.size = Y := ⟨_, rfl⟩
      rw [hY] at HR ⊢
      clear hY
      generalize (w6.alloc (.cells #[.slice none 0 0, .slice none 0 0, .slice none 0 0, .slice none 0 0, .slice none 0 0, .slice none 0 0] 27)).alloc (.cells #[.int .i64 e0, .bool e1, .int .i64 e2] 37) = w8 at *
      go_wp2_with (first
        | (refine wpList_load_rw rfl 27 _ rfl rfl HR.out.box rfl Tryd.underlying27 info_object ?_)
        | fail)
      refine (needs_no (V := ⟨d, c, m, r, q, s⟩) (HO.out.kept0 HR.out.g) (HE.out.errc.kept0 HR.out.g) HF.out Hv.out).mono ?_
      rintro e w9 ⟨gv, rfl, hgf, hg⟩
      have Hgf := hid hgf
      have Hfl9 := hid (Hfl8.out.kept0 hg)
      obtain ⟨gt, gp, hgv, _, _⟩ := flt_is_e hgf Hv.out
      subst hgv
      clear hgf Hfl8
      have HR9 := hid (HR.out.kept0 hg)
      clear hg HR
      obtain ⟨a0, a1, a2, a3, a4, tb, hbk⟩ := backV_parts y
      go_wp2_with fail
      refine (wback_is y _ HY.out.1 (by have := HY.out.2; omega)).mono ?_
      rintro e w10 ⟨rfl, hg⟩
      rw [hbk]
      have al := World.grownBy_alloc w10 (.cells #[.int .i64 a0, .int .i64 a1, .int .i64 a2, .int .i64 a3, .int .u32 a4] 43) none
      have HI := hid (RwAt.new w10 43 #[.int .i64 a0, .int .i64 a1, .int .i64 a2, .int .i64 a3, .int .u32 a4])
      have HR10 := hid ((HR9.out.kept0 hg).kept0 al)
      have Hgf10 := hid ((Hgf.out.kept0 hg).kept0 al)
      have Hfl10 := hid ((Hfl9.out.kept0 hg).kept0 al)
      clear hg al HR9
      go_upto_region 10 with (fail)
      obtain ⟨I, hI⟩ : ∃ I, w10.heap.size = I := ⟨_, rfl⟩
      rw [hI] at HI ⊢
      clear hI
      generalize w10.alloc (.cells #[.int .i64 a0, .int .i64 a1, .int .i64 a2, .int .i64 a3, .int .u32 a4] 43) = w11 at *
      go_wp2_with fail
      refine (rback_is y _ HY.out.1 (by have := HY.out.2; omega)).mono ?_
      rintro e w12 ⟨rfl, hg⟩
      rw [hbk]
      have al := World.grownBy_alloc w12 (.cells #[.int .i64 a0, .int .i64 a1, .int .i64 a2, .int .i64 a3, .int .u32 a4] 43) none
      have HJ := hid (RwAt.new w12 43 #[.int .i64 a0, .int .i64 a1, .int .i64 a2, .int .i64 a3, .int .u32 a4])
      have HI13 := hid ((HI.out.kept0 hg).kept0 al)
      have HR13 := hid ((HR10.out.kept0 hg).kept0 al)
      have Hgf13 := hid ((Hgf10.out.kept0 hg).kept0 al)
      have Hfl13 := hid ((Hfl10.out.kept0 hg).kept0 al)
      clear hg al HR10 HI hbk
      go_upto_region 11 with (fail)
      obtain ⟨J, hJ⟩ : ∃ J, w12.heap.size = J := ⟨_, rfl⟩
      rw [hJ] at HJ ⊢
      clear hJ
      generalize w12.alloc (.cells #[.int .i64 a0, .int .i64 a1, .int .i64 a2, .int .i64 a3, .int .u32 a4] 43) = w13 at *
      clear Hzo Hzf Hzi
      have tt : (tb == tb) = true := by simp
      go_wp2_with (first
        | (refine wpList_load_rw rfl 37 _ rfl rfl HR13.out.bf rfl Tryd.underlying37 info_flt9 ?_)
        | fail)
      refine (same_flt (A := A) (HE.out.kept0 HR13.out.g) Hfl13.out (fun c p h => by rcases code_of h with e | e | e | e | e | e | e <;> omega) e0 e1 e2 true (by simp [Hes.out.1, Hes.out.2.1, Hes.out.2.2])).mono ?_
      rintro e w14 ⟨rfl, hg⟩
      have HR14 := hid (HR13.out.kept0 hg)
      have HI14 := hid (HI13.out.kept0 hg)
      have HJ14 := hid (HJ.out.kept0 hg)
      have Hgf14 := hid (Hgf13.out.kept0 hg)
      clear hg HR13 HI13 HJ
      go_wp2_with (first
        | (refine wpList_load_rw_g (by kernel_rfl) 27 _ rfl rfl HR14.out.bx rfl Tryd.underlying27 info_object ?_)
        | (refine wpList_load_rw_g (by kernel_rfl) 27 _ rfl rfl HR14.out.by_ rfl Tryd.underlying27 info_object ?_)
        | fail)
      refine (so_any (V := ⟨.slice none 0 0, .slice none 0 0, .slice none 0 0, .slice none 0 0, .slice none 0 0, .slice none 0 0⟩) (V' := ⟨.slice none 0 0, .slice none 0 0, .slice none 0 0, .slice none 0 0, .slice none 0 0, .slice none 0 0⟩) HR14.out.o1 HR14.out.o2 ll_zero ll_zero true (by simp)).mono ?_
      rintro e w15 ⟨rfl, hg⟩
      have HR15 := hid (HR14.out.kept0 hg)
      have HI15 := hid (HI14.out.kept0 hg)
      have HJ15 := hid (HJ14.out.kept0 hg)
      have Hgf15 := hid (Hgf14.out.kept0 hg)
      clear hg HR14 HI14 HJ14
      go_wp2_with fail
      refine (si_any HR15.out.l1 HR15.out.l2 (by simp) (by simp) true (by simp)).mono ?_
      rintro e w16 ⟨rfl, hg⟩
      have HR16 := hid (HR15.out.kept0 hg)
      have HI16 := hid (HI15.out.kept0 hg)
      have HJ16 := hid (HJ15.out.kept0 hg)
      have Hgf16 := hid (Hgf15.out.kept0 hg)
      clear hg HR15 HI15 HJ15
      go_wp2_with (first
        | (refine wpList_load_rw_g (by kernel_rfl) 43 _ rfl rfl HI16.out rfl Tryd.underlying43 info_ins9 ?_)
        | (refine wpList_load_rw_g (by kernel_rfl) 43 _ rfl rfl HJ16.out rfl Tryd.underlying43 info_ins9 ?_)
        | fail)
      refine (same_ins _ _ _ _ _ _).mono ?_
      rintro e w17 ⟨rfl, hg⟩
      have HR17 := hid (HR16.out.kept0 hg)
      have Hgf17 := hid (Hgf16.out.kept0 hg)
      clear hg HR16 HI16 HJ16
      have f0 := HR17.out.bf.cell 0 (v := .int .i64 e0) rfl
      have he : (e0 != 0) = true := by have := fltC_pos2 Hv.out; rw [Hes.out.1] at this; simpa using this
      have he2 : (e0 == 0) = false := by have := fltC_pos2 Hv.out; rw [Hes.out.1] at this; simpa using this
      go_wp2_with (first
        | (refine wpList_load_rw_g (by kernel_rfl) 37 _ rfl rfl HR17.out.bf rfl Tryd.underlying37 info_flt9 ?_)
        | fail)
      refine (same_flt (A := A) (HE.out.kept0 HR17.out.g) Hgf17.out (fun c p h => by rcases code_of h with e | e | e | e | e | e | e <;> omega) e0 e1 e2 true (by simp [Hes.out.1, Hes.out.2.1, Hes.out.2.2])).mono ?_
      rintro e w18 ⟨rfl, hg⟩
      have HG18 := hid (grown_trans HR17.out.g hg)
      clear hg
      go_wp2
      go_ret
      exact ⟨rfl, grown_below HG18.out⟩
end Go.Proofs.YtgahbpfmiibpeaaDoor
