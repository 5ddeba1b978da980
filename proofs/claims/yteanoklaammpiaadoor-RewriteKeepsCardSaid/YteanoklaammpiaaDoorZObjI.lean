/- Objects compared; a light one: contracts. (Made by gobji.py.) -/
import Derived.Test.YteanoklaammpiaaDoorZGObjE
import Derived.Test.YteanoklaammpiaaDoorZObjG
import Derived.Test.YteanoklaammpiaaDoorZObjH
namespace Go.Proofs.YteanoklaammpiaaDoor
open Go.RowKit
/-- two objects' boxes -/
structure Bd (w0 w : World) (G1 G2 : Nat) (V V' : OV) (x x' : PO) : Prop where
  a : RwAt w G1 27 #[V.d, V.c, V.m, V.r, V.q, V.s]
  b : RwAt w G2 27 #[V'.d, V'.c, V'.m, V'.r, V'.q, V'.s]
  o : OAt w V x
  p : OAt w V' x'
  g : w0.grownBy w none
theorem Bd.kept0 {w0 w w1 : World} {G1 G2 : Nat} {V V' : OV} {x x' : PO} (h : Bd w0 w G1 G2 V V' x x') (hg : w.grownBy w1 none) : Bd w0 w1 G1 G2 V V' x x' := ⟨h.a.kept0 hg, h.b.kept0 hg, h.o.kept0 hg, h.p.kept0 hg, grown_trans h.g hg⟩
theorem Bd.new {w : World} {V V' : OV} {x x' : PO} (h : OAt w V x) (h' : OAt w V' x') :
    Bd w ((w.alloc (.cells #[V.d, V.c, V.m, V.r, V.q, V.s] 27)).alloc (.cells #[V'.d, V'.c, V'.m, V'.r, V'.q, V'.s] 27)) w.heap.size (w.heap.size + 1) V V' x x' := by
  have hg := grown_alloc (World.grownBy_alloc w (.cells #[V.d, V.c, V.m, V.r, V.q, V.s] 27) none) (.cells #[V'.d, V'.c, V'.m, V'.r, V'.q, V'.s] 27)
  exact ⟨(RwAt.new w _ _).alloc _, RwAt.new2 w _ _ _, h.kept0 hg, h'.kept0 hg, hg⟩
theorem po_ext {x y : PO} : decide (x = y) = (decide (x.D = y.D) && (decide (x.C = y.C) && (decide (x.M = y.M) && (decide (x.R = y.R) && (decide (x.Q = y.Q) && decide (x.S = y.S)))))) := by
  obtain ⟨a, b, c, d, e, f⟩ := x
  obtain ⟨a', b', c', d', e', f'⟩ := y
  simp [PO.mk.injEq]
/-- lists that are compared are not too long -/
def Ll (x : PO) : Prop := x.D.length ≤ 1000000 ∧ x.C.length ≤ 1000000 ∧ x.M.length ≤ 1000000 ∧ x.R.length ≤ 1000000 ∧ x.Q.length ≤ 1000000 ∧ x.S.length ≤ 1000000

set_option maxRecDepth 100000 in
set_option maxHeartbeats 8000000 in
theorem osame_any {w : World} {V V' : OV} {x x' : PO} (h : OAt w V x) (h' : OAt w V' x') (hl : Ll x) (z : Bool) (hz : decide (x = x') = z) :
    Calls Tryd.prog 13 #[V.agg, V'.agg] w fun e w' => e = .returned (.bool z) ∧ w.grownBy w' none := by
  obtain ⟨d, c, m, r, q, s⟩ := V
  obtain ⟨d', c', m', r', q', s'⟩ := V'
  have HL := hid hl
  have H0 := hid (Bd.new h h')
  rw [po_ext] at hz
  have Hz := hid hz
  clear h h' hl hz
  go_enter Tryd.func13, Tryd.ntmps13
  go_upto_region 1 with (fail)
  obtain ⟨G1, hG1⟩ : ∃ G, w.heap.size = G := ⟨_, rfl⟩
  rw [hG1] at H0 ⊢
  generalize (w.alloc (.cells #[d, c, m, r, q, s] 27)).alloc (.cells #[d', c', m', r', q', s'] 27) = w1 at H0 ⊢
  obtain ⟨G2, hG2⟩ : ∃ R, G1 + 1 = R := ⟨_, rfl⟩
  rw [hG2] at H0 ⊢
  clear hG1 hG2
  have ea := H0.out.a.cell 0 (v := d) rfl
  have eb := H0.out.b.cell 0 (v := d') rfl
  go_wp2_with fail
  clear ea eb
  rcases Bool.eq_false_or_eq_true (decide (x.D = x'.D)) with e0 | e0
  rotate_left
  · have E0 := hid e0
    clear e0
    refine (equ_any H0.out.o.d H0.out.p.d (by have := HL.out.1; omega) false E0.out).mono ?_
    rintro e w2 ⟨rfl, hg⟩
    have HE := hid (H0.out.kept0 hg)
    clear hg
    go_wp2
    go_ret
    exact ⟨ret_b (by rw [← Hz.out, E0.out]; rfl), HE.out.g⟩
  have E0 := hid e0
  clear e0
  refine (equ_any H0.out.o.d H0.out.p.d (by have := HL.out.1; omega) true E0.out).mono ?_
  rintro e w2 ⟨rfl, hg⟩
  have H1 := hid (H0.out.kept0 hg)
  clear hg H0
  have ea := H1.out.a.cell 1 (v := c) rfl
  have eb := H1.out.b.cell 1 (v := c') rfl
  go_wp2_with fail
  clear ea eb
  rcases Bool.eq_false_or_eq_true (decide (x.C = x'.C)) with e1 | e1
  rotate_left
  · have E1 := hid e1
    clear e1
    refine (equ_any H1.out.o.c H1.out.p.c (by have := HL.out.2.1; omega) false E1.out).mono ?_
    rintro e w2 ⟨rfl, hg⟩
    have HE := hid (H1.out.kept0 hg)
    clear hg
    go_wp2
    go_ret
    exact ⟨ret_b (by rw [← Hz.out, E0.out, E1.out]; rfl), HE.out.g⟩
  have E1 := hid e1
  clear e1
  refine (equ_any H1.out.o.c H1.out.p.c (by have := HL.out.2.1; omega) true E1.out).mono ?_
  rintro e w3 ⟨rfl, hg⟩
  have H2 := hid (H1.out.kept0 hg)
  clear hg H1
  have ea := H2.out.a.cell 2 (v := m) rfl
  have eb := H2.out.b.cell 2 (v := m') rfl
  go_wp2_with fail
  clear ea eb
  rcases Bool.eq_false_or_eq_true (decide (x.M = x'.M)) with e2 | e2
  rotate_left
  · have E2 := hid e2
    clear e2
    refine (eqb_any H2.out.o.m H2.out.p.m (by have := HL.out.2.2.1; omega) false E2.out).mono ?_
    rintro e w2 ⟨rfl, hg⟩
    have HE := hid (H2.out.kept0 hg)
    clear hg
    go_wp2
    go_ret
    exact ⟨ret_b (by rw [← Hz.out, E0.out, E1.out, E2.out]; rfl), HE.out.g⟩
  have E2 := hid e2
  clear e2
  refine (eqb_any H2.out.o.m H2.out.p.m (by have := HL.out.2.2.1; omega) true E2.out).mono ?_
  rintro e w4 ⟨rfl, hg⟩
  have H3 := hid (H2.out.kept0 hg)
  clear hg H2
  have ea := H3.out.a.cell 3 (v := r) rfl
  have eb := H3.out.b.cell 3 (v := r') rfl
  go_wp2_with fail
  clear ea eb
  rcases Bool.eq_false_or_eq_true (decide (x.R = x'.R)) with e3 | e3
  rotate_left
  · have E3 := hid e3
    clear e3
    refine (eqr_any H3.out.o.r H3.out.p.r (by have := HL.out.2.2.2.1; omega) false E3.out).mono ?_
    rintro e w2 ⟨rfl, hg⟩
    have HE := hid (H3.out.kept0 hg)
    clear hg
    go_wp2
    go_ret
    exact ⟨ret_b (by rw [← Hz.out, E0.out, E1.out, E2.out, E3.out]; rfl), HE.out.g⟩
  have E3 := hid e3
  clear e3
  refine (eqr_any H3.out.o.r H3.out.p.r (by have := HL.out.2.2.2.1; omega) true E3.out).mono ?_
  rintro e w5 ⟨rfl, hg⟩
  have H4 := hid (H3.out.kept0 hg)
  clear hg H3
  have ea := H4.out.a.cell 4 (v := q) rfl
  have eb := H4.out.b.cell 4 (v := q') rfl
  go_wp2_with fail
  clear ea eb
  rcases Bool.eq_false_or_eq_true (decide (x.Q = x'.Q)) with e4 | e4
  rotate_left
  · have E4 := hid e4
    clear e4
    refine (eqr_any H4.out.o.q H4.out.p.q (by have := HL.out.2.2.2.2.1; omega) false E4.out).mono ?_
    rintro e w2 ⟨rfl, hg⟩
    have HE := hid (H4.out.kept0 hg)
    clear hg
    go_wp2
    go_ret
    exact ⟨ret_b (by rw [← Hz.out, E0.out, E1.out, E2.out, E3.out, E4.out]; rfl), HE.out.g⟩
  have E4 := hid e4
  clear e4
  refine (eqr_any H4.out.o.q H4.out.p.q (by have := HL.out.2.2.2.2.1; omega) true E4.out).mono ?_
  rintro e w6 ⟨rfl, hg⟩
  have H5 := hid (H4.out.kept0 hg)
  clear hg H4
  have ea := H5.out.a.cell 5 (v := s) rfl
  have eb := H5.out.b.cell 5 (v := s') rfl
  go_wp2_with fail
  clear ea eb
  rcases Bool.eq_false_or_eq_true (decide (x.S = x'.S)) with e5 | e5
  rotate_left
  · have E5 := hid e5
    clear e5
    refine (eqy_any H5.out.o.s H5.out.p.s (by have := HL.out.2.2.2.2.2; omega) false E5.out).mono ?_
    rintro e w2 ⟨rfl, hg⟩
    have HE := hid (H5.out.kept0 hg)
    clear hg
    go_wp2
    go_ret
    exact ⟨ret_b (by rw [← Hz.out, E0.out, E1.out, E2.out, E3.out, E4.out, E5.out]; rfl), HE.out.g⟩
  have E5 := hid e5
  clear e5
  refine (eqy_any H5.out.o.s H5.out.p.s (by have := HL.out.2.2.2.2.2; omega) true E5.out).mono ?_
  rintro e w7 ⟨rfl, hg⟩
  have H6 := hid (H5.out.kept0 hg)
  clear hg H5
  go_wp2
  go_ret
  exact ⟨ret_b (by rw [← Hz.out, E0.out, E1.out, E2.out, E3.out, E4.out, E5.out]; rfl), H6.out.g⟩

set_option maxRecDepth 100000 in
set_option maxHeartbeats 8000000 in
theorem so_any {w : World} {V V' : OV} {x x' : PO} (h : OAt w V x) (h' : OAt w V' x') (hl : Ll x) (hl2 : Ll x') (z : Bool) (hz : decide (x = x') = z) :
    Calls Tryd.prog 20 #[V.agg, V'.agg] w fun e w' => e = .returned (.bool z) ∧ w.grownBy w' none := by
  obtain ⟨d, c, m, r, q, s⟩ := V
  obtain ⟨d', c', m', r', q', s'⟩ := V'
  have HL := hid hl
  have HM := hid hl2
  have H0 := hid (Bd.new h h')
  rw [po_ext] at hz
  have Hz := hid hz
  clear h h' hl hz hl2
  go_enter Tryd.func20, Tryd.ntmps20
  go_upto_region 1 with (fail)
  obtain ⟨G1, hG1⟩ : ∃ G, w.heap.size = G := ⟨_, rfl⟩
  rw [hG1] at H0 ⊢
  generalize (w.alloc (.cells #[d, c, m, r, q, s] 27)).alloc (.cells #[d', c', m', r', q', s'] 27) = w1 at H0 ⊢
  obtain ⟨G2, hG2⟩ : ∃ R, G1 + 1 = R := ⟨_, rfl⟩
  rw [hG2] at H0 ⊢
  clear hG1 hG2
  have ea := H0.out.a.cell 0 (v := d) rfl
  have eb := H0.out.b.cell 0 (v := d') rfl
  go_wp2_with fail
  clear ea eb
  rcases Bool.eq_false_or_eq_true (decide (x.D = x'.D)) with e0 | e0
  rotate_left
  · have E0 := hid e0
    clear e0
    refine (sw_any H0.out.o.d H0.out.p.d (by have := HL.out.1; omega) (by have := HM.out.1; omega) false E0.out).mono ?_
    rintro e w2 ⟨rfl, hg⟩
    have HE := hid (H0.out.kept0 hg)
    clear hg
    go_wp2
    go_ret
    exact ⟨ret_b (by rw [← Hz.out, E0.out]; rfl), HE.out.g⟩
  have E0 := hid e0
  clear e0
  refine (sw_any H0.out.o.d H0.out.p.d (by have := HL.out.1; omega) (by have := HM.out.1; omega) true E0.out).mono ?_
  rintro e w2 ⟨rfl, hg⟩
  have H1 := hid (H0.out.kept0 hg)
  clear hg H0
  have ea := H1.out.a.cell 1 (v := c) rfl
  have eb := H1.out.b.cell 1 (v := c') rfl
  go_wp2_with fail
  clear ea eb
  rcases Bool.eq_false_or_eq_true (decide (x.C = x'.C)) with e1 | e1
  rotate_left
  · have E1 := hid e1
    clear e1
    refine (sw_any H1.out.o.c H1.out.p.c (by have := HL.out.2.1; omega) (by have := HM.out.2.1; omega) false E1.out).mono ?_
    rintro e w2 ⟨rfl, hg⟩
    have HE := hid (H1.out.kept0 hg)
    clear hg
    go_wp2
    go_ret
    exact ⟨ret_b (by rw [← Hz.out, E0.out, E1.out]; rfl), HE.out.g⟩
  have E1 := hid e1
  clear e1
  refine (sw_any H1.out.o.c H1.out.p.c (by have := HL.out.2.1; omega) (by have := HM.out.2.1; omega) true E1.out).mono ?_
  rintro e w3 ⟨rfl, hg⟩
  have H2 := hid (H1.out.kept0 hg)
  clear hg H1
  have ea := H2.out.a.cell 2 (v := m) rfl
  have eb := H2.out.b.cell 2 (v := m') rfl
  go_wp2_with fail
  clear ea eb
  rcases Bool.eq_false_or_eq_true (decide (x.M = x'.M)) with e2 | e2
  rotate_left
  · have E2 := hid e2
    clear e2
    refine (sby_any H2.out.o.m H2.out.p.m (by have := HL.out.2.2.1; omega) false E2.out).mono ?_
    rintro e w2 ⟨rfl, hg⟩
    have HE := hid (H2.out.kept0 hg)
    clear hg
    go_wp2
    go_ret
    exact ⟨ret_b (by rw [← Hz.out, E0.out, E1.out, E2.out]; rfl), HE.out.g⟩
  have E2 := hid e2
  clear e2
  refine (sby_any H2.out.o.m H2.out.p.m (by have := HL.out.2.2.1; omega) true E2.out).mono ?_
  rintro e w4 ⟨rfl, hg⟩
  have H3 := hid (H2.out.kept0 hg)
  clear hg H2
  have ea := H3.out.a.cell 3 (v := r) rfl
  have eb := H3.out.b.cell 3 (v := r') rfl
  go_wp2_with fail
  clear ea eb
  rcases Bool.eq_false_or_eq_true (decide (x.R = x'.R)) with e3 | e3
  rotate_left
  · have E3 := hid e3
    clear e3
    refine (srl_any H3.out.o.r H3.out.p.r (by have := HL.out.2.2.2.1; omega) false E3.out).mono ?_
    rintro e w2 ⟨rfl, hg⟩
    have HE := hid (H3.out.kept0 hg)
    clear hg
    go_wp2
    go_ret
    exact ⟨ret_b (by rw [← Hz.out, E0.out, E1.out, E2.out, E3.out]; rfl), HE.out.g⟩
  have E3 := hid e3
  clear e3
  refine (srl_any H3.out.o.r H3.out.p.r (by have := HL.out.2.2.2.1; omega) true E3.out).mono ?_
  rintro e w5 ⟨rfl, hg⟩
  have H4 := hid (H3.out.kept0 hg)
  clear hg H3
  have ea := H4.out.a.cell 4 (v := q) rfl
  have eb := H4.out.b.cell 4 (v := q') rfl
  go_wp2_with fail
  clear ea eb
  rcases Bool.eq_false_or_eq_true (decide (x.Q = x'.Q)) with e4 | e4
  rotate_left
  · have E4 := hid e4
    clear e4
    refine (srl_any H4.out.o.q H4.out.p.q (by have := HL.out.2.2.2.2.1; omega) false E4.out).mono ?_
    rintro e w2 ⟨rfl, hg⟩
    have HE := hid (H4.out.kept0 hg)
    clear hg
    go_wp2
    go_ret
    exact ⟨ret_b (by rw [← Hz.out, E0.out, E1.out, E2.out, E3.out, E4.out]; rfl), HE.out.g⟩
  have E4 := hid e4
  clear e4
  refine (srl_any H4.out.o.q H4.out.p.q (by have := HL.out.2.2.2.2.1; omega) true E4.out).mono ?_
  rintro e w6 ⟨rfl, hg⟩
  have H5 := hid (H4.out.kept0 hg)
  clear hg H4
  have ea := H5.out.a.cell 5 (v := s) rfl
  have eb := H5.out.b.cell 5 (v := s') rfl
  go_wp2_with fail
  clear ea eb
  rcases Bool.eq_false_or_eq_true (decide (x.S = x'.S)) with e5 | e5
  rotate_left
  · have E5 := hid e5
    clear e5
    refine (ssy_any H5.out.o.s H5.out.p.s (by have := HL.out.2.2.2.2.2; omega) false E5.out).mono ?_
    rintro e w2 ⟨rfl, hg⟩
    have HE := hid (H5.out.kept0 hg)
    clear hg
    go_wp2
    go_ret
    exact ⟨ret_b (by rw [← Hz.out, E0.out, E1.out, E2.out, E3.out, E4.out, E5.out]; rfl), HE.out.g⟩
  have E5 := hid e5
  clear e5
  refine (ssy_any H5.out.o.s H5.out.p.s (by have := HL.out.2.2.2.2.2; omega) true E5.out).mono ?_
  rintro e w7 ⟨rfl, hg⟩
  have H6 := hid (H5.out.kept0 hg)
  clear hg H5
  go_wp2
  go_ret
  exact ⟨ret_b (by rw [← Hz.out, E0.out, E1.out, E2.out, E3.out, E4.out, E5.out]; rfl), H6.out.g⟩
end Go.Proofs.YteanoklaammpiaaDoor
