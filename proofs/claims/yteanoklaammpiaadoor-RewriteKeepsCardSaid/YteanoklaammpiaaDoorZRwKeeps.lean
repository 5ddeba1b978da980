/- The law RewriteKeeps: walked. (Made by gorwkeeps.py.) -/
import Derived.Test.YteanoklaammpiaaDoorZGRwD
import Derived.Test.YteanoklaammpiaaDoorZRwK
import Derived.Test.YteanoklaammpiaaDoorZGRv
import Derived.Test.YteanoklaammpiaaDoorZRv0
import Derived.Test.YteanoklaammpiaaDoorZGMem
import Derived.Test.YteanoklaammpiaaDoorZObjG
import Derived.BigQuiet
import Derived.Deep.QuietTactic
import Derived.Deep.Cut
import Derived.Deep.CutRange
import Derived.Deep.RegionHeld3
import Derived.StillTailTactics
namespace Go.Proofs.YteanoklaammpiaaDoor
open Go.RowKit
theorem pl_next_le (x : PO) (k : Nat) : plN x k + 1 ≤ plN x (k + 1) := by
  cases h : siteB x k
  · rw [pl_no h]; exact Nat.le_refl _
  · rw [pl_yes h]; omega
theorem pl_mono (x : PO) : ∀ {n k : Nat}, k ≤ n → plN x k ≤ plN x n
  | 0, k, h => by rw [show k = 0 by omega]; exact Nat.le_refl _
  | n + 1, k, h => by
    by_cases e : k = n + 1
    · rw [e]; exact Nat.le_refl _
    · have h1 := pl_mono x (n := n) (k := k) (by omega)
      have h2 := pl_next_le x n
      omega
theorem pl_lt (x : PO) {n k : Nat} (h : k < n) : plN x k < plN x n := by
  have h1 := pl_mono x (n := n) (k := k + 1) h
  have h2 := pl_next_le x k
  omega
theorem site_back {x : PO} {k : Nat} {y : Int} (hw : wordF x k = none) (hy : x.C.getD k 0 = y) (y0 : 0 ≤ y) (h : siteB x k = true) : backV (2147483648 + y) = insV y := by
  obtain ⟨hm, ht⟩ := siteB_yes h
  have hi := word_ins hw hm
  unfold wIns at hi
  rw [hy] at hi
  unfold isT wOp at ht
  rw [hy] at ht
  simp only [decide_eq_true_eq] at ht
  have e : 2147483648 + y - 2147483648 = y := by omega
  unfold backV
  rw [e, if_pos]
  unfold bkB bkIns
  rw [e, ins_want, hi]
  have h2 : (decide (2147483648 ≤ 2147483648 + y)) = true := by simp only [decide_eq_true_eq]; omega
  rw [h2]
  rcases ht with ht | ht <;> rw [ht] <;> decide
theorem cls_le (o : Int) : 0 ≤ clsI o ∧ clsI o ≤ 4 := by
  unfold clsI
  repeat' split
  all_goals omega
/-- what stands beside the loops -/
structure KPw (W w : World) (G X : Nat) (V V2 : OV) (x : PO) (pv : Value) : Prop where
  g : W.grownBy w none
  box : RwAt w G 27 #[V.d, V.c, V.m, V.r, V.q, V.s]
  bx : RwAt w X 27 #[V2.d, V2.c, V2.m, V2.r, V2.q, V2.s]
  o : OAt w V x
  o2 : OAt w V2 (rwO x)
  p : SlAt w .i64 pv (plL x (x.C.length + 1))
theorem KPw.kept0 {W w w1 : World} {G X : Nat} {V V2 : OV} {x : PO} {pv : Value} (h : KPw W w G X V V2 x pv) (hg : w.grownBy w1 none) : KPw W w1 G X V V2 x pv := ⟨grown_trans h.g hg, h.box.kept0 hg, h.bx.kept0 hg, h.o.kept0 hg, h.o2.kept0 hg, h.p.kept0 hg⟩
theorem rwo_len (x : PO) (hl : x.M.length = x.C.length) : (rwO x).D.length = x.D.length ∧ (rwO x).C.length = plN x x.C.length ∧ (rwO x).M.length = plN x x.C.length ∧ (rwO x).R.length = x.R.length ∧ (rwO x).Q.length = x.Q.length ∧ (rwO x).S.length = x.S.length := ⟨rfl, rwC_length x _, rwM_length x _, rfl, by simp [rwO], by simp [rwO]⟩
theorem OAt.slices {w : World} {V : OV} {x : PO} (h : OAt w V x) : ∃ p0 c0 p1 c1 p2 c2 p3 c3 p4 c4 p5 c5, V = ⟨.slice p0 x.D.length c0, .slice p1 x.C.length c1, .slice p2 x.M.length c2, .slice p3 x.R.length c3, .slice p4 x.Q.length c4, .slice p5 x.S.length c5⟩ := by
  obtain ⟨d, c, m, r, q, s⟩ := V
  obtain ⟨p0, c0, e0⟩ := h.d.len'
  obtain ⟨p1, c1, e1⟩ := h.c.len'
  obtain ⟨p2, c2, e2⟩ := h.m.len'
  obtain ⟨p3, c3, e3⟩ := CsAt.len h.r
  obtain ⟨p4, c4, e4⟩ := CsAt.len h.q
  obtain ⟨p5, c5, e5⟩ := CsAt.len h.s
  simp only at e0 e1 e2 e3 e4 e5
  subst e0; subst e1; subst e2; subst e3; subst e4; subst e5
  exact ⟨p0, c0, p1, c1, p2, c2, p3, c3, p4, c4, p5, c5, rfl⟩
set_option maxRecDepth 100000 in
set_option maxHeartbeats 16000000 in
theorem keeps_walk (V : OV) (x : PO) (W : World) (A : Nat → Addr) (hS : ErrC W A) (h : OAt W V x) (hf : OFit x) :
    Calls Tryd.prog 5 #[V.agg] W fun e W' => e = .returned (.bool true) ∧ Below W.heap.size W W' := by
  obtain ⟨p0, c0, p1, c1, p2, c2, p3, c3, p4, c4, p5, c5, rfl⟩ := h.slices
  obtain ⟨nD, hD⟩ : ∃ n, x.D.length = n := ⟨_, rfl⟩
  obtain ⟨n, hC⟩ : ∃ n, x.C.length = n := ⟨_, rfl⟩
  obtain ⟨nM, hM⟩ : ∃ n, x.M.length = n := ⟨_, rfl⟩
  obtain ⟨nR, hR⟩ : ∃ n, x.R.length = n := ⟨_, rfl⟩
  obtain ⟨nQ, hQ⟩ : ∃ n, x.Q.length = n := ⟨_, rfl⟩
  obtain ⟨nS, hSy⟩ : ∃ n, x.S.length = n := ⟨_, rfl⟩
  rw [hD, hC, hM, hR, hQ, hSy] at h ⊢
  have HL := hid (And.intro hD (And.intro hC (And.intro hM (And.intro hR (And.intro hQ hSy)))))
  have HB0 := hid (RwAt.new W 27 #[.slice p0 nD c0, .slice p1 n c1, .slice p2 nM c2, .slice p3 nR c3, .slice p4 nQ c4, .slice p5 nS c5])
  have HG0 := hid (World.grownBy_alloc W (.cells #[.slice p0 nD c0, .slice p1 n c1, .slice p2 nM c2, .slice p3 nR c3, .slice p4 nQ c4, .slice p5 nS c5] 27) none)
  have HO := hid h
  have HE := hid hS
  have HF := hid hf
  clear h hS hf hD hC hM hR hQ hSy
  go_enter Tryd.func5, Tryd.ntmps5
  go_upto_region 1 with (fail)
  obtain ⟨G, hG⟩ : ∃ G, W.heap.size = G := ⟨_, rfl⟩
  rw [hG] at HB0 ⊢
  clear hG
  generalize W.alloc (.cells #[.slice p0 nD c0, .slice p1 n c1, .slice p2 nM c2, .slice p3 nR c3, .slice p4 nQ c4, .slice p5 nS c5] 27) = w1 at HB0 HG0 ⊢
  go_wp2_with fail
  refine (first11_any (HE.out.kept0 HG0.out)).mono ?_
  rintro e w2 ⟨rfl, hg⟩
  have HB2 := hid (HB0.out.kept0 hg)
  have HG2 := hid (grown_trans HG0.out hg)
  clear hg HB0 HG0
  go_wp2_with (first
    | (refine wpList_load_rw rfl 27 _ rfl rfl HB2.out rfl Tryd.underlying27 info_object ?_)
    | fail)
  refine (light_any (HO.out.kept0 HG2.out) HF.out 200 (by omega) (by omega)).mono ?_
  rintro e w3 ⟨⟨li, rfl, hli⟩, hg⟩
  have HB3 := hid (HB2.out.kept0 hg)
  have HG3 := hid (grown_trans HG2.out hg)
  clear hg HB2 HG2
  cases li with
  | false =>
    go_wp2
    go_ret
    exact ⟨rfl, grown_below HG3.out⟩
  | true =>
    have HLi := hid (hli rfl)
    clear hli
    go_wp2_with (first
      | (refine wpList_load_rw rfl 27 _ rfl rfl HB3.out rfl Tryd.underlying27 info_object ?_)
      | fail)
    by_cases hv : validP x = none
    · have Hok := hid (valid_ok hv)
      have Hn200 : Hid (n ≤ 200 ∧ nD ≤ 200 ∧ nQ ≤ 80 ∧ nS ≤ 40 ∧ nR ≤ 40) := hid (by
        have h1 := HLi.out.c
        have h2 := HLi.out.d
        have h3 := HLi.out.q
        have h4 := HLi.out.s
        have h5 := HLi.out.r
        have := HL.out
        omega)
      have hpl : plN x x.C.length ≤ 2048 := by have := (pl_le x x.C.length).2; have := Hn200.out; have := HL.out; omega
      refine (do_yes (HO.out.kept0 HG3.out) (HE.out.kept0 HG3.out) HF.out hv hpl).mono ?_
      rintro e w4 ⟨V2, pv, rfl, ho2, hp, hg⟩
      obtain ⟨s0, t0, s1, t1, s2, t2, s3, t3, s4, t4, s5, t5, rfl⟩ := ho2.slices
      obtain ⟨l0, l1, l2, l3, l4, l5⟩ := rwo_len x Hok.out.len
      have hnM : nM = n := by have := Hok.out.len; have := HL.out; omega
      subst hnM
      obtain ⟨Pn, hPn⟩ : ∃ Pn, plN x x.C.length = Pn := ⟨_, rfl⟩
      have HPn : Hid (plN x nM = Pn) := hid (by rw [← hPn, HL.out.2.1])
      have Hp := hid (slat_len hp (plL_length x _))
      rw [l0, l1, l2, l3, l4, l5, hPn, HL.out.1, HL.out.2.2.2.1, HL.out.2.2.2.2.1, HL.out.2.2.2.2.2] at ho2 ⊢
      obtain ⟨bp, qp, hpv⟩ := own_at0 hp (by omega)
      obtain ⟨N1, hN1⟩ : ∃ N1, nM + 1 = N1 := ⟨_, rfl⟩
      have HN1 := hid hN1
      rw [HL.out.2.1, hN1] at hpv
      subst hpv
      have al := World.grownBy_alloc w4 (.cells #[.slice s0 nD t0, .slice s1 Pn t1, .slice s2 Pn t2, .slice s3 nR t3, .slice s4 nQ t4, .slice s5 nS t5] 27) none
      have HK : Hid (KPw W (w4.alloc (.cells #[.slice s0 nD t0, .slice s1 Pn t1, .slice s2 Pn t2, .slice s3 nR t3, .slice s4 nQ t4, .slice s5 nS t5] 27)) G w4.heap.size _ ⟨.slice s0 nD t0, .slice s1 Pn t1, .slice s2 Pn t2, .slice s3 nR t3, .slice s4 nQ t4, .slice s5 nS t5⟩ x _) :=
        hid ⟨grown_trans (grown_trans HG3.out hg) al, (HB3.out.kept0 hg).kept0 al, RwAt.new w4 _ _, (HO.out.kept0 HG3.out).kept0 (grown_trans hg al), ho2.at_.kept0 al, Hp.out.kept0 al⟩
      have Hzo := zero_obj
      clear ho2 hp hg al hv hpl hPn l0 l1 l2 l3 l4 l5 Hp HB3 HG3
      go_upto_region 7 with (fail)
      clear Hzo
      obtain ⟨X, hX⟩ : ∃ X, w4.heap.size = X := ⟨_, rfl⟩
      rw [hX] at HK ⊢
      clear hX
      generalize w4.alloc (.cells #[.slice s0 nD t0, .slice s1 Pn t1, .slice s2 Pn t2, .slice s3 nR t3, .slice s4 nQ t4, .slice s5 nS t5] 27) = w5 at HK ⊢
      go_upto_region 9 with (fail)
      go_cut [107] from 36 to 107 (fun u107 wz => u107 = .bool false ∧ Hid (KPw W wz G X ⟨.slice p0 nD c0, .slice p1 nM c1, .slice p2 nM c2, .slice p3 nR c3, .slice p4 nQ c4, .slice p5 nS c5⟩ ⟨.slice s0 nD t0, .slice s1 Pn t1, .slice s2 Pn t2, .slice s3 nR t3, .slice s4 nQ t4, .slice s5 nS t5⟩ x (.slice (some ⟨bp, 0, none⟩) N1 qp)))
      case first =>
        as_aux_lemma =>
          simp only [List.append_eq, List.cons_append, List.nil_append]
          have dr := grown_drew (grown_refl w5 none)
          have HK2 := hid (HK.out.kept0 dr)
          obtain ⟨M2, hM2⟩ : ∃ M2, 2 * nM = M2 := ⟨_, rfl⟩
          have m1 : (nM : Int) * 2 = (M2 : Int) := by omega
          have m2 : (2 : Int) * (nM : Int) = (M2 : Int) := by omega
          have m3 : (nM : Int) + 1 = (N1 : Int) := by omega
          have b7 : nM < N1 := by omega
          have b8 : (nM : Int) < (N1 : Int) := by omega
          have m4 : decide (M2 < Pn) = false := by
            have := (pl_le x nM).2
            have := HPn.out
            simp only [decide_eq_false_iff_not]; omega
          have b1 : (Pn : Int) ≤ 400 := by
            have := (pl_le x nM).2
            have := HPn.out
            have := Hn200.out
            omega
          have b2 : (nM : Int) ≤ 200 := by have := Hn200.out; omega
          have b3 : (nQ : Int) ≤ 200 := by have := Hn200.out; omega
          have b4 : (nS : Int) ≤ 200 := by have := Hn200.out; omega
          have b5 : (0 : Int) ≤ (nM : Int) := by omega
          have b6 : (0 : Int) ≤ (Pn : Int) := by omega
          have w1' := wrap_i64_id (n := (M2 : Int)) (by omega) (by omega)
          have w2' := wrap_i64_id (n := (N1 : Int)) (by omega) (by omega)
          have HQ1 : Hid (∀ W' : World, w5.drew.grownBy W' none → Calls Tryd.prog 23 #[.slice s0 nD t0, .slice p0 nD c0] W' fun e w' => e = .returned (.bool true) ∧ W'.grownBy w' none) := hid (fun W' hg => sw_any (HK2.out.kept0 hg).o2.d (HK2.out.kept0 hg).o.d (by show x.D.length ≤ _; have := HL.out; have := Hn200.out; omega) (by have := HL.out; have := Hn200.out; omega) true (by simp [rwO]))
          have HQ2 : Hid (∀ W' : World, w5.drew.grownBy W' none → Calls Tryd.prog 24 #[.slice s3 nR t3, .slice p3 nR c3] W' fun e w' => e = .returned (.bool true) ∧ W'.grownBy w' none) := hid (fun W' hg => srl_any (HK2.out.kept0 hg).o2.r (HK2.out.kept0 hg).o.r (by show x.R.length ≤ _; have := HL.out; have := Hn200.out; omega) true (by simp [rwO]))
          have g0 := HK2.out.box.cell 0 (v := .slice p0 nD c0) rfl
          have g1 := HK2.out.box.cell 1 (v := .slice p1 nM c1) rfl
          have g3 := HK2.out.box.cell 3 (v := .slice p3 nR c3) rfl
          have g4 := HK2.out.box.cell 4 (v := .slice p4 nQ c4) rfl
          have g5 := HK2.out.box.cell 5 (v := .slice p5 nS c5) rfl
          have x0 := HK2.out.bx.cell 0 (v := .slice s0 nD t0) rfl
          have x1 := HK2.out.bx.cell 1 (v := .slice s1 Pn t1) rfl
          have x2 := HK2.out.bx.cell 2 (v := .slice s2 Pn t2) rfl
          have x3 := HK2.out.bx.cell 3 (v := .slice s3 nR t3) rfl
          have x4 := HK2.out.bx.cell 4 (v := .slice s4 nQ t4) rfl
          have x5 := HK2.out.bx.cell 5 (v := .slice s5 nS t5) rfl
          have hpat : ∀ W' : World, w5.drew.grownBy W' none → W'.cell? ⟨bp, nM, none⟩ = some (.int .i64 (Pn : Int)) := fun W' hg => by
            obtain ⟨b, o, c', hv, -, hc⟩ := (HK2.out.kept0 hg).p.at_ (by rw [plL_length]; omega)
            simp only [Value.slice.injEq, Option.some.injEq, Addr.mk.injEq, and_true] at hv
            obtain ⟨⟨rfl, rfl⟩, -, -⟩ := hv
            have := hc nM _ (plL_get x (by have := HL.out; omega))
            rw [Nat.zero_add, HPn.out] at this
            exact this
          have Hpat := hid hpat
          have a1 := hpat _ (grown_refl _ none)
          have Hdr := hid dr
          clear hM2 hpat dr
          go_region_held3 (fun W' => W'.cell? ⟨G, 0, none⟩ = some (.slice p0 nD c0) ∧ W'.cell? ⟨G, 1, none⟩ = some (.slice p1 nM c1) ∧ W'.cell? ⟨G, 3, none⟩ = some (.slice p3 nR c3) ∧ W'.cell? ⟨G, 4, none⟩ = some (.slice p4 nQ c4) ∧ W'.cell? ⟨G, 5, none⟩ = some (.slice p5 nS c5) ∧ W'.cell? ⟨X, 0, none⟩ = some (.slice s0 nD t0) ∧ W'.cell? ⟨X, 1, none⟩ = some (.slice s1 Pn t1) ∧ W'.cell? ⟨X, 2, none⟩ = some (.slice s2 Pn t2) ∧ W'.cell? ⟨X, 3, none⟩ = some (.slice s3 nR t3) ∧ W'.cell? ⟨X, 4, none⟩ = some (.slice s4 nQ t4) ∧ W'.cell? ⟨X, 5, none⟩ = some (.slice s5 nS t5) ∧ W'.cell? ⟨bp, nM, none⟩ = some (.int .i64 (Pn : Int)) ∧ w5.drew.grownBy W' none)
            (first | (with_reducible exact ⟨g0, g1, g3, g4, g5, x0, x1, x2, x3, x4, x5, a1, grown_refl _ _⟩) | (go_split_ands; have hgr := grown_trans (w := w5.drew) (r := none) (by assumption) hcb; have kk := HK2.out.kept0 hgr; exact ⟨kk.box.cell 0 rfl, kk.box.cell 1 rfl, kk.box.cell 3 rfl, kk.box.cell 4 rfl, kk.box.cell 5 rfl, kk.bx.cell 0 rfl, kk.bx.cell 1 rfl, kk.bx.cell 2 rfl, kk.bx.cell 3 rfl, kk.bx.cell 4 rfl, kk.bx.cell 5 rfl, Hpat.out _ hgr, hgr⟩))
            (first
              | (go_split_ands; go_at_call 23; (with_reducible refine (HQ1.out _ (by assumption)).mono ?_); rintro e w' ⟨rfl, hcb⟩)
              | (go_split_ands; go_at_call 24; (with_reducible refine (HQ2.out _ (by assumption)).mono ?_); rintro e w' ⟨rfl, hcb⟩))
          go_split_ands
          go_wp2_with fail
          go_meet
          exact ⟨rfl, hid (HK2.out.kept0 (by assumption))⟩
      case rest =>
        obtain ⟨rfl, HKz⟩ := hcut
        have e0 := HKz.out.box.cell 1 (v := .slice p1 nM c1) rfl
        clear e0 HK
        have b2 : (nM : Int) ≤ 200 := by have := Hn200.out; omega
        have b4 : (nS : Int) ≤ 200 := by have := Hn200.out; omega
        have b5 : (0 : Int) ≤ (nM : Int) := by omega
        have b9 : (0 : Int) ≤ (nS : Int) := by omega
        have Hpat : Hid (∀ W' : World, KPw W W' G X ⟨.slice p0 nD c0, .slice p1 nM c1, .slice p2 nM c2, .slice p3 nR c3, .slice p4 nQ c4, .slice p5 nS c5⟩ ⟨.slice s0 nD t0, .slice s1 Pn t1, .slice s2 Pn t2, .slice s3 nR t3, .slice s4 nQ t4, .slice s5 nS t5⟩ x (.slice (some ⟨bp, 0, none⟩) N1 qp) → ∀ k, k < N1 → W'.cell? ⟨bp, k, none⟩ = some (.int .i64 (plN x k : Int))) := hid (fun W' hk k hk1 => by
          obtain ⟨b, o, c', hv, -, hc⟩ := hk.p.at_ (by rw [plL_length]; omega)
          simp only [Value.slice.injEq, Option.some.injEq, Addr.mk.injEq, and_true] at hv
          obtain ⟨⟨rfl, rfl⟩, -, -⟩ := hv
          have := hc k _ (plL_get x (by have := HL.out; have := HN1.out; omega))
          rw [Nat.zero_add] at this
          exact this)
        go_wp2
        go_loopw [7] (fun i wr => ∃ k : Nat, k ≤ nM ∧ i = .int .i64 k ∧ Hid (KPw W wr G X ⟨.slice p0 nD c0, .slice p1 nM c1, .slice p2 nM c2, .slice p3 nR c3, .slice p4 nQ c4, .slice p5 nS c5⟩ ⟨.slice s0 nD t0, .slice s1 Pn t1, .slice s2 Pn t2, .slice s3 nR t3, .slice s4 nQ t4, .slice s5 nS t5⟩ x (.slice (some ⟨bp, 0, none⟩) N1 qp))) (fun i _ => nM - (intOf i).toNat)
        case atStart => exact ⟨0, Nat.zero_le _, rfl, HKz⟩
        case round =>
          obtain ⟨k, hk, rfl, HR⟩ := hrel
          have k0 : (0 : Int) ≤ (k : Int) := by omega
          have g1 := HR.out.box.cell 1 (v := .slice p1 nM c1) rfl
          by_cases hlt : k < nM
          · have kn : (k : Int) < (nM : Int) := by omega
            have Hlt := hid hlt
            obtain ⟨y, hy⟩ : ∃ y, x.C[k]? = some y := ⟨_, List.getElem?_eq_getElem (by have := HL.out; omega)⟩
            obtain ⟨mk, hm⟩ : ∃ mk, x.M[k]? = some mk := ⟨_, List.getElem?_eq_getElem (by have := HL.out; omega)⟩
            have hyr := HF.out.c y (List.mem_of_getElem? hy)
            have y0 := hyr.1
            have y1 := hyr.2
            have Hyd : Hid (x.C.getD k 0 = y) := hid (by rw [List.getD_eq_getElem?_getD, hy]; rfl)
            have Hmd : Hid (x.M.getD k 0 = mk) := hid (by rw [List.getD_eq_getElem?_getD, hm]; rfl)
            have Hmap : Hid (mapN x k = mk) := hid (by unfold mapN; exact Hmd.out)
            have Hwf := hid (Hok.out.word k (by have := HL.out; omega))
            obtain ⟨A, hA⟩ : ∃ A, plN x k = A := ⟨_, rfl⟩
            obtain ⟨B, hB⟩ : ∃ B, plN x (k + 1) = B := ⟨_, rfl⟩
            have HAB := hid (And.intro hA hB)
            have hkA : k ≤ A := by rw [← hA]; exact (pl_le x k).1
            have hAP : A < Pn := by rw [← hA, ← HPn.out]; exact pl_lt x hlt
            have hP4 : Pn ≤ 400 := by
              have := (pl_le x nM).2
              have := HPn.out
              have := Hn200.out
              omega
            have i1 : decide (A < k) = false := by simp only [decide_eq_false_iff_not]; omega
            have i2 : ¬ (A < k) := by omega
            have i3 : (k : Int) ≤ (A : Int) := by omega
            have i4 : (A : Int) < (Pn : Int) := by omega
            have i5 : decide (Pn ≤ A) = false := by simp only [decide_eq_false_iff_not]; omega
            have i6 : (0 : Int) ≤ (A : Int) := by omega
            have i7 : (Pn : Int) ≤ 400 := by omega
            have i8 : (k : Int) < (N1 : Int) := by have := HN1.out; omega
            have pk : wr.cell? ⟨bp, k, none⟩ = some (.int .i64 (A : Int)) := by rw [← hA]; exact Hpat.out _ HR.out k (by have := HN1.out; omega)
            obtain ⟨bc, oc, c', hvc, hbc, hcc⟩ := HR.out.o.c.at_ (by have := HL.out; omega)
            simp only [Value.slice.injEq] at hvc
            obtain ⟨rfl, -, -⟩ := hvc
            have ey := hcc k y hy
            obtain ⟨bm, om, cm, hvm, hbm, hcm⟩ := HR.out.o.m.at_ (by have := HL.out; omega)
            simp only [Value.slice.injEq] at hvm
            obtain ⟨rfl, -, -⟩ := hvm
            have em := hcm k mk hm
            have g2 := HR.out.box.cell 2 (v := .slice (some ⟨bm, om, none⟩) nM c2) rfl
            have x1 := HR.out.bx.cell 1 (v := .slice s1 Pn t1) rfl
            clear hcc hbc hcm hbm hy hm hA hB hyr hlt
            obtain ⟨cl, hcl⟩ : ∃ cl, clsI (y / 16777216) = cl := ⟨_, rfl⟩
            have Hcl := hid hcl
            clear hcl
            go_wp2_with fail
            refine (rclass_any (y / 16777216) _).mono ?_
            rintro e w6 ⟨rfl, rfl⟩
            rw [Hcl.out]
            -- the rewritten one's words
            obtain ⟨bx, ox, cx, hvx, hbx, hcx⟩ := HR.out.o2.c.at_ (by rw [(rwo_len x Hok.out.len).2.1, HL.out.2.1, HPn.out]; omega)
            simp only [Value.slice.injEq] at hvx
            obtain ⟨rfl, -, -⟩ := hvx
            obtain ⟨by', oy, cy, hvy, hby, hcy⟩ := HR.out.o2.m.at_ (by rw [(rwo_len x Hok.out.len).2.2.1, HL.out.2.1, HPn.out]; omega)
            simp only [Value.slice.injEq] at hvy
            obtain ⟨rfl, -, -⟩ := hvy
            have x2 := HR.out.bx.cell 2 (v := .slice (some ⟨by', oy, none⟩) Pn t2) rfl
            have pk1 : wr.cell? ⟨bp, k + 1, none⟩ = some (.int .i64 (B : Int)) := by rw [← HAB.out.2]; exact Hpat.out _ HR.out (k + 1) (by have := HN1.out; have := Hlt.out; omega)
            have i9 : (k : Int) + 1 < (N1 : Int) := by have := HN1.out; have := Hlt.out; omega
            have i10 : k + 1 < N1 := by have := HN1.out; have := Hlt.out; omega
            cases hs : siteB x k
            · have hBA : B = A + 1 := by rw [← HAB.out.1, ← HAB.out.2]; exact pl_no hs
              have ex : wr.cell? ⟨bx, ox + A, none⟩ = some (.int .u32 y) := hcx A y (by
                show (rwC x x.C.length)[A]? = _
                rw [← HAB.out.1, rwC_other hs (by have := HL.out; have := Hlt.out; omega), Hyd.out])
              have emx : wr.cell? ⟨by', oy + A, none⟩ = some (.int .u8 mk) := hcy A mk (by
                show (rwM x x.C.length)[A]? = _
                rw [← HAB.out.1, rwM_other hs (by have := HL.out; have := Hlt.out; omega), Hmd.out])
              have iB : (A : Int) + 1 = (B : Int) := by omega
              have Hs := hid hs
              clear hcx hcy hbx hby hs hBA
              by_cases h1 : mk = 1
              · subst h1
                have hc1 : cl = 1 := by
                  have hi := word_ins Hwf.out Hmap.out
                  have h0 : clsI (wOp x k) ≠ 0 := ins_cls hi
                  have hf := siword_first Hwf.out Hmap.out
                  unfold firstF at hf
                  rw [opN_yes Hmap.out hi] at hf
                  have h4 : clsI (wOp x k) ≠ 4 := fun e => by rw [if_pos (.inr e)] at hf; cases hf
                  have hw : wOp x k = y / 16777216 := by unfold wOp; rw [Hyd.out]
                  have hn := siteB_no Hs.out
                  have ht : ¬ (clsI (wOp x k) = 2 ∨ clsI (wOp x k) = 3) := fun e => hn ⟨Hmap.out, by unfold isT; simpa using e⟩
                  rw [hw, Hcl.out] at h0 h4 ht
                  have hb := cls_le (y / 16777216)
                  rw [Hcl.out] at hb
                  omega
                subst hc1
                as_aux_lemma =>
                  go_upto_region 19 with (fail)
                  go_quiet (fail)
                  go_wp2
                  go_roundw
                  case rel => exact ⟨k + 1, Hlt.out, by go_num, hid (HR.out.kept0 (grown_drewN (grown_refl _ none) _))⟩
                  case measure => simp [intOf]; have := Hlt.out; omega
              · have h1b : (mk != 1) = true := by simpa using h1
                have h1c : (mk == 1) = false := by simpa using h1
                clear h1
                as_aux_lemma =>
                  go_upto_region 19 with (fail)
                  go_quiet (fail)
                  go_wp2
                  go_roundw
                  case rel => exact ⟨k + 1, Hlt.out, by go_num, hid (HR.out.kept0 (grown_drewN (grown_refl _ none) _))⟩
                  case measure => simp [intOf]; have := Hlt.out; omega
            · have hBA : B = A + 2 := by rw [← HAB.out.1, ← HAB.out.2]; exact pl_yes hs
              obtain ⟨hm1, ht⟩ := siteB_yes hs
              obtain rfl : mk = 1 := by rw [← Hmap.out]; exact hm1
              have hc23 : cl = 2 ∨ cl = 3 := by
                unfold isT wOp at ht
                rw [Hyd.out] at ht
                simp only [decide_eq_true_eq] at ht
                rw [Hcl.out] at ht
                exact ht
              have cl1 : (cl == 1) = false := by simp only [beq_eq_false_iff_ne]; omega
              have h31 : y < 2147483648 := by
                have := Hcl.out
                unfold clsI at this
                repeat' split at this
                all_goals omega
              have ex : wr.cell? ⟨bx, ox + A, none⟩ = some (.int .u32 1610612736) := hcx A _ (by
                show (rwC x x.C.length)[A]? = _
                rw [← HAB.out.1]
                exact (rwC_site hs (by have := HL.out; have := Hlt.out; omega)).1)
              have ex1 : wr.cell? ⟨bx, ox + (A + 1), none⟩ = some (.int .u32 (2147483648 + y)) := hcx (A + 1) _ (by
                show (rwC x x.C.length)[A + 1]? = _
                rw [← HAB.out.1, (rwC_site hs (by have := HL.out; have := Hlt.out; omega)).2, Hyd.out])
              have emx : wr.cell? ⟨by', oy + A, none⟩ = some (.int .u8 1) := hcy A _ (by
                show (rwM x x.C.length)[A]? = _
                rw [← HAB.out.1]
                exact (rwM_site hs (by have := HL.out; have := Hlt.out; omega)).1)
              have emx1 : wr.cell? ⟨by', oy + (A + 1), none⟩ = some (.int .u8 0) := hcy (A + 1) _ (by
                show (rwM x x.C.length)[A + 1]? = _
                rw [← HAB.out.1]
                exact (rwM_site hs (by have := HL.out; have := Hlt.out; omega)).2)
              have ex2 : wr.cell? ⟨bx, ox + A + 1, none⟩ = some (.int .u32 (2147483648 + y)) := ex1
              have emx2 : wr.cell? ⟨by', oy + A + 1, none⟩ = some (.int .u8 0) := emx1
              have iB : (A : Int) + 2 = (B : Int) := by omega
              have iP : A + 1 < Pn := by
                have h1 := (List.getElem?_eq_some_iff.1 (rwC_site hs (show k < x.C.length by have := HL.out; have := Hlt.out; omega)).2).1
                rw [rwC_length, HL.out.2.1, HPn.out, HAB.out.1] at h1
                exact h1
              have iP2 : (A : Int) + 1 < (Pn : Int) := by omega
              have iP3 : (0 : Int) ≤ (A : Int) + 1 := by omega
              have Hbk := hid (site_back Hwf.out Hyd.out y0 hs)
              have Hyr : Hid (0 ≤ 2147483648 + y ∧ 2147483648 + y < 4294967296) := hid (by omega)
              clear hcx hcy hbx hby hs hBA hm1 ht hc23
              as_aux_lemma =>
                go_wp2_with fail
                refine (wback_is _ _ Hyr.out.1 Hyr.out.2).mono ?_
                rintro e w7 ⟨rfl, hg⟩
                rw [Hbk.out, insV]
                obtain ⟨q0, hq0⟩ : ∃ q0, y / 16777216 = q0 := ⟨_, rfl⟩
                obtain ⟨q1, hq1⟩ : ∃ q1, y / 65536 % 256 = q1 := ⟨_, rfl⟩
                obtain ⟨q2, hq2⟩ : ∃ q2, y / 256 % 256 = q2 := ⟨_, rfl⟩
                obtain ⟨q3, hq3⟩ : ∃ q3, y % 256 = q3 := ⟨_, rfl⟩
                obtain ⟨q4, hq4⟩ : ∃ q4, wantImm (y / 16777216) 0 = q4 := ⟨_, rfl⟩
                rw [hq4, hq0, hq1, hq2, hq3]
                have al := World.grownBy_alloc w7 (.cells #[.int .i64 q0, .int .i64 q1, .int .i64 q2, .int .i64 q3, .int .u32 q4] 44) none
                have HI := hid (RwAt.new w7 44 #[.int .i64 q0, .int .i64 q1, .int .i64 q2, .int .i64 q3, .int .u32 q4])
                have HR8 := hid ((HR.out.kept0 hg).kept0 al)
                have Hq0 := hid hq0
                have ey8 := (grown_cell (grown_trans hg al) (World.block_lt_of_cell? _ _ ey) (by simp)).trans ey
                clear hg al hq0 hq1 hq2 hq3 hq4 ex ex1 ex2 emx emx1 emx2 pk pk1 ey em g1 g2 x1 x2
                have hzi := zero_ins9
                go_upto_region 24 with (fail)
                clear hzi
                obtain ⟨Y, hY⟩ : ∃ Y, w7.heap.size = Y := ⟨_, rfl⟩
                rw [hY] at HI ⊢
                clear hY
                generalize w7.alloc (.cells #[.int .i64 q0, .int .i64 q1, .int .i64 q2, .int .i64 q3, .int .u32 q4] 44) = w8 at HI HR8 ey8 ⊢
                have z0 := HI.out.cell 0 (v := .int .i64 q0) rfl
                have g1 := HR8.out.box.cell 1 (v := .slice (some ⟨bc, oc, none⟩) nM c1) rfl
                have hq0 := Hq0.out
                go_quiet (fail)
                go_wp2
                go_roundw
                case rel => exact ⟨k + 1, Hlt.out, by go_num, hid (HR8.out.kept0 (grown_drewN (grown_refl _ none) _))⟩
                case measure => simp [intOf]; have := Hlt.out; omega
          · obtain rfl : k = nM := by omega
            have kn : ¬ ((k : Int) < (k : Int)) := by omega
            clear hlt
            as_aux_lemma =>
              go_wp2
              go_loopw [12] (fun i wr => ∃ j : Nat, j ≤ nS ∧ i = .int .i64 j ∧ Hid (KPw W wr G X ⟨.slice p0 nD c0, .slice p1 k c1, .slice p2 k c2, .slice p3 nR c3, .slice p4 nQ c4, .slice p5 nS c5⟩ ⟨.slice s0 nD t0, .slice s1 Pn t1, .slice s2 Pn t2, .slice s3 nR t3, .slice s4 nQ t4, .slice s5 nS t5⟩ x (.slice (some ⟨bp, 0, none⟩) N1 qp))) (fun i _ => nS - (intOf i).toNat)
              case atStart => exact ⟨0, Nat.zero_le _, rfl, HR⟩
              case round =>
                obtain ⟨j, hj, rfl, HR2⟩ := hrel
                have j0 : (0 : Int) ≤ (j : Int) := by omega
                have g5 := HR2.out.box.cell 5 (v := .slice p5 nS c5) rfl
                by_cases hlt : j < nS
                · have jn : (j : Int) < (nS : Int) := by omega
                  have Hlt := hid hlt
                  obtain ⟨⟨yn, yi, yv, yg⟩, hy⟩ : ∃ y, x.S[j]? = some y := ⟨_, List.getElem?_eq_getElem (by have := HL.out; omega)⟩
                  obtain ⟨bs, os, c', hv, -, hbs, hcs⟩ := HR2.out.o.s.at_ (by have := HL.out; omega)
                  simp only [Value.slice.injEq] at hv
                  obtain ⟨rfl, -, -⟩ := hv
                  obtain ⟨bz, oz, cz, hvz, -, hbz, hcz⟩ := HR2.out.o2.s.at_ (by rw [(rwo_len x Hok.out.len).2.2.2.2.2]; have := HL.out; omega)
                  simp only [Value.slice.injEq] at hvz
                  obtain ⟨rfl, -, -⟩ := hvz
                  have x5 := HR2.out.bx.cell 5 (v := .slice (some ⟨bz, oz, none⟩) nS t5) rfl
                  have c0 : wr.cell? ⟨bs, os + j * 4, none⟩ = some (.string yn) := hcs (j * 4 + 0) _ (by rw [sysC_get x.S j 0 _ hy (by decide)]; rfl)
                  have c1 : wr.cell? ⟨bs, os + j * 4 + 1, none⟩ = some (.int .i64 yi) := hcs (j * 4 + 1) _ (by rw [sysC_get x.S j 1 _ hy (by decide)]; rfl)
                  have c2 : wr.cell? ⟨bs, os + j * 4 + 2, none⟩ = some (.int .i64 yv) := hcs (j * 4 + 2) _ (by rw [sysC_get x.S j 2 _ hy (by decide)]; rfl)
                  have hz : (rwO x).S[j]? = some (rwS x ⟨yn, yi, yv, yg⟩) := by show (x.S.map (rwS x))[j]? = _; rw [List.getElem?_map, hy]; rfl
                  by_cases h2 : yi = 2
                  · subst h2
                    obtain ⟨ra0, ra1⟩ := rw_s Hok.out hy rfl
                    simp only at ra0 ra1
                    obtain ⟨a, rfl⟩ := Int.eq_ofNat_of_zero_le ra0
                    obtain ⟨B, hB⟩ : ∃ B, plN x a = B := ⟨_, rfl⟩
                    have hrw : rwS x ⟨yn, 2, (a : Int), yg⟩ = ⟨yn, 2, (B : Int), yg⟩ := by rw [← hB]; simp [rwS]
                    rw [hrw] at hz
                    have d0 : wr.cell? ⟨bz, oz + j * 4, none⟩ = some (.string yn) := hcz (j * 4 + 0) _ (by rw [sysC_get (rwO x).S j 0 _ hz (by decide)]; rfl)
                    have d2 : wr.cell? ⟨bz, oz + j * 4 + 2, none⟩ = some (.int .i64 (B : Int)) := hcz (j * 4 + 2) _ (by rw [sysC_get (rwO x).S j 2 _ hz (by decide)]; rfl)
                    have a0 : (0 : Int) ≤ (a : Int) := by omega
                    have an : a < N1 := by have := HL.out; have := HN1.out; omega
                    have a1 : (a : Int) < (N1 : Int) := by omega
                    have pa : wr.cell? ⟨bp, a, none⟩ = some (.int .i64 (B : Int)) := by rw [← hB]; exact Hpat.out _ HR2.out a an
                    clear hcs hbs hcz hbz hy hz hrw hB ra0 ra1 hlt
                    go_upto_region 32 with (fail)
                    go_quiet (fail)
                    go_wp2
                    go_roundw
                    case rel => exact ⟨j + 1, Hlt.out, by go_num, hid (HR2.out.kept0 (grown_drewN (grown_refl _ none) _))⟩
                    case measure => simp [intOf]; have := Hlt.out; omega
                  · have h2b : (yi == 2) = false := by simpa using h2
                    have hrw : rwS x ⟨yn, yi, yv, yg⟩ = ⟨yn, yi, yv, yg⟩ := by simp [rwS, h2]
                    rw [hrw] at hz
                    have d0 : wr.cell? ⟨bz, oz + j * 4, none⟩ = some (.string yn) := hcz (j * 4 + 0) _ (by rw [sysC_get (rwO x).S j 0 _ hz (by decide)]; rfl)
                    have d2 : wr.cell? ⟨bz, oz + j * 4 + 2, none⟩ = some (.int .i64 yv) := hcz (j * 4 + 2) _ (by rw [sysC_get (rwO x).S j 2 _ hz (by decide)]; rfl)
                    clear hcs hbs hcz hbz hy hz hrw h2 hlt
                    go_upto_region 32 with (fail)
                    go_quiet (fail)
                    go_wp2
                    go_roundw
                    case rel => exact ⟨j + 1, Hlt.out, by go_num, hid (HR2.out.kept0 (grown_drewN (grown_refl _ none) _))⟩
                    case measure => simp [intOf]; have := Hlt.out; omega
                · obtain rfl : j = nS := by omega
                  have jn : ¬ ((j : Int) < (j : Int)) := by omega
                  clear hlt
                  have HGr := hid HR2.out.g
                  go_wp2
                  go_ret
                  exact ⟨rfl, grown_below HGr.out⟩
    · refine (do_no (HO.out.kept0 HG3.out) (HE.out.kept0 HG3.out) HF.out hv).mono ?_
      rintro e w4 ⟨fv, rfl, hfl, hg⟩
      obtain ⟨t, pv, rfl, heq, hneq⟩ := flt_is_e hfl hv
      have HG4 := hid (grown_trans HG3.out hg)
      rw [zeroO]
      have al := World.grownBy_alloc w4 (.cells #[.slice none 0 0, .slice none 0 0, .slice none 0 0, .slice none 0 0, .slice none 0 0, .slice none 0 0] 27) none
      have HX := hid (RwAt.new w4 27 #[.slice none 0 0, .slice none 0 0, .slice none 0 0, .slice none 0 0, .slice none 0 0, .slice none 0 0])
      have HG5 := hid (grown_trans HG4.out al)
      have Hzo := zero_obj
      clear hfl hg hv al
      go_upto_region 7 with (fail)
      clear Hzo
      generalize w4.alloc (.cells #[.slice none 0 0, .slice none 0 0, .slice none 0 0, .slice none 0 0, .slice none 0 0, .slice none 0 0] 27) = w5 at HX HG5 ⊢
      have x1 := HX.out.cell 1 (v := .slice none 0 0) rfl
      go_wp2
      go_ret
      exact ⟨rfl, grown_below HG5.out⟩
end Go.Proofs.YteanoklaammpiaaDoor
