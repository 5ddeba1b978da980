/- What a relocation repairs (package obj): contracts. -/
import Derived.Test.YteanoklaammpiaaDoorZObj7
namespace Go.Proofs.YteanoklaammpiaaDoor
open Go.RowKit
section
variable {ops : Array Oper} {rest : List Oper} {o : Oper} {a : Act} {w : World}
/-- a whole row, loaded where a guard says yes -/
theorem wpList_load_rw_g {Q : Exit → Act → World → Prop} (hgd : Region.wanted o (yielded ops a.tmps) = true) (t : TypeId) (p : Operand) (ho : o.op = .load t p) {g : Nat} (hx : a.eval p = .pointer (some ⟨g, 0, none⟩)) {t' : TypeId} {cs : Array Value} (hg : RwAt w g t' cs) {d : TypeDesc}
    (hd : d.isRow = true) (hu : Tryd.prog.underlying t = some d) (hi : (Tryd.prog.info? t).map (·.size) = some cs.size)
    (h : wpList Tryd.prog ops Q rest (a.put o.dst (.agg cs)) w) : wpList Tryd.prog ops Q (o :: rest) a w := by
  simp only [wpList, hgd, if_true]
  exact Or.inl (wp_load_row t p ho g hx _ cs _ d hg.blk hu (by cases d <;> first | rfl | cases hd) hi h)
/-- .. into this slot -/
theorem wpList_load_rw_d {Q : Exit → Act → World → Prop} (hgd : Region.wanted o (yielded ops a.tmps) = true) (k : Nat) (_hk : o.dst = some k) (t : TypeId) (p : Operand) (ho : o.op = .load t p) {g : Nat} (hx : a.eval p = .pointer (some ⟨g, 0, none⟩)) {t' : TypeId} {cs : Array Value} (hg : RwAt w g t' cs) {d : TypeDesc}
    (hd : d.isRow = true) (hu : Tryd.prog.underlying t = some d) (hi : (Tryd.prog.info? t).map (·.size) = some cs.size)
    (h : wpList Tryd.prog ops Q rest (a.put o.dst (.agg cs)) w) : wpList Tryd.prog ops Q (o :: rest) a w := wpList_load_rw_g hgd t p ho hx hg hd hu hi h
end
section
variable {w : World} {V : OV} {x : PO} {A : Nat → Addr}
theorem branches_of (op : Int) (t : Bool) (ht : brB op = t) (w : World) : Calls Tryd.prog 80 #[.int .i64 op] w fun e w' => e = .returned (.bool t) ∧ w.grownBy w' none :=
  (branches_any op w).mono fun _ _ ⟨he, hw⟩ => ⟨by rw [he, ht], by rw [← hw]; exact grown_refl _ _⟩
theorem far_of (op : Int) (t : Bool) (ht : farB op = t) (w : World) : Calls Tryd.prog 82 #[.int .i64 op] w fun e w' => e = .returned (.bool t) ∧ w.grownBy w' none :=
  (far_any op w).mono fun _ _ ⟨he, hw⟩ => ⟨by rw [he, ht], by rw [← hw]; exact grown_refl _ _⟩
set_option maxHeartbeats 1000000 in
theorem repairs_any (h : OAt w V x) (he : ErrC w A) (hf : OFit x) (hl : x.M.length = x.C.length) (y : Rl) (k j : Nat) (hk : y.s = k) (hks : k < x.S.length) (hj : y.a = j) (hjs : j < x.C.length) (z : Bool) (hz : repB x y = z) :
    Calls Tryd.prog 79 #[V.agg, y.agg] w fun e w' => e = .returned (.bool z) ∧ w.grownBy w' none := by
  obtain ⟨d, c, m, r, q, sv⟩ := V
  obtain ⟨a, kd, sm, ad⟩ := y
  obtain rfl : sm = (k : Int) := hk
  obtain rfl : a = (j : Int) := hj
  obtain ⟨⟨n, i, v, g⟩, hsy⟩ : ∃ sy, x.S[k]? = some sy := ⟨_, List.getElem?_eq_getElem hks⟩
  have hsn : symN x k = ⟨n, i, v, g⟩ := by unfold symN; rw [List.getD_eq_getElem?_getD, hsy]; rfl
  obtain ⟨mm, hm⟩ : ∃ mm, x.M[j]? = some mm := ⟨_, List.getElem?_eq_getElem (by omega)⟩
  have hmn : mapN x j = mm := by unfold mapN; rw [List.getD_eq_getElem?_getD, hm]; rfl
  have hz' : (if kd = 2 then brB (opN x j) && !(i == 1) else if mm = 2 then true else decide (opB x j = 14) || decide (opB x j = 15) || (farB (opB x j) && !(i == 1))) = z := by
    rw [← hz]; unfold repB toB; simp only [Int.toNat_natCast, hsn, hmn, Bool.beq_eq_decide_eq]
  obtain ⟨b, o, cp, hss, _, hb, hc⟩ := h.s.at_ (by omega)
  obtain rfl : sv = _ := hss
  obtain ⟨b2, o2, cp2, hms, hb2, hc2⟩ := h.m.at_ (by omega)
  obtain rfl : m = _ := hms
  obtain ⟨T, hT⟩ : ∃ T, (i == 1) = T := ⟨_, rfl⟩
  rw [hT] at hz'
  have Hz := hid hz'
  have HX := hid ((Bx.new h he 87 #[d, c, .slice (some ⟨b2, o2, none⟩) x.M.length cp2, r, q, .slice (some ⟨b, o, none⟩) x.S.length cp]).alloc (.cells #[.int .i64 j, .int .i64 kd, .int .i64 k, .int .i64 ad] 81))
  have HY := hid (RwAt.new2 w (.cells #[d, c, .slice (some ⟨b2, o2, none⟩) x.M.length cp2, r, q, .slice (some ⟨b, o, none⟩) x.S.length cp] 87) 81 #[.int .i64 j, .int .i64 kd, .int .i64 k, .int .i64 ad])
  have h4 := (SyAt.cells hc hsy).kept0 HX.out.g
  have hq := (grown_cell HX.out.g hb2 (by simp)).trans (hc2 j mm hm)
  have k0 : (0 : Int) ≤ (k : Int) := by omega
  have kn : (k : Int) < (x.S.length : Int) := by omega
  have j0 : (0 : Int) ≤ (j : Int) := by omega
  have jn : (j : Int) < (x.M.length : Int) := by omega
  have jl : (x.M.length : Int) ≤ 9223372036854775807 := by have := hf.l.2.2.1; unfold maxLen at this; omega
  have HP := hid (And.intro hf (And.intro hl hjs))
  clear h he hf hl hz hz' hc hc2 hsy hsn hm hmn hks hjs
  go_enter Tryd.func79, Tryd.ntmps79
  go_upto_region 1 with (fail)
  generalize (w.alloc (.cells #[d, c, .slice (some ⟨b2, o2, none⟩) x.M.length cp2, r, q, .slice (some ⟨b, o, none⟩) x.S.length cp] 87)).alloc (.cells #[.int .i64 j, .int .i64 kd, .int .i64 k, .int .i64 ad] 81) = w1 at HX HY h4 hq ⊢
  obtain ⟨B2, hB2⟩ : ∃ B2, w.heap.size + 1 = B2 := ⟨_, rfl⟩
  rw [hB2] at HY ⊢
  have f5 := HX.out.box.cell 5 rfl
  have f2 := HX.out.box.cell 2 rfl
  have g0 := HY.out.cell 0 rfl
  have g1 := HY.out.cell 1 rfl
  have g2 := HY.out.cell 2 rfl
  have e1 := h4.c1
  clear h4
  by_cases hk2 : kd = 2
  · have z2 : (kd == 2) = true := by simpa using hk2
    obtain ⟨op, Hop⟩ : ∃ op, Hid (opN x j = op) := ⟨_, hid rfl⟩
    have hz' := Hz.out
    rw [if_pos hk2, Hop.out] at hz'
    have HZ := hid hz'
    clear hz' Hz hk2
    go_wp2_with (first
      | (refine wpList_load_rw rfl 87 _ rfl rfl HX.out.box rfl Tryd.underlying87 info_object' ?_)
      | fail)
    refine (op_any HX.out.o HP.out.1 HP.out.2.1 j HP.out.2.2 op Hop.out).mono ?_
    rintro e w2 ⟨rfl, hg⟩
    have HX2 := hid (HX.out.kept0 hg)
    clear hg HX HY f5 f2 g0 g1 g2 e1 hq
    go_wp2_with fail
    cases hbr : brB op
    · have Hbr := hid hbr
      clear hbr
      refine (branches_of op false Hbr.out _).mono ?_
      rintro e w3 ⟨rfl, hg⟩
      have HX3 := hid (HX2.out.kept0 hg)
      clear hg HX2
      go_wp2
      go_ret
      exact ⟨ret_b (by rw [← HZ.out, Hbr.out]; rfl), HX3.out.g⟩
    · have Hbr := hid hbr
      clear hbr
      refine (branches_of op true Hbr.out _).mono ?_
      rintro e w3 ⟨rfl, hg⟩
      have HX3 := hid (HX2.out.kept0 hg)
      clear hg HX2
      go_wp2
      go_ret
      exact ⟨ret_b (by rw [← HZ.out, Hbr.out]; simp), HX3.out.g⟩
  · have z2 : (kd == 2) = false := by simpa using hk2
    have hz' := Hz.out
    rw [if_neg hk2] at hz'
    by_cases hm2 : mm = 2
    · have z3 : (mm == 2) = true := by simpa using hm2
      rw [if_pos hm2] at hz'
      have HZ := hid hz'
      clear hz' Hz hk2 hm2
      go_wp2
      go_ret
      exact ⟨ret_b HZ.out, HX.out.g⟩
    · have z3 : (mm == 2) = false := by simpa using hm2
      rw [if_neg hm2] at hz'
      obtain ⟨op, Hop⟩ : ∃ op, Hid (opB x j = op) := ⟨_, hid rfl⟩
      rw [Hop.out] at hz'
      have HZ := hid hz'
      clear hz' Hz hk2 hm2
      go_wp2_with (first
        | (refine wpList_load_rw rfl 87 _ rfl rfl HX.out.box rfl Tryd.underlying87 info_object' ?_)
        | fail)
      refine (opb_any HX.out.o HP.out.1 HP.out.2.1 j (Nat.le_of_lt HP.out.2.2) _ rfl op Hop.out).mono ?_
      rintro e w2 ⟨rfl, hg⟩
      have HX2 := hid (HX.out.kept0 hg)
      clear hg HX HY f5 f2 g0 g1 g2 e1 hq
      by_cases h14 : op = 14
      · have q14 : (op == 14) = true := by simpa using h14
        have H14 := hid h14
        clear h14
        go_wp2
        go_ret
        exact ⟨ret_b (by rw [← HZ.out]; simp [H14.out]), HX2.out.g⟩
      · have q14 : (op == 14) = false := by simpa using h14
        have H14 := hid h14
        clear h14
        by_cases h15 : op = 15
        · have q15 : (op == 15) = true := by simpa using h15
          have H15 := hid h15
          clear h15
          go_wp2
          go_ret
          exact ⟨ret_b (by rw [← HZ.out]; simp [H15.out]), HX2.out.g⟩
        · have q15 : (op == 15) = false := by simpa using h15
          have H15 := hid h15
          clear h15
          go_wp2_with fail
          cases hfr : farB op
          · have Hfr := hid hfr
            clear hfr
            refine (far_of op false Hfr.out _).mono ?_
            rintro e w3 ⟨rfl, hg⟩
            have HX3 := hid (HX2.out.kept0 hg)
            clear hg HX2
            go_wp2
            go_ret
            exact ⟨ret_b (by rw [← HZ.out, Hfr.out]; simp [H14.out, H15.out]), HX3.out.g⟩
          · have Hfr := hid hfr
            clear hfr
            refine (far_of op true Hfr.out _).mono ?_
            rintro e w3 ⟨rfl, hg⟩
            have HX3 := hid (HX2.out.kept0 hg)
            clear hg HX2
            go_wp2
            go_ret
            exact ⟨ret_b (by rw [← HZ.out, Hfr.out]; simp [H14.out, H15.out]), HX3.out.g⟩
end
end Go.Proofs.YteanoklaammpiaaDoor
