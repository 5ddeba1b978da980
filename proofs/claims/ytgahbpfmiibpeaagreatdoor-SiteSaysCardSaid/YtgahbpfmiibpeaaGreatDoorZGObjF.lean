/- The numbers of a relocation; what it adds; what it repairs (package obj): contracts. -/
import Derived.Test.YtgahbpfmiibpeaaGreatDoorZGObjB
namespace Go.Proofs.YtgahbpfmiibpeaaGreatDoor
open Go.RowKit
section
variable {w : World} {V : OV} {x : PO} {A : Nat → Addr}
set_option maxHeartbeats 1000000 in
theorem range_first (h : OAt w V x) {lv : Value} {l : List Rl} (hr : RlAt w lv l) (y : Rl) (hy : l[0]? = some y) (n : Int) (z : Bool) (hz : inB x l 0 n = z) :
    Calls Tryz.prog 106 #[V.agg, lv, .int .i64 0, .int .i64 n] w fun e w' => e = .returned (.bool z) ∧ w.grownBy w' none := by
  obtain ⟨d, c, m, r, q, sv⟩ := V
  obtain ⟨ps, cs, hs⟩ := h.s.len
  obtain rfl : sv = _ := hs
  obtain ⟨a, kd, sm, ad⟩ := y
  have hl := (List.getElem?_eq_some_iff.1 hy).1
  have hyn : rlN l 0 = ⟨a, kd, sm, ad⟩ := by unfold rlN; rw [List.getD_eq_getElem?_getD, hy]; rfl
  obtain ⟨b, o, cp, hv, _, hb, hc⟩ := hr.at_ hl
  obtain rfl : lv = _ := hv
  have Hz := hid hz
  have Hy := hid hyn
  have HG := hid (World.grownBy_alloc w (.cells #[d, c, m, r, q, .slice ps x.S.length cs] 136) none)
  have h4 := (RlAt.cells hc hy).kept0 HG.out
  have HB := hid (RwAt.new w 136 #[d, c, m, r, q, .slice ps x.S.length cs])
  have kl : (0 : Int) < (l.length : Int) := by omega
  rw [Nat.zero_mul, Nat.add_zero] at h4
  clear h hr hc hy hyn hz hl
  go_enter Tryz.func106, Tryz.ntmps106
  go_upto_region 1 with (fail)
  generalize w.alloc (.cells #[d, c, m, r, q, .slice ps x.S.length cs] 136) = w1 at HG HB h4 ⊢
  have f5 := HB.out.cell 5 rfl
  have e0 := h4.c0
  have e1 := h4.c1
  have e2 := h4.c2
  have e3 := h4.c3
  clear h4
  go_upto_region 2 with (fail)
  have HG2 := hid (grown_alloc HG.out (.cells #[.int .i64 a, .int .i64 kd, .int .i64 sm, .int .i64 ad] 90))
  have HB2 := hid (HB.out.alloc (.cells #[.int .i64 a, .int .i64 kd, .int .i64 sm, .int .i64 ad] 90))
  have HC := hid (RwAt.new w1 90 #[.int .i64 a, .int .i64 kd, .int .i64 sm, .int .i64 ad])
  clear f5 e0 e1 e2 e3 HG HB
  generalize w1.alloc (.cells #[.int .i64 a, .int .i64 kd, .int .i64 sm, .int .i64 ad] 90) = w2 at HG2 HB2 HC ⊢
  go_quiet (fail)
  have f5 := HB2.out.cell 5 rfl
  have e0 := HC.out.cell 0 rfl
  have e2 := HC.out.cell 2 rfl
  have e3 := HC.out.cell 3 rfl
  go_wp2
  all_goals
    go_ret
    refine ⟨ret_b ?_, grown_drewN HG2.out _⟩
    rw [← Hz.out, Bool.eq_iff_iff]
    unfold inB
    rw [Hy.out]
    simp
    try omega
set_option maxHeartbeats 1000000 in
theorem range_next (h : OAt w V x) {lv : Value} {l : List Rl} (hr : RlAt w lv l) (j : Nat) (y u : Rl) (hy : l[j + 1]? = some y) (hu : l[j]? = some u) (hl : l.length ≤ maxLen) (n : Int) (z : Bool) (hz : inB x l (j + 1) n = z) :
    Calls Tryz.prog 106 #[V.agg, lv, .int .i64 ((j + 1 : Nat) : Int), .int .i64 n] w fun e w' => e = .returned (.bool z) ∧ w.grownBy w' none := by
  obtain ⟨d, c, m, r, q, sv⟩ := V
  obtain ⟨ps, cs, hs⟩ := h.s.len
  obtain rfl : sv = _ := hs
  obtain ⟨a, kd, sm, ad⟩ := y
  have hlt := (List.getElem?_eq_some_iff.1 hy).1
  have hyn : rlN l (j + 1) = ⟨a, kd, sm, ad⟩ := by unfold rlN; rw [List.getD_eq_getElem?_getD, hy]; rfl
  have hun : rlN l (j + 1 - 1) = u := by unfold rlN; rw [Nat.add_sub_cancel, List.getD_eq_getElem?_getD, hu]; rfl
  obtain ⟨b, o, cp, hv, _, hb, hc⟩ := hr.at_ (by omega)
  obtain rfl : lv = _ := hv
  obtain ⟨K, hK⟩ : ∃ K, K = j + 1 := ⟨_, rfl⟩
  have Hz := hid hz
  have Hy := hid hyn
  have Hu := hid hun
  have HG := hid (World.grownBy_alloc w (.cells #[d, c, m, r, q, .slice ps x.S.length cs] 136) none)
  have h4 := (RlAt.cells hc hy).kept0 HG.out
  have h5 := (RlAt.cells hc hu).kept0 HG.out
  have HB := hid (RwAt.new w 136 #[d, c, m, r, q, .slice ps x.S.length cs])
  have k0 : (0 : Int) ≤ (K : Int) := by omega
  have kn : (K : Int) < (l.length : Int) := by omega
  have km : (K : Int) - 1 = (j : Int) := by omega
  have j0 : (0 : Int) ≤ (j : Int) := by omega
  have jn : (j : Int) < (l.length : Int) := by omega
  have kz : ((K : Int) == 0) = false := by simp; omega
  have kl : (l.length : Int) ≤ 9223372036854775807 := by unfold maxLen at hl; omega
  rw [← hK] at h4 ⊢
  have HK := hid hK
  clear h hr hc hy hyn hz hl hu hun hK hlt
  go_enter Tryz.func106, Tryz.ntmps106
  go_upto_region 1 with (fail)
  generalize w.alloc (.cells #[d, c, m, r, q, .slice ps x.S.length cs] 136) = w1 at HG HB h4 h5 ⊢
  have e0 := h4.c0
  have e1 := h4.c1
  have e2 := h4.c2
  have e3 := h4.c3
  go_upto_region 2 with (fail)
  have HG2 := hid (grown_alloc HG.out (.cells #[.int .i64 a, .int .i64 kd, .int .i64 sm, .int .i64 ad] 90))
  have HB2 := hid (HB.out.alloc (.cells #[.int .i64 a, .int .i64 kd, .int .i64 sm, .int .i64 ad] 90))
  have HC := hid (RwAt.new w1 90 #[.int .i64 a, .int .i64 kd, .int .i64 sm, .int .i64 ad])
  have H5 := hid (h5.kept0 (World.grownBy_alloc w1 (.cells #[.int .i64 a, .int .i64 kd, .int .i64 sm, .int .i64 ad] 90) none))
  clear e0 e1 e2 e3 HG HB h4 h5
  generalize w1.alloc (.cells #[.int .i64 a, .int .i64 kd, .int .i64 sm, .int .i64 ad] 90) = w2 at HG2 HB2 HC H5 ⊢
  have e0 := HC.out.cell 0 rfl
  have u0 := H5.out.c0
  have hw := wrap_i64_id (n := (K : Int) - 1) (by omega) (by omega)
  rw [km] at hw
  go_quiet (fail)
  clear e0 u0
  have f5 := HB2.out.cell 5 rfl
  have e0 := HC.out.cell 0 rfl
  have e2 := HC.out.cell 2 rfl
  have e3 := HC.out.cell 3 rfl
  go_wp2
  all_goals
    go_ret
    refine ⟨ret_b ?_, grown_drewN HG2.out _⟩
    rw [← Hz.out, Bool.eq_iff_iff]
    unfold inB
    rw [Hy.out, Hu.out]
    try simp only [decide_eq_true_eq, Bool.false_eq_true, false_iff] at *
    omega
theorem range_any (h : OAt w V x) {lv : Value} {l : List Rl} (hr : RlAt w lv l) (k : Nat) (hk : k < l.length) (hl : l.length ≤ maxLen) (n : Int) (z : Bool) (hz : inB x l k n = z) :
    Calls Tryz.prog 106 #[V.agg, lv, .int .i64 (k : Int), .int .i64 n] w fun e w' => e = .returned (.bool z) ∧ w.grownBy w' none := by
  match k, hk, hz with
  | 0, hk, hz => exact range_first h hr _ (List.getElem?_eq_getElem hk) n z hz
  | j + 1, hk, hz => exact range_next h hr j _ _ (List.getElem?_eq_getElem hk) (List.getElem?_eq_getElem (by omega)) hl n z hz
/-- what it adds where nothing may be added -/
theorem adds_any (h : OAt w V x) (y : Rl) (k : Nat) (hk : y.s = k) (hks : k < x.S.length) (z : Bool) (hz : outB x y = z) :
    Calls Tryz.prog 107 #[V.agg, y.agg] w fun e w' => e = .returned (.bool z) ∧ w.grownBy w' none := by
  obtain ⟨d, c, m, r, q, sv⟩ := V
  obtain ⟨a, kd, sm, ad⟩ := y
  obtain rfl : sm = (k : Int) := hk
  obtain ⟨⟨n, i, v, g⟩, hsy⟩ : ∃ sy, x.S[k]? = some sy := ⟨_, List.getElem?_eq_getElem hks⟩
  have hsn : symN x k = ⟨n, i, v, g⟩ := by unfold symN; rw [List.getD_eq_getElem?_getD, hsy]; rfl
  have hz' : (decide (ad ≠ 0) && !decide (i = 1)) = z := by rw [← hz]; unfold outB toB; simp only [Int.toNat_natCast, hsn]
  obtain ⟨b, o, cp, hss, _, hb, hc⟩ := h.s.at_ (by omega)
  obtain rfl : sv = _ := hss
  have Hz := hid hz'
  have HG := hid (grown_alloc (World.grownBy_alloc w (.cells #[d, c, m, r, q, .slice (some ⟨b, o, none⟩) x.S.length cp] 136) none) (.cells #[.int .i64 a, .int .i64 kd, .int .i64 k, .int .i64 ad] 90))
  have HX := hid ((RwAt.new w 136 #[d, c, m, r, q, .slice (some ⟨b, o, none⟩) x.S.length cp]).alloc (.cells #[.int .i64 a, .int .i64 kd, .int .i64 k, .int .i64 ad] 90))
  have HY := hid (RwAt.new2 w (.cells #[d, c, m, r, q, .slice (some ⟨b, o, none⟩) x.S.length cp] 136) 90 #[.int .i64 a, .int .i64 kd, .int .i64 k, .int .i64 ad])
  have h4 := (SyAt.cells hc hsy).kept0 HG.out
  have k0 : (0 : Int) ≤ (k : Int) := by omega
  have kn : (k : Int) < (x.S.length : Int) := by omega
  clear h hz hz' hc hsy hsn
  go_enter Tryz.func107, Tryz.ntmps107
  go_upto_region 1 with (fail)
  generalize (w.alloc (.cells #[d, c, m, r, q, .slice (some ⟨b, o, none⟩) x.S.length cp] 136)).alloc (.cells #[.int .i64 a, .int .i64 kd, .int .i64 k, .int .i64 ad] 90) = w1 at HG HX HY h4 ⊢
  have f5 := HX.out.cell 5 rfl
  have g2 := HY.out.cell 2 rfl
  have g3 := HY.out.cell 3 rfl
  have e1 := h4.c1
  by_cases h0 : ad = 0
  · have z0 : (ad != 0) = false := by simpa using h0
    have H0 := hid h0
    clear h0
    go_wp2
    go_ret
    exact ⟨ret_b (by rw [← Hz.out]; simp [H0.out]), HG.out⟩
  · have z0 : (ad != 0) = true := by simpa using h0
    have H0 := hid h0
    clear h0
    go_wp2
    go_ret
    exact ⟨ret_b (by rw [← Hz.out]; simp [H0.out, bne, Bool.beq_eq_decide_eq]), HG.out⟩
end
end Go.Proofs.YtgahbpfmiibpeaaGreatDoor
/- What a relocation repairs (package obj): contracts. -/
namespace Go.Proofs.YtgahbpfmiibpeaaGreatDoor
open Go.RowKit
section
variable {ops : Array Oper} {rest : List Oper} {o : Oper} {a : Act} {w : World}
/-- a whole row, loaded where a guard says yes -/
theorem wpList_load_rw_g {Q : Exit → Act → World → Prop} (hgd : Region.wanted o (yielded ops a.tmps) = true) (t : TypeId) (p : Operand) (ho : o.op = .load t p) {g : Nat} (hx : a.eval p = .pointer (some ⟨g, 0, none⟩)) {t' : TypeId} {cs : Array Value} (hg : RwAt w g t' cs) {d : TypeDesc}
    (hd : d.isRow = true) (hu : Tryz.prog.underlying t = some d) (hi : (Tryz.prog.info? t).map (·.size) = some cs.size)
    (h : wpList Tryz.prog ops Q rest (a.put o.dst (.agg cs)) w) : wpList Tryz.prog ops Q (o :: rest) a w := by
  simp only [wpList, hgd, if_true]
  exact Or.inl (wp_load_row t p ho g hx _ cs _ d hg.blk hu (by cases d <;> first | rfl | cases hd) hi h)
/-- .. into this slot -/
theorem wpList_load_rw_d {Q : Exit → Act → World → Prop} (hgd : Region.wanted o (yielded ops a.tmps) = true) (k : Nat) (_hk : o.dst = some k) (t : TypeId) (p : Operand) (ho : o.op = .load t p) {g : Nat} (hx : a.eval p = .pointer (some ⟨g, 0, none⟩)) {t' : TypeId} {cs : Array Value} (hg : RwAt w g t' cs) {d : TypeDesc}
    (hd : d.isRow = true) (hu : Tryz.prog.underlying t = some d) (hi : (Tryz.prog.info? t).map (·.size) = some cs.size)
    (h : wpList Tryz.prog ops Q rest (a.put o.dst (.agg cs)) w) : wpList Tryz.prog ops Q (o :: rest) a w := wpList_load_rw_g hgd t p ho hx hg hd hu hi h
end
section
variable {w : World} {V : OV} {x : PO} {A : Nat → Addr}
theorem branches_of (op : Int) (t : Bool) (ht : brB op = t) (w : World) : Calls Tryz.prog 109 #[.int .i64 op] w fun e w' => e = .returned (.bool t) ∧ w.grownBy w' none :=
  (branches_any op w).mono fun _ _ ⟨he, hw⟩ => ⟨by rw [he, ht], by rw [← hw]; exact grown_refl _ _⟩
theorem far_of (op : Int) (t : Bool) (ht : farB op = t) (w : World) : Calls Tryz.prog 111 #[.int .i64 op] w fun e w' => e = .returned (.bool t) ∧ w.grownBy w' none :=
  (far_any op w).mono fun _ _ ⟨he, hw⟩ => ⟨by rw [he, ht], by rw [← hw]; exact grown_refl _ _⟩
set_option maxHeartbeats 1000000 in
theorem repairs_any (h : OAt w V x) (he : ErrC w A) (hf : OFit x) (hl : x.M.length = x.C.length) (y : Rl) (k j : Nat) (hk : y.s = k) (hks : k < x.S.length) (hj : y.a = j) (hjs : j < x.C.length) (z : Bool) (hz : repB x y = z) :
    Calls Tryz.prog 108 #[V.agg, y.agg] w fun e w' => e = .returned (.bool z) ∧ w.grownBy w' none := by
  obtain ⟨d, c, m, r, q, sv⟩ := V
  obtain ⟨a, kd, sm, ad⟩ := y
  obtain rfl : sm = (k : Int) := hk
  obtain rfl : a = (j : Int) := hj
  obtain ⟨⟨n, i, v, g⟩, hsy⟩ : ∃ sy, x.S[k]? = some sy := ⟨_, List.getElem?_eq_getElem hks⟩
  have hsn : symN x k = ⟨n, i, v, g⟩ := by unfold symN; rw [List.getD_eq_getElem?_getD, hsy]; rfl
  obtain ⟨mm, hm⟩ : ∃ mm, x.M[j]? = some mm := ⟨_, List.getElem?_eq_getElem (by omega)⟩
  have hmn : mapN x j = mm := by unfold mapN; rw [List.getD_eq_getElem?_getD, hm]; rfl
  have hz' : (if kd = 2 then brB (opN x j) && !(i == 1) else if mm = 2 then true else decide (opB x j = 14) || decide (opB x j = 15) || (farB (opB x j) && !(i == 1))) = z := by
    rw [← hz]; unfold repB toB; simp only [Int.toNat_natCast, hsn, hmn, Bool.beq_eq_decide_eq]
  obtain ⟨b, o, cp, hss, _, hb, hc⟩ := h.s.at_ (by omega)
  obtain rfl : sv = _ := hss
  obtain ⟨b2, o2, cp2, hms, hb2, hc2⟩ := h.m.at_ (by omega)
  obtain rfl : m = _ := hms
  obtain ⟨T, hT⟩ : ∃ T, (i == 1) = T := ⟨_, rfl⟩
  rw [hT] at hz'
  have Hz := hid hz'
  have HX := hid ((Bx.new h he 136 #[d, c, .slice (some ⟨b2, o2, none⟩) x.M.length cp2, r, q, .slice (some ⟨b, o, none⟩) x.S.length cp]).alloc (.cells #[.int .i64 j, .int .i64 kd, .int .i64 k, .int .i64 ad] 90))
  have HY := hid (RwAt.new2 w (.cells #[d, c, .slice (some ⟨b2, o2, none⟩) x.M.length cp2, r, q, .slice (some ⟨b, o, none⟩) x.S.length cp] 136) 90 #[.int .i64 j, .int .i64 kd, .int .i64 k, .int .i64 ad])
  have h4 := (SyAt.cells hc hsy).kept0 HX.out.g
  have hq := (grown_cell HX.out.g hb2 (by simp)).trans (hc2 j mm hm)
  have k0 : (0 : Int) ≤ (k : Int) := by omega
  have kn : (k : Int) < (x.S.length : Int) := by omega
  have j0 : (0 : Int) ≤ (j : Int) := by omega
  have jn : (j : Int) < (x.M.length : Int) := by omega
  have jl : (x.M.length : Int) ≤ 9223372036854775807 := by have := hf.l.2.2.1; unfold maxLen at this; omega
  have HP := hid (And.intro hf (And.intro hl hjs))
  clear h he hf hl hz hz' hc hc2 hsy hsn hm hmn hks hjs
  go_enter Tryz.func108, Tryz.ntmps108
  go_upto_region 1 with (fail)
  generalize (w.alloc (.cells #[d, c, .slice (some ⟨b2, o2, none⟩) x.M.length cp2, r, q, .slice (some ⟨b, o, none⟩) x.S.length cp] 136)).alloc (.cells #[.int .i64 j, .int .i64 kd, .int .i64 k, .int .i64 ad] 90) = w1 at HX HY h4 hq ⊢
  obtain ⟨B2, hB2⟩ : ∃ B2, w.heap.size + 1 = B2 := ⟨_, rfl⟩
  rw [hB2] at HY ⊢
  have f5 := HX.out.box.cell 5 rfl
  have f2 := HX.out.box.cell 2 rfl
  have g0 := HY.out.cell 0 rfl
  have g1 := HY.out.cell 1 rfl
  have g2 := HY.out.cell 2 rfl
  have e1 := h4.c1
  clear h4
  by_cases hk2 : kd = 2
  · have z2 : (kd == 2) = true := by simpa using hk2
    obtain ⟨op, Hop⟩ : ∃ op, Hid (opN x j = op) := ⟨_, hid rfl⟩
    have hz' := Hz.out
    rw [if_pos hk2, Hop.out] at hz'
    have HZ := hid hz'
    clear hz' Hz hk2
    go_wp2_with (first
      | (refine wpList_load_rw rfl 136 _ rfl rfl HX.out.box rfl Tryz.underlying136 info_object' ?_)
      | fail)
    refine (op_any HX.out.o HP.out.1 HP.out.2.1 j HP.out.2.2 op Hop.out).mono ?_
    rintro e w2 ⟨rfl, hg⟩
    have HX2 := hid (HX.out.kept0 hg)
    clear hg HX HY f5 f2 g0 g1 g2 e1 hq
    go_wp2_with fail
    cases hbr : brB op
    · have Hbr := hid hbr
      clear hbr
      refine (branches_of op false Hbr.out _).mono ?_
      rintro e w3 ⟨rfl, hg⟩
      have HX3 := hid (HX2.out.kept0 hg)
      clear hg HX2
      go_wp2
      go_ret
      exact ⟨ret_b (by rw [← HZ.out, Hbr.out]; rfl), HX3.out.g⟩
    · have Hbr := hid hbr
      clear hbr
      refine (branches_of op true Hbr.out _).mono ?_
      rintro e w3 ⟨rfl, hg⟩
      have HX3 := hid (HX2.out.kept0 hg)
      clear hg HX2
      go_wp2
      go_ret
      exact ⟨ret_b (by rw [← HZ.out, Hbr.out]; simp), HX3.out.g⟩
  · have z2 : (kd == 2) = false := by simpa using hk2
    have hz' := Hz.out
    rw [if_neg hk2] at hz'
    by_cases hm2 : mm = 2
    · have z3 : (mm == 2) = true := by simpa using hm2
      rw [if_pos hm2] at hz'
      have HZ := hid hz'
      clear hz' Hz hk2 hm2
      go_wp2
      go_ret
      exact ⟨ret_b HZ.out, HX.out.g⟩
    · have z3 : (mm == 2) = false := by simpa using hm2
      rw [if_neg hm2] at hz'
      obtain ⟨op, Hop⟩ : ∃ op, Hid (opB x j = op) := ⟨_, hid rfl⟩
      rw [Hop.out] at hz'
      have HZ := hid hz'
      clear hz' Hz hk2 hm2
      go_wp2_with (first
        | (refine wpList_load_rw rfl 136 _ rfl rfl HX.out.box rfl Tryz.underlying136 info_object' ?_)
        | fail)
      refine (opb_any HX.out.o HP.out.1 HP.out.2.1 j (Nat.le_of_lt HP.out.2.2) _ rfl op Hop.out).mono ?_
      rintro e w2 ⟨rfl, hg⟩
      have HX2 := hid (HX.out.kept0 hg)
      clear hg HX HY f5 f2 g0 g1 g2 e1 hq
      by_cases h14 : op = 14
      · have q14 : (op == 14) = true := by simpa using h14
        have H14 := hid h14
        clear h14
        go_wp2
        go_ret
        exact ⟨ret_b (by rw [← HZ.out]; simp [H14.out]), HX2.out.g⟩
      · have q14 : (op == 14) = false := by simpa using h14
        have H14 := hid h14
        clear h14
        by_cases h15 : op = 15
        · have q15 : (op == 15) = true := by simpa using h15
          have H15 := hid h15
          clear h15
          go_wp2
          go_ret
          exact ⟨ret_b (by rw [← HZ.out]; simp [H15.out]), HX2.out.g⟩
        · have q15 : (op == 15) = false := by simpa using h15
          have H15 := hid h15
          clear h15
          go_wp2_with fail
          cases hfr : farB op
          · have Hfr := hid hfr
            clear hfr
            refine (far_of op false Hfr.out _).mono ?_
            rintro e w3 ⟨rfl, hg⟩
            have HX3 := hid (HX2.out.kept0 hg)
            clear hg HX2
            go_wp2
            go_ret
            exact ⟨ret_b (by rw [← HZ.out, Hfr.out]; simp [H14.out, H15.out]), HX3.out.g⟩
          · have Hfr := hid hfr
            clear hfr
            refine (far_of op true Hfr.out _).mono ?_
            rintro e w3 ⟨rfl, hg⟩
            have HX3 := hid (HX2.out.kept0 hg)
            clear hg HX2
            go_wp2
            go_ret
            exact ⟨ret_b (by rw [← HZ.out, Hfr.out]; simp [H14.out, H15.out]), HX3.out.g⟩
end
end Go.Proofs.YtgahbpfmiibpeaaGreatDoor
/- What is wrong with a relocation (package obj): contracts. (Made by gobj9.py.) -/
namespace Go.Proofs.YtgahbpfmiibpeaaGreatDoor
open Go.RowKit
theorem in_parts {x : PO} {l : List Rl} {k : Nat} {n : Int} (h : inB x l k n = true) {y : Rl} (hy : l[k]? = some y) : ∃ i j : Nat, y.s = i ∧ i < x.S.length ∧ y.a = j ∧ (j : Int) < n := by
  have hyn : rlN l k = y := by unfold rlN; rw [List.getD_eq_getElem?_getD, hy]; rfl
  unfold inB at h
  rw [hyn] at h
  have h := of_decide_eq_true h
  exact ⟨y.s.toNat, y.a.toNat, by omega, by omega, by omega, by omega⟩
section
variable {w : World} {V : OV} {x : PO} {A : Nat → Addr}
set_option maxHeartbeats 2000000 in
theorem dataReloc_any (h : OAt w V x) (he : ErrC w A) (hf : OFit x) (hl : x.M.length = x.C.length) (k : Nat) (hk : k < x.R.length) (rr : Option Nat) (hr : dataF x k = rr) :
    Calls Tryz.prog 76 #[V.agg, .int .i64 k] w fun e w' => e = .returned (evV A rr) ∧ w.grownBy w' none := by
  obtain ⟨d, c, m, r, q, sv⟩ := V
  obtain ⟨⟨a, kd, sm, ad⟩, hy⟩ : ∃ y, x.R[k]? = some y := ⟨_, List.getElem?_eq_getElem hk⟩
  have hyn : rlN x.R k = ⟨a, kd, sm, ad⟩ := by unfold rlN; rw [List.getD_eq_getElem?_getD, hy]; rfl
  obtain ⟨pw, cw, hw⟩ := h.d.len'
  obtain rfl : d = _ := hw
  obtain ⟨b, o, cp, hv, _, hb, hc⟩ := h.r.at_ (by omega)
  obtain rfl : r = _ := hv
  have HX := hid (Bx.new h he 136 #[.slice pw x.D.length cw, c, m, .slice (some ⟨b, o, none⟩) x.R.length cp, q, sv])
  have h4 := (RlAt.cells hc hy).kept0 HX.out.g
  have k0 : (0 : Int) ≤ (k : Int) := by omega
  have kn : (k : Int) < (x.R.length : Int) := by omega
  have HP := hid (And.intro hf (And.intro hl (And.intro hk (And.intro hf.l.2.2.2.1 hy))))
  obtain ⟨T, hT⟩ : ∃ T, inB x x.R k x.D.length = T := ⟨_, rfl⟩
  have HT := hid hT
  unfold dataF at hr
  rw [hyn, hT] at hr
  have HR := hid hr
  clear h he hf hl hc hr hT hyn hk hy
  go_enter Tryz.func76, Tryz.ntmps76
  go_upto_region 1 with (fail)
  generalize w.alloc (.cells #[.slice pw x.D.length cw, c, m, .slice (some ⟨b, o, none⟩) x.R.length cp, q, sv] 136) = w1 at HX h4 ⊢
  have f3 := HX.out.box.cell 3 rfl
  have e0 := h4.c0
  have e1 := h4.c1
  have e2 := h4.c2
  have e3 := h4.c3
  clear h4
  go_upto_region 2 with (fail)
  have HX2 := hid (HX.out.alloc (.cells #[.int .i64 a, .int .i64 kd, .int .i64 sm, .int .i64 ad] 90))
  have HY := hid (RwAt.new w1 90 #[.int .i64 a, .int .i64 kd, .int .i64 sm, .int .i64 ad])
  obtain ⟨B, hB⟩ : ∃ B, w1.heap.size = B := ⟨_, rfl⟩
  rw [hB] at HY ⊢
  clear f3 e0 e1 e2 e3 HX
  generalize w1.alloc (.cells #[.int .i64 a, .int .i64 kd, .int .i64 sm, .int .i64 ad] 90) = w2 at HX2 HY ⊢
  have f3 := HX2.out.box.cell 3 rfl
  have f0 := HX2.out.box.cell 0 rfl
  go_wp2_with (first
    | (refine wpList_load_rw rfl 136 _ rfl rfl HX2.out.box rfl Tryz.underlying136 info_object' ?_)
    | fail)
  refine (range_any HX2.out.o HX2.out.o.r k HP.out.2.2.1 HP.out.2.2.2.1 _ T HT.out).mono ?_
  rintro e w3 ⟨rfl, hg⟩
  have HX3 := hid (HX2.out.kept0 hg)
  have HY3 := hid (HY.out.kept0 hg)
  clear hg HX2 HY f3 f0
  have g1 := HY3.out.cell 1 rfl
  cases T
  · have e2 := HX3.out.e.c2
    unfold errV at e2
    go_wp2
    go_ret
    exact ⟨by rw [← HR.out]; rfl, HX3.out.g⟩
  · by_cases hk1 : kd = 1
    · have z1 : (kd != 1) = false := by simpa using hk1
      have hr' := HR.out
      have HZ := hid hr'
      clear hr'
      obtain ⟨i, j, hi, his, hj, hjs⟩ := in_parts HT.out HP.out.2.2.2.2
      have HI := hid (And.intro hi (And.intro his (And.intro hj hjs)))
      have HN := hid (show ¬(true = false ∨ kd ≠ 1) by simp; omega)
      clear hi his hj hjs hk1
      go_wp2_with (first
        | (refine wpList_load_rw rfl 136 _ rfl rfl HX3.out.box rfl Tryz.underlying136 info_object' ?_)
        | (refine wpList_load_rw rfl 90 _ rfl rfl HY3.out rfl Tryz.underlying90 info_rel ?_)
        | fail)
      obtain ⟨U, HU⟩ : ∃ U, Hid (outB x ⟨a, kd, sm, ad⟩ = U) := ⟨_, hid rfl⟩
      refine (adds_any HX3.out.o ⟨a, kd, sm, ad⟩ i HI.out.1 HI.out.2.1 U HU.out).mono ?_
      rintro e w9 ⟨rfl, hg⟩
      have HX9 := hid (HX3.out.kept0 hg)
      clear hg
      cases U
      · go_wp2
        go_ret
        exact ⟨by rw [← HZ.out, if_neg HN.out, HU.out]; simp <;> rfl, HX9.out.g⟩
      · have e1 := HX9.out.e.c1
        unfold errV at e1
        go_wp2
        go_ret
        exact ⟨by rw [← HZ.out, if_neg HN.out, HU.out]; simp <;> rfl, HX9.out.g⟩
    · have z1 : (kd != 1) = true := by simpa using hk1
      have HK := hid hk1
      have e2 := HX3.out.e.c2
      unfold errV at e2
      clear hk1
      go_wp2
      go_ret
      exact ⟨by rw [← HR.out]; simp [HK.out] <;> rfl, HX3.out.g⟩
set_option maxHeartbeats 2000000 in
theorem codeReloc_any (h : OAt w V x) (he : ErrC w A) (hf : OFit x) (hl : x.M.length = x.C.length) (k : Nat) (hk : k < x.Q.length) (rr : Option Nat) (hr : codeF x k = rr) :
    Calls Tryz.prog 77 #[V.agg, .int .i64 k] w fun e w' => e = .returned (evV A rr) ∧ w.grownBy w' none := by
  obtain ⟨d, c, m, r, q, sv⟩ := V
  obtain ⟨⟨a, kd, sm, ad⟩, hy⟩ : ∃ y, x.Q[k]? = some y := ⟨_, List.getElem?_eq_getElem hk⟩
  have hyn : rlN x.Q k = ⟨a, kd, sm, ad⟩ := by unfold rlN; rw [List.getD_eq_getElem?_getD, hy]; rfl
  obtain ⟨pw, cw, hw⟩ := h.c.len'
  obtain rfl : c = _ := hw
  obtain ⟨b, o, cp, hv, _, hb, hc⟩ := h.q.at_ (by omega)
  obtain rfl : q = _ := hv
  have HX := hid (Bx.new h he 136 #[d, .slice pw x.C.length cw, m, r, .slice (some ⟨b, o, none⟩) x.Q.length cp, sv])
  have h4 := (RlAt.cells hc hy).kept0 HX.out.g
  have k0 : (0 : Int) ≤ (k : Int) := by omega
  have kn : (k : Int) < (x.Q.length : Int) := by omega
  have HP := hid (And.intro hf (And.intro hl (And.intro hk (And.intro hf.l.2.2.2.2.1 hy))))
  obtain ⟨T, hT⟩ : ∃ T, inB x x.Q k x.C.length = T := ⟨_, rfl⟩
  have HT := hid hT
  unfold codeF at hr
  rw [hyn, hT] at hr
  have HR := hid hr
  clear h he hf hl hc hr hT hyn hk hy
  go_enter Tryz.func77, Tryz.ntmps77
  go_upto_region 1 with (fail)
  generalize w.alloc (.cells #[d, .slice pw x.C.length cw, m, r, .slice (some ⟨b, o, none⟩) x.Q.length cp, sv] 136) = w1 at HX h4 ⊢
  have f4 := HX.out.box.cell 4 rfl
  have e0 := h4.c0
  have e1 := h4.c1
  have e2 := h4.c2
  have e3 := h4.c3
  clear h4
  go_upto_region 2 with (fail)
  have HX2 := hid (HX.out.alloc (.cells #[.int .i64 a, .int .i64 kd, .int .i64 sm, .int .i64 ad] 90))
  have HY := hid (RwAt.new w1 90 #[.int .i64 a, .int .i64 kd, .int .i64 sm, .int .i64 ad])
  obtain ⟨B, hB⟩ : ∃ B, w1.heap.size = B := ⟨_, rfl⟩
  rw [hB] at HY ⊢
  clear f4 e0 e1 e2 e3 HX
  generalize w1.alloc (.cells #[.int .i64 a, .int .i64 kd, .int .i64 sm, .int .i64 ad] 90) = w2 at HX2 HY ⊢
  have f4 := HX2.out.box.cell 4 rfl
  have f1 := HX2.out.box.cell 1 rfl
  go_wp2_with (first
    | (refine wpList_load_rw rfl 136 _ rfl rfl HX2.out.box rfl Tryz.underlying136 info_object' ?_)
    | fail)
  refine (range_any HX2.out.o HX2.out.o.q k HP.out.2.2.1 HP.out.2.2.2.1 _ T HT.out).mono ?_
  rintro e w3 ⟨rfl, hg⟩
  have HX3 := hid (HX2.out.kept0 hg)
  have HY3 := hid (HY.out.kept0 hg)
  clear hg HX2 HY f4 f1
  have g1 := HY3.out.cell 1 rfl
  cases T
  · have e2 := HX3.out.e.c2
    unfold errV at e2
    go_wp2
    go_ret
    exact ⟨by rw [← HR.out]; rfl, HX3.out.g⟩
  · by_cases hk1 : kd = 1 ∨ kd = 2
    · have z1 : (kd != 1) = false ∨ ((kd != 1) = true ∧ (kd != 2) = false) := by rcases hk1 with h | h <;> simp [h]
      rcases z1 with z1 | ⟨z1, z2⟩
      · have hr' := HR.out
        have HZ := hid hr'
        clear hr'
        obtain ⟨i, j, hi, his, hj, hjs⟩ := in_parts HT.out HP.out.2.2.2.2
        have HI := hid (And.intro hi (And.intro his (And.intro hj hjs)))
        have HN := hid (show ¬(true = false ∨ (kd ≠ 1 ∧ kd ≠ 2)) by simp; omega)
        clear hi his hj hjs hk1
        go_wp2_with (first
          | (refine wpList_load_rw rfl 136 _ rfl rfl HX3.out.box rfl Tryz.underlying136 info_object' ?_)
          | (refine wpList_load_rw rfl 90 _ rfl rfl HY3.out rfl Tryz.underlying90 info_rel ?_)
          | fail)
        obtain ⟨Z, HZZ⟩ : ∃ Z, Hid (repB x ⟨a, kd, sm, ad⟩ = Z) := ⟨_, hid rfl⟩
        refine (repairs_any HX3.out.o HX3.out.e HP.out.1 HP.out.2.1 ⟨a, kd, sm, ad⟩ i j HI.out.1 HI.out.2.1 HI.out.2.2.1 (by have := HI.out.2.2.2; omega) Z HZZ.out).mono ?_
        rintro e w4 ⟨rfl, hg⟩
        have HX4 := hid (HX3.out.kept0 hg)
        have HY4 := hid (HY3.out.kept0 hg)
        clear hg HX3 HY3 g1
        cases Z
        · have e1 := HX4.out.e.c1
          unfold errV at e1
          go_wp2
          go_ret
          exact ⟨by rw [← HZ.out, if_neg HN.out, HZZ.out]; simp <;> rfl, HX4.out.g⟩
        · go_wp2_with (first
            | (refine wpList_load_rw rfl 136 _ rfl rfl HX4.out.box rfl Tryz.underlying136 info_object' ?_)
            | (refine wpList_load_rw_g ?_ 136 _ rfl rfl HX4.out.box rfl Tryz.underlying136 info_object' ?_; (kernel_rfl))
            | (refine wpList_load_rw_g ?_ 90 _ rfl rfl HY4.out rfl Tryz.underlying90 info_rel ?_; (kernel_rfl))
            | fail)
          obtain ⟨U, HU⟩ : ∃ U, Hid (outB x ⟨a, kd, sm, ad⟩ = U) := ⟨_, hid rfl⟩
          refine (adds_any HX4.out.o ⟨a, kd, sm, ad⟩ i HI.out.1 HI.out.2.1 U HU.out).mono ?_
          rintro e w9 ⟨rfl, hg⟩
          have HX9 := hid (HX4.out.kept0 hg)
          clear hg
          cases U
          · go_wp2
            go_ret
            exact ⟨by rw [← HZ.out, if_neg HN.out, HU.out, HZZ.out]; simp <;> rfl, HX9.out.g⟩
          · have e1 := HX9.out.e.c1
            unfold errV at e1
            go_wp2
            go_ret
            exact ⟨by rw [← HZ.out, if_neg HN.out, HU.out, HZZ.out]; simp <;> rfl, HX9.out.g⟩
      · have hr' := HR.out
        have HZ := hid hr'
        clear hr'
        obtain ⟨i, j, hi, his, hj, hjs⟩ := in_parts HT.out HP.out.2.2.2.2
        have HI := hid (And.intro hi (And.intro his (And.intro hj hjs)))
        have HN := hid (show ¬(true = false ∨ (kd ≠ 1 ∧ kd ≠ 2)) by simp; omega)
        clear hi his hj hjs hk1
        go_wp2_with (first
          | (refine wpList_load_rw rfl 136 _ rfl rfl HX3.out.box rfl Tryz.underlying136 info_object' ?_)
          | (refine wpList_load_rw rfl 90 _ rfl rfl HY3.out rfl Tryz.underlying90 info_rel ?_)
          | fail)
        obtain ⟨Z, HZZ⟩ : ∃ Z, Hid (repB x ⟨a, kd, sm, ad⟩ = Z) := ⟨_, hid rfl⟩
        refine (repairs_any HX3.out.o HX3.out.e HP.out.1 HP.out.2.1 ⟨a, kd, sm, ad⟩ i j HI.out.1 HI.out.2.1 HI.out.2.2.1 (by have := HI.out.2.2.2; omega) Z HZZ.out).mono ?_
        rintro e w4 ⟨rfl, hg⟩
        have HX4 := hid (HX3.out.kept0 hg)
        have HY4 := hid (HY3.out.kept0 hg)
        clear hg HX3 HY3 g1
        cases Z
        · have e1 := HX4.out.e.c1
          unfold errV at e1
          go_wp2
          go_ret
          exact ⟨by rw [← HZ.out, if_neg HN.out, HZZ.out]; simp <;> rfl, HX4.out.g⟩
        · go_wp2_with (first
            | (refine wpList_load_rw rfl 136 _ rfl rfl HX4.out.box rfl Tryz.underlying136 info_object' ?_)
            | (refine wpList_load_rw_g ?_ 136 _ rfl rfl HX4.out.box rfl Tryz.underlying136 info_object' ?_; (kernel_rfl))
            | (refine wpList_load_rw_g ?_ 90 _ rfl rfl HY4.out rfl Tryz.underlying90 info_rel ?_; (kernel_rfl))
            | fail)
          obtain ⟨U, HU⟩ : ∃ U, Hid (outB x ⟨a, kd, sm, ad⟩ = U) := ⟨_, hid rfl⟩
          refine (adds_any HX4.out.o ⟨a, kd, sm, ad⟩ i HI.out.1 HI.out.2.1 U HU.out).mono ?_
          rintro e w9 ⟨rfl, hg⟩
          have HX9 := hid (HX4.out.kept0 hg)
          clear hg
          cases U
          · go_wp2
            go_ret
            exact ⟨by rw [← HZ.out, if_neg HN.out, HU.out, HZZ.out]; simp <;> rfl, HX9.out.g⟩
          · have e1 := HX9.out.e.c1
            unfold errV at e1
            go_wp2
            go_ret
            exact ⟨by rw [← HZ.out, if_neg HN.out, HU.out, HZZ.out]; simp <;> rfl, HX9.out.g⟩
    · have z1 : (kd != 1) = true := by simp; intro h; exact hk1 (.inl h)
      have z2 : (kd != 2) = true := by simp; intro h; exact hk1 (.inr h)
      have HK := hid (not_or.1 hk1)
      have e2 := HX3.out.e.c2
      unfold errV at e2
      clear hk1
      go_wp2
      go_ret
      exact ⟨by rw [← HR.out]; simp [HK.out] <;> rfl, HX3.out.g⟩
end
end Go.Proofs.YtgahbpfmiibpeaaGreatDoor
