/- The numbers of a relocation; what it adds; what it repairs (package obj): contracts. -/
import Derived.Test.YteanoklaammpiaaDoorZGObjB
namespace Go.Proofs.YteanoklaammpiaaDoor
open Go.RowKit
section
variable {w : World} {V : OV} {x : PO} {A : Nat → Addr}
set_option maxHeartbeats 1000000 in
theorem range_first (h : OAt w V x) {lv : Value} {l : List Rl} (hr : RlAt w lv l) (y : Rl) (hy : l[0]? = some y) (n : Int) (z : Bool) (hz : inB x l 0 n = z) :
    Calls Tryd.prog 77 #[V.agg, lv, .int .i64 0, .int .i64 n] w fun e w' => e = .returned (.bool z) ∧ w.grownBy w' none := by
  obtain ⟨d, c, m, r, q, sv⟩ := V
  obtain ⟨ps, cs, hs⟩ := h.s.len
  obtain rfl : sv = _ := hs
  obtain ⟨a, kd, sm, ad⟩ := y
  have hl := (List.getElem?_eq_some_iff.1 hy).1
  have hyn : rlN l 0 = ⟨a, kd, sm, ad⟩ := by unfold rlN; rw [List.getD_eq_getElem?_getD, hy]; rfl
  obtain ⟨b, o, cp, hv, _, hb, hc⟩ := hr.at_ hl
  obtain rfl : lv = _ := hv
  have Hz := hid hz
  have Hy := hid hyn
  have HG := hid (World.grownBy_alloc w (.cells #[d, c, m, r, q, .slice ps x.S.length cs] 87) none)
  have h4 := (RlAt.cells hc hy).kept0 HG.out
  have HB := hid (RwAt.new w 87 #[d, c, m, r, q, .slice ps x.S.length cs])
  have kl : (0 : Int) < (l.length : Int) := by omega
  rw [Nat.zero_mul, Nat.add_zero] at h4
  clear h hr hc hy hyn hz hl
  go_enter Tryd.func77, Tryd.ntmps77
  go_upto_region 1 with (fail)
  generalize w.alloc (.cells #[d, c, m, r, q, .slice ps x.S.length cs] 87) = w1 at HG HB h4 ⊢
  have f5 := HB.out.cell 5 rfl
  have e0 := h4.c0
  have e1 := h4.c1
  have e2 := h4.c2
  have e3 := h4.c3
  clear h4
  go_upto_region 2 with (fail)
  have HG2 := hid (grown_alloc HG.out (.cells #[.int .i64 a, .int .i64 kd, .int .i64 sm, .int .i64 ad] 81))
  have HB2 := hid (HB.out.alloc (.cells #[.int .i64 a, .int .i64 kd, .int .i64 sm, .int .i64 ad] 81))
  have HC := hid (RwAt.new w1 81 #[.int .i64 a, .int .i64 kd, .int .i64 sm, .int .i64 ad])
  clear f5 e0 e1 e2 e3 HG HB
  generalize w1.alloc (.cells #[.int .i64 a, .int .i64 kd, .int .i64 sm, .int .i64 ad] 81) = w2 at HG2 HB2 HC ⊢
  go_quiet (fail)
  have f5 := HB2.out.cell 5 rfl
  have e0 := HC.out.cell 0 rfl
  have e2 := HC.out.cell 2 rfl
  have e3 := HC.out.cell 3 rfl
  go_wp2
  all_goals
    go_ret
    refine ⟨ret_b ?_, grown_drewN HG2.out _⟩
    rw [← Hz.out, Bool.eq_iff_iff]
    unfold inB
    rw [Hy.out]
    simp
    try omega
set_option maxHeartbeats 1000000 in
theorem range_next (h : OAt w V x) {lv : Value} {l : List Rl} (hr : RlAt w lv l) (j : Nat) (y u : Rl) (hy : l[j + 1]? = some y) (hu : l[j]? = some u) (hl : l.length ≤ maxLen) (n : Int) (z : Bool) (hz : inB x l (j + 1) n = z) :
    Calls Tryd.prog 77 #[V.agg, lv, .int .i64 ((j + 1 : Nat) : Int), .int .i64 n] w fun e w' => e = .returned (.bool z) ∧ w.grownBy w' none := by
  obtain ⟨d, c, m, r, q, sv⟩ := V
  obtain ⟨ps, cs, hs⟩ := h.s.len
  obtain rfl : sv = _ := hs
  obtain ⟨a, kd, sm, ad⟩ := y
  have hlt := (List.getElem?_eq_some_iff.1 hy).1
  have hyn : rlN l (j + 1) = ⟨a, kd, sm, ad⟩ := by unfold rlN; rw [List.getD_eq_getElem?_getD, hy]; rfl
  have hun : rlN l (j + 1 - 1) = u := by unfold rlN; rw [Nat.add_sub_cancel, List.getD_eq_getElem?_getD, hu]; rfl
  obtain ⟨b, o, cp, hv, _, hb, hc⟩ := hr.at_ (by omega)
  obtain rfl : lv = _ := hv
  obtain ⟨K, hK⟩ : ∃ K, K = j + 1 := ⟨_, rfl⟩
  have Hz := hid hz
  have Hy := hid hyn
  have Hu := hid hun
  have HG := hid (World.grownBy_alloc w (.cells #[d, c, m, r, q, .slice ps x.S.length cs] 87) none)
  have h4 := (RlAt.cells hc hy).kept0 HG.out
  have h5 := (RlAt.cells hc hu).kept0 HG.out
  have HB := hid (RwAt.new w 87 #[d, c, m, r, q, .slice ps x.S.length cs])
  have k0 : (0 : Int) ≤ (K : Int) := by omega
  have kn : (K : Int) < (l.length : Int) := by omega
  have km : (K : Int) - 1 = (j : Int) := by omega
  have j0 : (0 : Int) ≤ (j : Int) := by omega
  have jn : (j : Int) < (l.length : Int) := by omega
  have kz : ((K : Int) == 0) = false := by simp; omega
  have kl : (l.length : Int) ≤ 9223372036854775807 := by unfold maxLen at hl; omega
  rw [← hK] at h4 ⊢
  have HK := hid hK
  clear h hr hc hy hyn hz hl hu hun hK hlt
  go_enter Tryd.func77, Tryd.ntmps77
  go_upto_region 1 with (fail)
  generalize w.alloc (.cells #[d, c, m, r, q, .slice ps x.S.length cs] 87) = w1 at HG HB h4 h5 ⊢
  have e0 := h4.c0
  have e1 := h4.c1
  have e2 := h4.c2
  have e3 := h4.c3
  go_upto_region 2 with (fail)
  have HG2 := hid (grown_alloc HG.out (.cells #[.int .i64 a, .int .i64 kd, .int .i64 sm, .int .i64 ad] 81))
  have HB2 := hid (HB.out.alloc (.cells #[.int .i64 a, .int .i64 kd, .int .i64 sm, .int .i64 ad] 81))
  have HC := hid (RwAt.new w1 81 #[.int .i64 a, .int .i64 kd, .int .i64 sm, .int .i64 ad])
  have H5 := hid (h5.kept0 (World.grownBy_alloc w1 (.cells #[.int .i64 a, .int .i64 kd, .int .i64 sm, .int .i64 ad] 81) none))
  clear e0 e1 e2 e3 HG HB h4 h5
  generalize w1.alloc (.cells #[.int .i64 a, .int .i64 kd, .int .i64 sm, .int .i64 ad] 81) = w2 at HG2 HB2 HC H5 ⊢
  have e0 := HC.out.cell 0 rfl
  have u0 := H5.out.c0
  have hw := wrap_i64_id (n := (K : Int) - 1) (by omega) (by omega)
  rw [km] at hw
  go_quiet (fail)
  clear e0 u0
  have f5 := HB2.out.cell 5 rfl
  have e0 := HC.out.cell 0 rfl
  have e2 := HC.out.cell 2 rfl
  have e3 := HC.out.cell 3 rfl
  go_wp2
  all_goals
    go_ret
    refine ⟨ret_b ?_, grown_drewN HG2.out _⟩
    rw [← Hz.out, Bool.eq_iff_iff]
    unfold inB
    rw [Hy.out, Hu.out]
    try simp only [decide_eq_true_eq, Bool.false_eq_true, false_iff] at *
    omega
theorem range_any (h : OAt w V x) {lv : Value} {l : List Rl} (hr : RlAt w lv l) (k : Nat) (hk : k < l.length) (hl : l.length ≤ maxLen) (n : Int) (z : Bool) (hz : inB x l k n = z) :
    Calls Tryd.prog 77 #[V.agg, lv, .int .i64 (k : Int), .int .i64 n] w fun e w' => e = .returned (.bool z) ∧ w.grownBy w' none := by
  match k, hk, hz with
  | 0, hk, hz => exact range_first h hr _ (List.getElem?_eq_getElem hk) n z hz
  | j + 1, hk, hz => exact range_next h hr j _ _ (List.getElem?_eq_getElem hk) (List.getElem?_eq_getElem (by omega)) hl n z hz
/-- what it adds where nothing may be added -/
theorem adds_any (h : OAt w V x) (y : Rl) (k : Nat) (hk : y.s = k) (hks : k < x.S.length) (z : Bool) (hz : outB x y = z) :
    Calls Tryd.prog 78 #[V.agg, y.agg] w fun e w' => e = .returned (.bool z) ∧ w.grownBy w' none := by
  obtain ⟨d, c, m, r, q, sv⟩ := V
  obtain ⟨a, kd, sm, ad⟩ := y
  obtain rfl : sm = (k : Int) := hk
  obtain ⟨⟨n, i, v, g⟩, hsy⟩ : ∃ sy, x.S[k]? = some sy := ⟨_, List.getElem?_eq_getElem hks⟩
  have hsn : symN x k = ⟨n, i, v, g⟩ := by unfold symN; rw [List.getD_eq_getElem?_getD, hsy]; rfl
  have hz' : (decide (ad ≠ 0) && !decide (i = 1)) = z := by rw [← hz]; unfold outB toB; simp only [Int.toNat_natCast, hsn]
  obtain ⟨b, o, cp, hss, _, hb, hc⟩ := h.s.at_ (by omega)
  obtain rfl : sv = _ := hss
  have Hz := hid hz'
  have HG := hid (grown_alloc (World.grownBy_alloc w (.cells #[d, c, m, r, q, .slice (some ⟨b, o, none⟩) x.S.length cp] 87) none) (.cells #[.int .i64 a, .int .i64 kd, .int .i64 k, .int .i64 ad] 81))
  have HX := hid ((RwAt.new w 87 #[d, c, m, r, q, .slice (some ⟨b, o, none⟩) x.S.length cp]).alloc (.cells #[.int .i64 a, .int .i64 kd, .int .i64 k, .int .i64 ad] 81))
  have HY := hid (RwAt.new2 w (.cells #[d, c, m, r, q, .slice (some ⟨b, o, none⟩) x.S.length cp] 87) 81 #[.int .i64 a, .int .i64 kd, .int .i64 k, .int .i64 ad])
  have h4 := (SyAt.cells hc hsy).kept0 HG.out
  have k0 : (0 : Int) ≤ (k : Int) := by omega
  have kn : (k : Int) < (x.S.length : Int) := by omega
  clear h hz hz' hc hsy hsn
  go_enter Tryd.func78, Tryd.ntmps78
  go_upto_region 1 with (fail)
  generalize (w.alloc (.cells #[d, c, m, r, q, .slice (some ⟨b, o, none⟩) x.S.length cp] 87)).alloc (.cells #[.int .i64 a, .int .i64 kd, .int .i64 k, .int .i64 ad] 81) = w1 at HG HX HY h4 ⊢
  have f5 := HX.out.cell 5 rfl
  have g2 := HY.out.cell 2 rfl
  have g3 := HY.out.cell 3 rfl
  have e1 := h4.c1
  by_cases h0 : ad = 0
  · have z0 : (ad != 0) = false := by simpa using h0
    have H0 := hid h0
    clear h0
    go_wp2
    go_ret
    exact ⟨ret_b (by rw [← Hz.out]; simp [H0.out]), HG.out⟩
  · have z0 : (ad != 0) = true := by simpa using h0
    have H0 := hid h0
    clear h0
    go_wp2
    go_ret
    exact ⟨ret_b (by rw [← Hz.out]; simp [H0.out, bne, Bool.beq_eq_decide_eq]), HG.out⟩
end
end Go.Proofs.YteanoklaammpiaaDoor
