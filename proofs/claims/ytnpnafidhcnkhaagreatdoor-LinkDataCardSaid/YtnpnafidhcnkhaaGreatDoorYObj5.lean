/- What is wrong with a symbol (package obj): contracts. -/
import Derived.Test.YtnpnafidhcnkhaaGreatDoorYIsa2
namespace Go.Proofs.YtnpnafidhcnkhaaGreatDoor
open Go.RowKit
section
variable {w : World} {V : OV} {x : PO} {A : Nat → Addr}
/-- where a symbol stands: in data -/
theorem stands_data (h : OAt w V x) (_hf : OFit x) (s : Sy) (hi : s.i = 1) (z : Bool) (hz : standsB x s = z) :
    Calls Tryz.prog 113 #[V.agg, s.agg] w fun e w' => e = .returned (.bool z) ∧ w.grownBy w' none := by
  obtain ⟨d, c, m, r, q, sy⟩ := V
  obtain ⟨pd, cd, hd⟩ := h.d.len'
  obtain rfl : d = _ := hd
  obtain ⟨n, i, v, g⟩ := s
  obtain rfl : i = 1 := hi
  have HG := hid (grown_alloc (World.grownBy_alloc w (.cells #[.slice pd x.D.length cd, c, m, r, q, sy] 176) none) (.cells #[.string n, .int .i64 1, .int .i64 v, .bool g] 63))
  have hz' : decide (0 ≤ v ∧ (v < x.D.length ∨ v < 1)) = z := by rw [← hz]; unfold standsB; simp
  have Hz := hid hz'
  clear h hz hz' _hf
  by_cases h0 : 0 ≤ v
  · have Hr := hid h0
    go_enter Tryz.func113, Tryz.ntmps113
    go_wp2
    all_goals
      go_ret
      refine ⟨ret_b ?_, HG.out⟩
      rw [← Hz.out, Bool.eq_iff_iff]
      have := Hr.out
      simp only [decide_eq_true_eq]
      omega
  · have Hr := hid h0
    go_enter Tryz.func113, Tryz.ntmps113
    go_wp2
    go_ret
    refine ⟨ret_b ?_, HG.out⟩
    rw [← Hz.out, Bool.eq_iff_iff]
    have := Hr.out
    simp
    try omega
theorem stands_code (h : OAt w V x) (hf : OFit x) (hl : x.M.length = x.C.length) (s : Sy) (hi : s.i = 2) (z : Bool) (hz : standsB x s = z) :
    Calls Tryz.prog 113 #[V.agg, s.agg] w fun e w' => e = .returned (.bool z) ∧ w.grownBy w' none := by
  obtain ⟨d, c, m, r, q, sy⟩ := V
  obtain ⟨pc, cc, hc⟩ := h.c.len'
  obtain rfl : c = _ := hc
  obtain ⟨n, i, v, g⟩ := s
  obtain rfl : i = 2 := hi
  have hz' : decide (0 ≤ v ∧ v < x.C.length ∧ mapN x v.toNat = 1) = z := by rw [← hz]; unfold standsB; simp
  have Hz := hid hz'
  have kl : (x.C.length : Int) ≤ 9223372036854775807 := by have := hf.l.2.1; unfold maxLen at this; omega
  clear hz hz' hf
  by_cases h0 : 0 ≤ v
  · by_cases h1 : v < x.C.length
    · obtain ⟨k, rfl⟩ : ∃ k : Nat, v = (k : Int) := ⟨v.toNat, by omega⟩
      obtain ⟨y, hy⟩ : ∃ y, x.M[k]? = some y := ⟨_, List.getElem?_eq_getElem (by omega)⟩
      have hm : mapN x k = y := by unfold mapN; rw [List.getD_eq_getElem?_getD, hy]; rfl
      obtain ⟨b, o, cm, hmm, hb, hc⟩ := h.m.at_ (by omega)
      obtain rfl : m = _ := hmm
      have e0 := hc k y hy
      have Hr := hid (And.intro h1 hm)
      have kn : (k : Int) < (x.M.length : Int) := by omega
      have HG := hid (grown_alloc (World.grownBy_alloc w (.cells #[d, .slice pc x.C.length cc, .slice (some ⟨b, o, none⟩) x.M.length cm, r, q, sy] 176) none) (.cells #[.string n, .int .i64 2, .int .i64 k, .bool g] 63))
      have HX := hid (((RwAt.new w 176 #[d, .slice pc x.C.length cc, .slice (some ⟨b, o, none⟩) x.M.length cm, r, q, sy]).alloc (.cells #[.string n, .int .i64 2, .int .i64 k, .bool g] 63)))
      have HY := hid (RwAt.new2 w (.cells #[d, .slice pc x.C.length cc, .slice (some ⟨b, o, none⟩) x.M.length cm, r, q, sy] 176) 63 #[.string n, .int .i64 2, .int .i64 k, .bool g])
      have e9 := (grown_cell HG.out hb (by simp)).trans e0
      clear h hc hl hy hm e0
      go_enter Tryz.func113, Tryz.ntmps113
      go_upto_region 1 with (fail)
      generalize (w.alloc (.cells #[d, .slice pc x.C.length cc, .slice (some ⟨b, o, none⟩) x.M.length cm, r, q, sy] 176)).alloc (.cells #[.string n, .int .i64 2, .int .i64 k, .bool g] 63) = w1 at HG HX HY e9 ⊢
      have f1 := HX.out.cell 1 rfl
      have f2 := HX.out.cell 2 rfl
      have g1 := HY.out.cell 1 rfl
      have g2 := HY.out.cell 2 rfl
      go_wp2
      go_ret
      refine ⟨ret_b ?_, HG.out⟩
      have := Hr.out
      rw [← Hz.out, Bool.eq_iff_iff]
      simp [this.2]
      try omega
    · have Hr := hid (And.intro h0 h1)
      have HG := hid (grown_alloc (World.grownBy_alloc w (.cells #[d, .slice pc x.C.length cc, m, r, q, sy] 176) none) (.cells #[.string n, .int .i64 2, .int .i64 v, .bool g] 63))
      have hd1 : decide (v < (x.C.length : Int)) = false := by simpa using h1
      clear h
      go_enter Tryz.func113, Tryz.ntmps113
      go_wp2
      go_ret
      refine ⟨ret_b ?_, HG.out⟩
      have := Hr.out
      rw [← Hz.out, Bool.eq_iff_iff]
      simp
      try omega
  · have Hr := hid h0
    have HG := hid (grown_alloc (World.grownBy_alloc w (.cells #[d, .slice pc x.C.length cc, m, r, q, sy] 176) none) (.cells #[.string n, .int .i64 2, .int .i64 v, .bool g] 63))
    clear h
    go_enter Tryz.func113, Tryz.ntmps113
    go_wp2
    go_ret
    refine ⟨ret_b ?_, HG.out⟩
    have := Hr.out
    rw [← Hz.out, Bool.eq_iff_iff]
    simp
    try omega
theorem stands_else (s : Sy) (h1 : s.i ≠ 1) (h2 : s.i ≠ 2) (z : Bool) (hz : standsB x s = z) :
    Calls Tryz.prog 113 #[V.agg, s.agg] w fun e w' => e = .returned (.bool z) ∧ w.grownBy w' none := by
  obtain ⟨d, c, m, r, q, sy⟩ := V
  obtain ⟨n, i, v, g⟩ := s
  have h1 : i ≠ 1 := h1
  have h2 : i ≠ 2 := h2
  have z1 : (i == 1) = false := by simpa using h1
  have z2 : (i == 2) = false := by simpa using h2
  have HG := hid (grown_alloc (World.grownBy_alloc w (.cells #[d, c, m, r, q, sy] 176) none) (.cells #[.string n, .int .i64 i, .int .i64 v, .bool g] 63))
  by_cases h3 : i = 3
  · have z3 : (i == 3) = true := by simpa using h3
    have hz' : decide (v = 0 ∧ g = true) = z := by rw [← hz]; unfold standsB; simp [h3]
    have Hz := hid hz'
    clear hz hz' h1 h2 h3
    by_cases h0 : v = 0
    · have z4 : (v == 0) = true := by simpa using h0
      have H0 := hid h0
      clear h0
      go_enter Tryz.func113, Tryz.ntmps113
      go_wp2
      go_ret
      exact ⟨ret_b (by rw [← Hz.out]; simp [H0.out]), HG.out⟩
    · have z4 : (v == 0) = false := by simpa using h0
      have H0 := hid h0
      clear h0
      go_enter Tryz.func113, Tryz.ntmps113
      go_wp2
      go_ret
      exact ⟨ret_b (by rw [← Hz.out]; simp [H0.out]), HG.out⟩
  · have z3 : (i == 3) = false := by simpa using h3
    have hz' : false = z := by rw [← hz]; unfold standsB; simp [h1, h2, h3]
    have Hz := hid hz'
    clear hz hz' h1 h2 h3
    go_enter Tryz.func113, Tryz.ntmps113
    go_wp2
    go_ret
    exact ⟨ret_b Hz.out, HG.out⟩
theorem stands_any (h : OAt w V x) (hf : OFit x) (hl : x.M.length = x.C.length) (s : Sy) (z : Bool) (hz : standsB x s = z) :
    Calls Tryz.prog 113 #[V.agg, s.agg] w fun e w' => e = .returned (.bool z) ∧ w.grownBy w' none := by
  by_cases h1 : s.i = 1
  · exact stands_data h hf s h1 z hz
  · by_cases h2 : s.i = 2
    · exact stands_code h hf hl s h2 z hz
    · exact stands_else (x := x) s h1 h2 z hz
end
end Go.Proofs.YtnpnafidhcnkhaaGreatDoor
namespace Go.Proofs.YtnpnafidhcnkhaaGreatDoor
open Go.RowKit
theorem sysC_take : ∀ (l : List Sy) (k : Nat), sysC (l.take k) = (sysC l).take (k * 4)
  | [], k => by simp [sysC]
  | s :: r, 0 => by simp [sysC]
  | s :: r, k + 1 => by
    have h4 : (syC s).length = 4 := rfl
    rw [List.take_succ_cons, sysC, sysC_take r k, sysC, List.take_append, h4, List.take_of_length_le (l := syC s) (by rw [h4]; omega)]
    congr 2
    omega
theorem empty_iff {n : ByteArray} : n.toList.isEmpty = true ↔ n.size = 0 := by
  rw [ByteArray.toList_eq, List.isEmpty_iff]
  constructor
  · intro h
    have := congrArg List.length h
    simpa using this
  · intro h
    exact List.eq_nil_of_length_eq_zero (by simpa using h)
section
variable {w : World} {V : OV} {x : PO} {A : Nat → Addr}
set_option maxHeartbeats 1000000 in
theorem symbol_any (h : OAt w V x) (he : ErrC w A) (hf : OFit x) (hl : x.M.length = x.C.length) (k : Nat) (hk : k < x.S.length) (rr : Option Nat) (hr : symF x k = rr) :
    Calls Tryz.prog 95 #[V.agg, .int .i64 k] w fun e w' => e = .returned (evV A rr) ∧ w.grownBy w' none := by
  obtain ⟨d, c, m, r, q, sv⟩ := V
  obtain ⟨sy, hsy⟩ : ∃ sy, x.S[k]? = some sy := ⟨_, List.getElem?_eq_getElem hk⟩
  have hsn : symN x k = sy := by unfold symN; rw [List.getD_eq_getElem?_getD, hsy]; rfl
  obtain ⟨n, i, v, g⟩ := sy
  have HX := hid (Bx.new h he 176 #[d, c, m, r, q, sv])
  have HP := hid (And.intro hf hl)
  have HR := hid hr
  have HS := hid hsn
  have k0 : (0 : Int) ≤ (k : Int) := by omega
  have kn : (k : Int) < (x.S.length : Int) := by omega
  have kl : (x.S.length : Int) ≤ 9223372036854775807 := by have := hf.l.2.2.2.2.2; unfold maxLen at this; omega
  obtain ⟨b, o, cp, hss, hcp, _, hc⟩ := HX.out.o.s.at_ (by omega)
  obtain rfl : sv = _ := hss
  have h4 := SyAt.cells hc hsy
  have kc : (k : Int) ≤ (cp : Int) := by omega
  clear h he hf hl hk hc hr hsn hsy hcp
  go_enter Tryz.func95, Tryz.ntmps95
  go_upto_region 1 with (fail)
  generalize w.alloc (.cells #[d, c, m, r, q, .slice (some ⟨b, o, none⟩) x.S.length cp] 176) = w1 at HX h4 ⊢
  have f5 := HX.out.box.cell 5 rfl
  have e0 := h4.c0
  have e1 := h4.c1
  have e2 := h4.c2
  have e3 := h4.c3
  go_upto_region 2 with (fail)
  have HX2 := hid (HX.out.alloc (.cells #[.string n, .int .i64 i, .int .i64 v, .bool g] 63))
  have HY := hid (RwAt.new w1 63 #[.string n, .int .i64 i, .int .i64 v, .bool g])
  obtain ⟨B, hB⟩ : ∃ B, w1.heap.size = B := ⟨_, rfl⟩
  clear HX f5 e0 e1 e2 e3 h4
  rw [hB] at HY ⊢
  generalize w1.alloc (.cells #[.string n, .int .i64 i, .int .i64 v, .bool g] 63) = w2 at HX2 HY ⊢
  have g0 := HY.out.cell 0 rfl
  have hrr : rr = if n.size = 0 ∨ 32 < n.size then some 2 else if twiceB x k = true then some 5 else if standsB x ⟨n, i, v, g⟩ = true then none else some 2 := by
    rw [← HR.out]; unfold symF; rw [HS.out]
  have e2 := HX2.out.e.c2
  unfold errV at e2
  by_cases z0 : n.size = 0
  · have hz := empty_iff.2 z0
    rw [if_pos (.inl z0)] at hrr
    have HQ := hid hrr
    clear hrr z0
    go_wp2
    go_ret
    exact ⟨by rw [HQ.out]; rfl, HX2.out.g⟩
  have hz : n.toList.isEmpty = false := by
    cases hb : n.toList.isEmpty
    · rfl
    · exact absurd (empty_iff.1 hb) z0
  by_cases z1 : 32 < n.size
  · have hz1 : (n.size : Int) > 32 := by omega
    rw [if_pos (.inr z1)] at hrr
    have HQ := hid hrr
    clear hrr z0 z1
    go_wp2
    go_ret
    exact ⟨by rw [HQ.out]; rfl, HX2.out.g⟩
  have hz1 : (n.size : Int) ≤ 32 := by omega
  rw [if_neg (by omega)] at hrr
  have f5 := HX2.out.box.cell 5 rfl
  have HQ := hid hrr
  have Htw : Hid ((x.S.take k).any (fun s => decide (s.n = n)) = twiceB x k) := hid (by unfold twiceB; rw [HS.out])
  clear hrr z0 z1 e2
  go_wp2_with fail
  have HSy : Hid (SyAt w2 (.slice (some ⟨b, o, none⟩) k cp) (x.S.take k)) := hid (by
    have hk : k ≤ x.S.length := by omega
    have := HX2.out.o.s
    rcases this with ⟨_, h0, _⟩ | ⟨b', o', c', hv, hn, hb', hc⟩
    · omega
    · simp only [Value.slice.injEq, Option.some.injEq, Addr.mk.injEq, and_true, true_and] at hv
      obtain ⟨⟨rfl, rfl⟩, rfl⟩ := hv
      refine .inr ⟨b, o, cp, ?_, ?_, hb', fun j u hu => hc j u ?_⟩
      · rw [List.length_take, Nat.min_eq_left hk]
      · rw [List.length_take, Nat.min_eq_left hk]; omega
      · rw [sysC_take, List.getElem?_take] at hu
        split at hu
        · exact hu
        · cases hu)
  have Hc := hid (contains_any HSy.out (by rw [List.length_take]; have := HP.out.1.l.2.2.2.2.2; omega) B n g0 _ Htw.out)
  clear HSy Htw
  cases htw : twiceB x k
  · have HT := hid htw
    rw [htw] at Hc
    clear htw
    refine Hc.out.mono ?_
    rintro e w3 ⟨rfl, hg⟩
    have HX3 := hid (HX2.out.kept0 hg)
    have HY3 := hid (HY.out.kept0 hg)
    clear hg HX2 HY f5 g0 Hc
    go_wp2_with (first
      | (refine wpList_load_rw rfl 176 _ rfl rfl HX3.out.box rfl Tryz.underlying176 info_object' ?_)
      | (refine wpList_load_rw rfl 63 _ rfl rfl HY3.out rfl Tryz.underlying63 info_sym ?_)
      | fail)
    cases hst : standsB x ⟨n, i, v, g⟩
    · have HS2 := hid hst
      clear hst
      refine (stands_any HX3.out.o HP.out.1 HP.out.2 ⟨n, i, v, g⟩ false HS2.out).mono ?_
      rintro e w4 ⟨rfl, hg⟩
      have HX4 := hid (HX3.out.kept0 hg)
      clear hg HX3 HY3
      have e2 := HX4.out.e.c2
      unfold errV at e2
      go_wp2
      go_ret
      exact ⟨by rw [HQ.out, HT.out, HS2.out]; rfl, HX4.out.g⟩
    · have HS2 := hid hst
      clear hst
      refine (stands_any HX3.out.o HP.out.1 HP.out.2 ⟨n, i, v, g⟩ true HS2.out).mono ?_
      rintro e w4 ⟨rfl, hg⟩
      have HX4 := hid (HX3.out.kept0 hg)
      clear hg HX3 HY3
      go_wp2
      go_ret
      exact ⟨by rw [HQ.out, HT.out, HS2.out]; rfl, HX4.out.g⟩
  · have HT := hid htw
    rw [htw] at Hc
    clear htw
    refine Hc.out.mono ?_
    rintro e w3 ⟨rfl, hg⟩
    have HX3 := hid (HX2.out.kept0 hg)
    clear hg HX2 HY f5 g0 Hc
    have e5 := HX3.out.e.c5
    unfold errV at e5
    go_wp2
    go_ret
    exact ⟨by rw [HQ.out, HT.out]; rfl, HX3.out.g⟩
end
end Go.Proofs.YtnpnafidhcnkhaaGreatDoor
namespace Go.Proofs.YtnpnafidhcnkhaaGreatDoor
open Go.RowKit
section
variable {w : World} {V : OV} {x : PO} {A : Nat → Addr}
set_option maxHeartbeats 1000000 in
theorem range_first (h : OAt w V x) {lv : Value} {l : List Rl} (hr : RlAt w lv l) (y : Rl) (hy : l[0]? = some y) (n : Int) (z : Bool) (hz : inB x l 0 n = z) :
    Calls Tryz.prog 114 #[V.agg, lv, .int .i64 0, .int .i64 n] w fun e w' => e = .returned (.bool z) ∧ w.grownBy w' none := by
  obtain ⟨d, c, m, r, q, sv⟩ := V
  obtain ⟨ps, cs, hs⟩ := h.s.len
  obtain rfl : sv = _ := hs
  obtain ⟨a, kd, sm, ad⟩ := y
  have hl := (List.getElem?_eq_some_iff.1 hy).1
  have hyn : rlN l 0 = ⟨a, kd, sm, ad⟩ := by unfold rlN; rw [List.getD_eq_getElem?_getD, hy]; rfl
  obtain ⟨b, o, cp, hv, _, hb, hc⟩ := hr.at_ hl
  obtain rfl : lv = _ := hv
  have Hz := hid hz
  have Hy := hid hyn
  have HG := hid (World.grownBy_alloc w (.cells #[d, c, m, r, q, .slice ps x.S.length cs] 176) none)
  have h4 := (RlAt.cells hc hy).kept0 HG.out
  have HB := hid (RwAt.new w 176 #[d, c, m, r, q, .slice ps x.S.length cs])
  have kl : (0 : Int) < (l.length : Int) := by omega
  rw [Nat.zero_mul, Nat.add_zero] at h4
  clear h hr hc hy hyn hz hl
  go_enter Tryz.func114, Tryz.ntmps114
  go_upto_region 1 with (fail)
  generalize w.alloc (.cells #[d, c, m, r, q, .slice ps x.S.length cs] 176) = w1 at HG HB h4 ⊢
  have f5 := HB.out.cell 5 rfl
  have e0 := h4.c0
  have e1 := h4.c1
  have e2 := h4.c2
  have e3 := h4.c3
  clear h4
  go_upto_region 2 with (fail)
  have HG2 := hid (grown_alloc HG.out (.cells #[.int .i64 a, .int .i64 kd, .int .i64 sm, .int .i64 ad] 65))
  have HB2 := hid (HB.out.alloc (.cells #[.int .i64 a, .int .i64 kd, .int .i64 sm, .int .i64 ad] 65))
  have HC := hid (RwAt.new w1 65 #[.int .i64 a, .int .i64 kd, .int .i64 sm, .int .i64 ad])
  clear f5 e0 e1 e2 e3 HG HB
  generalize w1.alloc (.cells #[.int .i64 a, .int .i64 kd, .int .i64 sm, .int .i64 ad] 65) = w2 at HG2 HB2 HC ⊢
  go_quiet (fail)
  have f5 := HB2.out.cell 5 rfl
  have e0 := HC.out.cell 0 rfl
  have e2 := HC.out.cell 2 rfl
  have e3 := HC.out.cell 3 rfl
  go_wp2
  all_goals
    go_ret
    refine ⟨ret_b ?_, grown_drewN HG2.out _⟩
    rw [← Hz.out, Bool.eq_iff_iff]
    unfold inB
    rw [Hy.out]
    simp
    try omega
set_option maxHeartbeats 1000000 in
theorem range_next (h : OAt w V x) {lv : Value} {l : List Rl} (hr : RlAt w lv l) (j : Nat) (y u : Rl) (hy : l[j + 1]? = some y) (hu : l[j]? = some u) (hl : l.length ≤ maxLen) (n : Int) (z : Bool) (hz : inB x l (j + 1) n = z) :
    Calls Tryz.prog 114 #[V.agg, lv, .int .i64 ((j + 1 : Nat) : Int), .int .i64 n] w fun e w' => e = .returned (.bool z) ∧ w.grownBy w' none := by
  obtain ⟨d, c, m, r, q, sv⟩ := V
  obtain ⟨ps, cs, hs⟩ := h.s.len
  obtain rfl : sv = _ := hs
  obtain ⟨a, kd, sm, ad⟩ := y
  have hlt := (List.getElem?_eq_some_iff.1 hy).1
  have hyn : rlN l (j + 1) = ⟨a, kd, sm, ad⟩ := by unfold rlN; rw [List.getD_eq_getElem?_getD, hy]; rfl
  have hun : rlN l (j + 1 - 1) = u := by unfold rlN; rw [Nat.add_sub_cancel, List.getD_eq_getElem?_getD, hu]; rfl
  obtain ⟨b, o, cp, hv, _, hb, hc⟩ := hr.at_ (by omega)
  obtain rfl : lv = _ := hv
  obtain ⟨K, hK⟩ : ∃ K, K = j + 1 := ⟨_, rfl⟩
  have Hz := hid hz
  have Hy := hid hyn
  have Hu := hid hun
  have HG := hid (World.grownBy_alloc w (.cells #[d, c, m, r, q, .slice ps x.S.length cs] 176) none)
  have h4 := (RlAt.cells hc hy).kept0 HG.out
  have h5 := (RlAt.cells hc hu).kept0 HG.out
  have HB := hid (RwAt.new w 176 #[d, c, m, r, q, .slice ps x.S.length cs])
  have k0 : (0 : Int) ≤ (K : Int) := by omega
  have kn : (K : Int) < (l.length : Int) := by omega
  have km : (K : Int) - 1 = (j : Int) := by omega
  have j0 : (0 : Int) ≤ (j : Int) := by omega
  have jn : (j : Int) < (l.length : Int) := by omega
  have kz : ((K : Int) == 0) = false := by simp; omega
  have kl : (l.length : Int) ≤ 9223372036854775807 := by unfold maxLen at hl; omega
  rw [← hK] at h4 ⊢
  have HK := hid hK
  clear h hr hc hy hyn hz hl hu hun hK hlt
  go_enter Tryz.func114, Tryz.ntmps114
  go_upto_region 1 with (fail)
  generalize w.alloc (.cells #[d, c, m, r, q, .slice ps x.S.length cs] 176) = w1 at HG HB h4 h5 ⊢
  have e0 := h4.c0
  have e1 := h4.c1
  have e2 := h4.c2
  have e3 := h4.c3
  go_upto_region 2 with (fail)
  have HG2 := hid (grown_alloc HG.out (.cells #[.int .i64 a, .int .i64 kd, .int .i64 sm, .int .i64 ad] 65))
  have HB2 := hid (HB.out.alloc (.cells #[.int .i64 a, .int .i64 kd, .int .i64 sm, .int .i64 ad] 65))
  have HC := hid (RwAt.new w1 65 #[.int .i64 a, .int .i64 kd, .int .i64 sm, .int .i64 ad])
  have H5 := hid (h5.kept0 (World.grownBy_alloc w1 (.cells #[.int .i64 a, .int .i64 kd, .int .i64 sm, .int .i64 ad] 65) none))
  clear e0 e1 e2 e3 HG HB h4 h5
  generalize w1.alloc (.cells #[.int .i64 a, .int .i64 kd, .int .i64 sm, .int .i64 ad] 65) = w2 at HG2 HB2 HC H5 ⊢
  have e0 := HC.out.cell 0 rfl
  have u0 := H5.out.c0
  have hw := wrap_i64_id (n := (K : Int) - 1) (by omega) (by omega)
  rw [km] at hw
  go_quiet (fail)
  clear e0 u0
  have f5 := HB2.out.cell 5 rfl
  have e0 := HC.out.cell 0 rfl
  have e2 := HC.out.cell 2 rfl
  have e3 := HC.out.cell 3 rfl
  go_wp2
  all_goals
    go_ret
    refine ⟨ret_b ?_, grown_drewN HG2.out _⟩
    rw [← Hz.out, Bool.eq_iff_iff]
    unfold inB
    rw [Hy.out, Hu.out]
    try simp only [decide_eq_true_eq, Bool.false_eq_true, false_iff] at *
    omega
theorem range_any (h : OAt w V x) {lv : Value} {l : List Rl} (hr : RlAt w lv l) (k : Nat) (hk : k < l.length) (hl : l.length ≤ maxLen) (n : Int) (z : Bool) (hz : inB x l k n = z) :
    Calls Tryz.prog 114 #[V.agg, lv, .int .i64 (k : Int), .int .i64 n] w fun e w' => e = .returned (.bool z) ∧ w.grownBy w' none := by
  match k, hk, hz with
  | 0, hk, hz => exact range_first h hr _ (List.getElem?_eq_getElem hk) n z hz
  | j + 1, hk, hz => exact range_next h hr j _ _ (List.getElem?_eq_getElem hk) (List.getElem?_eq_getElem (by omega)) hl n z hz
/-- what it adds where nothing may be added -/
theorem adds_any (h : OAt w V x) (y : Rl) (k : Nat) (hk : y.s = k) (hks : k < x.S.length) (z : Bool) (hz : outB x y = z) :
    Calls Tryz.prog 115 #[V.agg, y.agg] w fun e w' => e = .returned (.bool z) ∧ w.grownBy w' none := by
  obtain ⟨d, c, m, r, q, sv⟩ := V
  obtain ⟨a, kd, sm, ad⟩ := y
  obtain rfl : sm = (k : Int) := hk
  obtain ⟨⟨n, i, v, g⟩, hsy⟩ : ∃ sy, x.S[k]? = some sy := ⟨_, List.getElem?_eq_getElem hks⟩
  have hsn : symN x k = ⟨n, i, v, g⟩ := by unfold symN; rw [List.getD_eq_getElem?_getD, hsy]; rfl
  have hz' : (decide (ad ≠ 0) && !decide (i = 1)) = z := by rw [← hz]; unfold outB toB; simp only [Int.toNat_natCast, hsn]
  obtain ⟨b, o, cp, hss, _, hb, hc⟩ := h.s.at_ (by omega)
  obtain rfl : sv = _ := hss
  have Hz := hid hz'
  have HG := hid (grown_alloc (World.grownBy_alloc w (.cells #[d, c, m, r, q, .slice (some ⟨b, o, none⟩) x.S.length cp] 176) none) (.cells #[.int .i64 a, .int .i64 kd, .int .i64 k, .int .i64 ad] 65))
  have HX := hid ((RwAt.new w 176 #[d, c, m, r, q, .slice (some ⟨b, o, none⟩) x.S.length cp]).alloc (.cells #[.int .i64 a, .int .i64 kd, .int .i64 k, .int .i64 ad] 65))
  have HY := hid (RwAt.new2 w (.cells #[d, c, m, r, q, .slice (some ⟨b, o, none⟩) x.S.length cp] 176) 65 #[.int .i64 a, .int .i64 kd, .int .i64 k, .int .i64 ad])
  have h4 := (SyAt.cells hc hsy).kept0 HG.out
  have k0 : (0 : Int) ≤ (k : Int) := by omega
  have kn : (k : Int) < (x.S.length : Int) := by omega
  clear h hz hz' hc hsy hsn
  go_enter Tryz.func115, Tryz.ntmps115
  go_upto_region 1 with (fail)
  generalize (w.alloc (.cells #[d, c, m, r, q, .slice (some ⟨b, o, none⟩) x.S.length cp] 176)).alloc (.cells #[.int .i64 a, .int .i64 kd, .int .i64 k, .int .i64 ad] 65) = w1 at HG HX HY h4 ⊢
  have f5 := HX.out.cell 5 rfl
  have g2 := HY.out.cell 2 rfl
  have g3 := HY.out.cell 3 rfl
  have e1 := h4.c1
  by_cases h0 : ad = 0
  · have z0 : (ad != 0) = false := by simpa using h0
    have H0 := hid h0
    clear h0
    go_wp2
    go_ret
    exact ⟨ret_b (by rw [← Hz.out]; simp [H0.out]), HG.out⟩
  · have z0 : (ad != 0) = true := by simpa using h0
    have H0 := hid h0
    clear h0
    go_wp2
    go_ret
    exact ⟨ret_b (by rw [← Hz.out]; simp [H0.out, bne, Bool.beq_eq_decide_eq]), HG.out⟩
end
end Go.Proofs.YtnpnafidhcnkhaaGreatDoor
namespace Go.Proofs.YtnpnafidhcnkhaaGreatDoor
open Go.RowKit
section
variable {ops : Array Oper} {rest : List Oper} {o : Oper} {a : Act} {w : World}
/-- a whole row, loaded where a guard says yes -/
theorem wpList_load_rw_g {Q : Exit → Act → World → Prop} (hgd : Region.wanted o (yielded ops a.tmps) = true) (t : TypeId) (p : Operand) (ho : o.op = .load t p) {g : Nat} (hx : a.eval p = .pointer (some ⟨g, 0, none⟩)) {t' : TypeId} {cs : Array Value} (hg : RwAt w g t' cs) {d : TypeDesc}
    (hd : d.isRow = true) (hu : Tryz.prog.underlying t = some d) (hi : (Tryz.prog.info? t).map (·.size) = some cs.size)
    (h : wpList Tryz.prog ops Q rest (a.put o.dst (.agg cs)) w) : wpList Tryz.prog ops Q (o :: rest) a w := by
  simp only [wpList, hgd, if_true]
  exact Or.inl (wp_load_row t p ho g hx _ cs _ d hg.blk hu (by cases d <;> first | rfl | cases hd) hi h)
/-- .. into this slot -/
theorem wpList_load_rw_d {Q : Exit → Act → World → Prop} (hgd : Region.wanted o (yielded ops a.tmps) = true) (k : Nat) (_hk : o.dst = some k) (t : TypeId) (p : Operand) (ho : o.op = .load t p) {g : Nat} (hx : a.eval p = .pointer (some ⟨g, 0, none⟩)) {t' : TypeId} {cs : Array Value} (hg : RwAt w g t' cs) {d : TypeDesc}
    (hd : d.isRow = true) (hu : Tryz.prog.underlying t = some d) (hi : (Tryz.prog.info? t).map (·.size) = some cs.size)
    (h : wpList Tryz.prog ops Q rest (a.put o.dst (.agg cs)) w) : wpList Tryz.prog ops Q (o :: rest) a w := wpList_load_rw_g hgd t p ho hx hg hd hu hi h
end
section
variable {w : World} {V : OV} {x : PO} {A : Nat → Addr}
theorem branches_of (op : Int) (t : Bool) (ht : brB op = t) (w : World) : Calls Tryz.prog 117 #[.int .i64 op] w fun e w' => e = .returned (.bool t) ∧ w.grownBy w' none :=
  (branches_any op w).mono fun _ _ ⟨he, hw⟩ => ⟨by rw [he, ht], by rw [← hw]; exact grown_refl _ _⟩
theorem far_of (op : Int) (t : Bool) (ht : farB op = t) (w : World) : Calls Tryz.prog 119 #[.int .i64 op] w fun e w' => e = .returned (.bool t) ∧ w.grownBy w' none :=
  (far_any op w).mono fun _ _ ⟨he, hw⟩ => ⟨by rw [he, ht], by rw [← hw]; exact grown_refl _ _⟩
set_option maxHeartbeats 1000000 in
theorem repairs_any (h : OAt w V x) (he : ErrC w A) (hf : OFit x) (hl : x.M.length = x.C.length) (y : Rl) (k j : Nat) (hk : y.s = k) (hks : k < x.S.length) (hj : y.a = j) (hjs : j < x.C.length) (z : Bool) (hz : repB x y = z) :
    Calls Tryz.prog 116 #[V.agg, y.agg] w fun e w' => e = .returned (.bool z) ∧ w.grownBy w' none := by
  obtain ⟨d, c, m, r, q, sv⟩ := V
  obtain ⟨a, kd, sm, ad⟩ := y
  obtain rfl : sm = (k : Int) := hk
  obtain rfl : a = (j : Int) := hj
  obtain ⟨⟨n, i, v, g⟩, hsy⟩ : ∃ sy, x.S[k]? = some sy := ⟨_, List.getElem?_eq_getElem hks⟩
  have hsn : symN x k = ⟨n, i, v, g⟩ := by unfold symN; rw [List.getD_eq_getElem?_getD, hsy]; rfl
  obtain ⟨mm, hm⟩ : ∃ mm, x.M[j]? = some mm := ⟨_, List.getElem?_eq_getElem (by omega)⟩
  have hmn : mapN x j = mm := by unfold mapN; rw [List.getD_eq_getElem?_getD, hm]; rfl
  have hz' : (if kd = 2 then brB (opN x j) && !(i == 1) else if mm = 2 then true else decide (opB x j = 14) || decide (opB x j = 15) || (farB (opB x j) && !(i == 1))) = z := by
    rw [← hz]; unfold repB toB; simp only [Int.toNat_natCast, hsn, hmn, Bool.beq_eq_decide_eq]
  obtain ⟨b, o, cp, hss, _, hb, hc⟩ := h.s.at_ (by omega)
  obtain rfl : sv = _ := hss
  obtain ⟨b2, o2, cp2, hms, hb2, hc2⟩ := h.m.at_ (by omega)
  obtain rfl : m = _ := hms
  obtain ⟨T, hT⟩ : ∃ T, (i == 1) = T := ⟨_, rfl⟩
  rw [hT] at hz'
  have Hz := hid hz'
  have HX := hid ((Bx.new h he 176 #[d, c, .slice (some ⟨b2, o2, none⟩) x.M.length cp2, r, q, .slice (some ⟨b, o, none⟩) x.S.length cp]).alloc (.cells #[.int .i64 j, .int .i64 kd, .int .i64 k, .int .i64 ad] 65))
  have HY := hid (RwAt.new2 w (.cells #[d, c, .slice (some ⟨b2, o2, none⟩) x.M.length cp2, r, q, .slice (some ⟨b, o, none⟩) x.S.length cp] 176) 65 #[.int .i64 j, .int .i64 kd, .int .i64 k, .int .i64 ad])
  have h4 := (SyAt.cells hc hsy).kept0 HX.out.g
  have hq := (grown_cell HX.out.g hb2 (by simp)).trans (hc2 j mm hm)
  have k0 : (0 : Int) ≤ (k : Int) := by omega
  have kn : (k : Int) < (x.S.length : Int) := by omega
  have j0 : (0 : Int) ≤ (j : Int) := by omega
  have jn : (j : Int) < (x.M.length : Int) := by omega
  have jl : (x.M.length : Int) ≤ 9223372036854775807 := by have := hf.l.2.2.1; unfold maxLen at this; omega
  have HP := hid (And.intro hf (And.intro hl hjs))
  clear h he hf hl hz hz' hc hc2 hsy hsn hm hmn hks hjs
  go_enter Tryz.func116, Tryz.ntmps116
  go_upto_region 1 with (fail)
  generalize (w.alloc (.cells #[d, c, .slice (some ⟨b2, o2, none⟩) x.M.length cp2, r, q, .slice (some ⟨b, o, none⟩) x.S.length cp] 176)).alloc (.cells #[.int .i64 j, .int .i64 kd, .int .i64 k, .int .i64 ad] 65) = w1 at HX HY h4 hq ⊢
  obtain ⟨B2, hB2⟩ : ∃ B2, w.heap.size + 1 = B2 := ⟨_, rfl⟩
  rw [hB2] at HY ⊢
  have f5 := HX.out.box.cell 5 rfl
  have f2 := HX.out.box.cell 2 rfl
  have g0 := HY.out.cell 0 rfl
  have g1 := HY.out.cell 1 rfl
  have g2 := HY.out.cell 2 rfl
  have e1 := h4.c1
  clear h4
  by_cases hk2 : kd = 2
  · have z2 : (kd == 2) = true := by simpa using hk2
    obtain ⟨op, Hop⟩ : ∃ op, Hid (opN x j = op) := ⟨_, hid rfl⟩
    have hz' := Hz.out
    rw [if_pos hk2, Hop.out] at hz'
    have HZ := hid hz'
    clear hz' Hz hk2
    go_wp2_with (first
      | (refine wpList_load_rw rfl 176 _ rfl rfl HX.out.box rfl Tryz.underlying176 info_object' ?_)
      | fail)
    refine (op_any HX.out.o HP.out.1 HP.out.2.1 j HP.out.2.2 op Hop.out).mono ?_
    rintro e w2 ⟨rfl, hg⟩
    have HX2 := hid (HX.out.kept0 hg)
    clear hg HX HY f5 f2 g0 g1 g2 e1 hq
    go_wp2_with fail
    cases hbr : brB op
    · have Hbr := hid hbr
      clear hbr
      refine (branches_of op false Hbr.out _).mono ?_
      rintro e w3 ⟨rfl, hg⟩
      have HX3 := hid (HX2.out.kept0 hg)
      clear hg HX2
      go_wp2
      go_ret
      exact ⟨ret_b (by rw [← HZ.out, Hbr.out]; rfl), HX3.out.g⟩
    · have Hbr := hid hbr
      clear hbr
      refine (branches_of op true Hbr.out _).mono ?_
      rintro e w3 ⟨rfl, hg⟩
      have HX3 := hid (HX2.out.kept0 hg)
      clear hg HX2
      go_wp2
      go_ret
      exact ⟨ret_b (by rw [← HZ.out, Hbr.out]; simp), HX3.out.g⟩
  · have z2 : (kd == 2) = false := by simpa using hk2
    have hz' := Hz.out
    rw [if_neg hk2] at hz'
    by_cases hm2 : mm = 2
    · have z3 : (mm == 2) = true := by simpa using hm2
      rw [if_pos hm2] at hz'
      have HZ := hid hz'
      clear hz' Hz hk2 hm2
      go_wp2
      go_ret
      exact ⟨ret_b HZ.out, HX.out.g⟩
    · have z3 : (mm == 2) = false := by simpa using hm2
      rw [if_neg hm2] at hz'
      obtain ⟨op, Hop⟩ : ∃ op, Hid (opB x j = op) := ⟨_, hid rfl⟩
      rw [Hop.out] at hz'
      have HZ := hid hz'
      clear hz' Hz hk2 hm2
      go_wp2_with (first
        | (refine wpList_load_rw rfl 176 _ rfl rfl HX.out.box rfl Tryz.underlying176 info_object' ?_)
        | fail)
      refine (opb_any HX.out.o HP.out.1 HP.out.2.1 j (Nat.le_of_lt HP.out.2.2) _ rfl op Hop.out).mono ?_
      rintro e w2 ⟨rfl, hg⟩
      have HX2 := hid (HX.out.kept0 hg)
      clear hg HX HY f5 f2 g0 g1 g2 e1 hq
      by_cases h14 : op = 14
      · have q14 : (op == 14) = true := by simpa using h14
        have H14 := hid h14
        clear h14
        go_wp2
        go_ret
        exact ⟨ret_b (by rw [← HZ.out]; simp [H14.out]), HX2.out.g⟩
      · have q14 : (op == 14) = false := by simpa using h14
        have H14 := hid h14
        clear h14
        by_cases h15 : op = 15
        · have q15 : (op == 15) = true := by simpa using h15
          have H15 := hid h15
          clear h15
          go_wp2
          go_ret
          exact ⟨ret_b (by rw [← HZ.out]; simp [H15.out]), HX2.out.g⟩
        · have q15 : (op == 15) = false := by simpa using h15
          have H15 := hid h15
          clear h15
          go_wp2_with fail
          cases hfr : farB op
          · have Hfr := hid hfr
            clear hfr
            refine (far_of op false Hfr.out _).mono ?_
            rintro e w3 ⟨rfl, hg⟩
            have HX3 := hid (HX2.out.kept0 hg)
            clear hg HX2
            go_wp2
            go_ret
            exact ⟨ret_b (by rw [← HZ.out, Hfr.out]; simp [H14.out, H15.out]), HX3.out.g⟩
          · have Hfr := hid hfr
            clear hfr
            refine (far_of op true Hfr.out _).mono ?_
            rintro e w3 ⟨rfl, hg⟩
            have HX3 := hid (HX2.out.kept0 hg)
            clear hg HX2
            go_wp2
            go_ret
            exact ⟨ret_b (by rw [← HZ.out, Hfr.out]; simp [H14.out, H15.out]), HX3.out.g⟩
end
end Go.Proofs.YtnpnafidhcnkhaaGreatDoor
namespace Go.Proofs.YtnpnafidhcnkhaaGreatDoor
open Go.RowKit
theorem in_parts {x : PO} {l : List Rl} {k : Nat} {n : Int} (h : inB x l k n = true) {y : Rl} (hy : l[k]? = some y) : ∃ i j : Nat, y.s = i ∧ i < x.S.length ∧ y.a = j ∧ (j : Int) < n := by
  have hyn : rlN l k = y := by unfold rlN; rw [List.getD_eq_getElem?_getD, hy]; rfl
  unfold inB at h
  rw [hyn] at h
  have h := of_decide_eq_true h
  exact ⟨y.s.toNat, y.a.toNat, by omega, by omega, by omega, by omega⟩
section
variable {w : World} {V : OV} {x : PO} {A : Nat → Addr}
set_option maxHeartbeats 2000000 in
theorem dataReloc_any (h : OAt w V x) (he : ErrC w A) (hf : OFit x) (hl : x.M.length = x.C.length) (k : Nat) (hk : k < x.R.length) (rr : Option Nat) (hr : dataF x k = rr) :
    Calls Tryz.prog 96 #[V.agg, .int .i64 k] w fun e w' => e = .returned (evV A rr) ∧ w.grownBy w' none := by
  obtain ⟨d, c, m, r, q, sv⟩ := V
  obtain ⟨⟨a, kd, sm, ad⟩, hy⟩ : ∃ y, x.R[k]? = some y := ⟨_, List.getElem?_eq_getElem hk⟩
  have hyn : rlN x.R k = ⟨a, kd, sm, ad⟩ := by unfold rlN; rw [List.getD_eq_getElem?_getD, hy]; rfl
  obtain ⟨pw, cw, hw⟩ := h.d.len'
  obtain rfl : d = _ := hw
  obtain ⟨b, o, cp, hv, _, hb, hc⟩ := h.r.at_ (by omega)
  obtain rfl : r = _ := hv
  have HX := hid (Bx.new h he 176 #[.slice pw x.D.length cw, c, m, .slice (some ⟨b, o, none⟩) x.R.length cp, q, sv])
  have h4 := (RlAt.cells hc hy).kept0 HX.out.g
  have k0 : (0 : Int) ≤ (k : Int) := by omega
  have kn : (k : Int) < (x.R.length : Int) := by omega
  have HP := hid (And.intro hf (And.intro hl (And.intro hk (And.intro hf.l.2.2.2.1 hy))))
  obtain ⟨T, hT⟩ : ∃ T, inB x x.R k x.D.length = T := ⟨_, rfl⟩
  have HT := hid hT
  unfold dataF at hr
  rw [hyn, hT] at hr
  have HR := hid hr
  clear h he hf hl hc hr hT hyn hk hy
  go_enter Tryz.func96, Tryz.ntmps96
  go_upto_region 1 with (fail)
  generalize w.alloc (.cells #[.slice pw x.D.length cw, c, m, .slice (some ⟨b, o, none⟩) x.R.length cp, q, sv] 176) = w1 at HX h4 ⊢
  have f3 := HX.out.box.cell 3 rfl
  have e0 := h4.c0
  have e1 := h4.c1
  have e2 := h4.c2
  have e3 := h4.c3
  clear h4
  go_upto_region 2 with (fail)
  have HX2 := hid (HX.out.alloc (.cells #[.int .i64 a, .int .i64 kd, .int .i64 sm, .int .i64 ad] 65))
  have HY := hid (RwAt.new w1 65 #[.int .i64 a, .int .i64 kd, .int .i64 sm, .int .i64 ad])
  obtain ⟨B, hB⟩ : ∃ B, w1.heap.size = B := ⟨_, rfl⟩
  rw [hB] at HY ⊢
  clear f3 e0 e1 e2 e3 HX
  generalize w1.alloc (.cells #[.int .i64 a, .int .i64 kd, .int .i64 sm, .int .i64 ad] 65) = w2 at HX2 HY ⊢
  have f3 := HX2.out.box.cell 3 rfl
  have f0 := HX2.out.box.cell 0 rfl
  go_wp2_with (first
    | (refine wpList_load_rw rfl 176 _ rfl rfl HX2.out.box rfl Tryz.underlying176 info_object' ?_)
    | fail)
  refine (range_any HX2.out.o HX2.out.o.r k HP.out.2.2.1 HP.out.2.2.2.1 _ T HT.out).mono ?_
  rintro e w3 ⟨rfl, hg⟩
  have HX3 := hid (HX2.out.kept0 hg)
  have HY3 := hid (HY.out.kept0 hg)
  clear hg HX2 HY f3 f0
  have g1 := HY3.out.cell 1 rfl
  cases T
  · have e2 := HX3.out.e.c2
    unfold errV at e2
    go_wp2
    go_ret
    exact ⟨by rw [← HR.out]; rfl, HX3.out.g⟩
  · by_cases hk1 : kd = 1
    · have z1 : (kd != 1) = false := by simpa using hk1
      have hr' := HR.out
      have HZ := hid hr'
      clear hr'
      obtain ⟨i, j, hi, his, hj, hjs⟩ := in_parts HT.out HP.out.2.2.2.2
      have HI := hid (And.intro hi (And.intro his (And.intro hj hjs)))
      have HN := hid (show ¬(true = false ∨ kd ≠ 1) by simp; omega)
      clear hi his hj hjs hk1
      go_wp2_with (first
        | (refine wpList_load_rw rfl 176 _ rfl rfl HX3.out.box rfl Tryz.underlying176 info_object' ?_)
        | (refine wpList_load_rw rfl 65 _ rfl rfl HY3.out rfl Tryz.underlying65 info_rel ?_)
        | fail)
      obtain ⟨U, HU⟩ : ∃ U, Hid (outB x ⟨a, kd, sm, ad⟩ = U) := ⟨_, hid rfl⟩
      refine (adds_any HX3.out.o ⟨a, kd, sm, ad⟩ i HI.out.1 HI.out.2.1 U HU.out).mono ?_
      rintro e w9 ⟨rfl, hg⟩
      have HX9 := hid (HX3.out.kept0 hg)
      clear hg
      cases U
      · go_wp2
        go_ret
        exact ⟨by rw [← HZ.out, if_neg HN.out, HU.out]; simp <;> rfl, HX9.out.g⟩
      · have e1 := HX9.out.e.c1
        unfold errV at e1
        go_wp2
        go_ret
        exact ⟨by rw [← HZ.out, if_neg HN.out, HU.out]; simp <;> rfl, HX9.out.g⟩
    · have z1 : (kd != 1) = true := by simpa using hk1
      have HK := hid hk1
      have e2 := HX3.out.e.c2
      unfold errV at e2
      clear hk1
      go_wp2
      go_ret
      exact ⟨by rw [← HR.out]; simp [HK.out] <;> rfl, HX3.out.g⟩
set_option maxHeartbeats 2000000 in
theorem codeReloc_any (h : OAt w V x) (he : ErrC w A) (hf : OFit x) (hl : x.M.length = x.C.length) (k : Nat) (hk : k < x.Q.length) (rr : Option Nat) (hr : codeF x k = rr) :
    Calls Tryz.prog 97 #[V.agg, .int .i64 k] w fun e w' => e = .returned (evV A rr) ∧ w.grownBy w' none := by
  obtain ⟨d, c, m, r, q, sv⟩ := V
  obtain ⟨⟨a, kd, sm, ad⟩, hy⟩ : ∃ y, x.Q[k]? = some y := ⟨_, List.getElem?_eq_getElem hk⟩
  have hyn : rlN x.Q k = ⟨a, kd, sm, ad⟩ := by unfold rlN; rw [List.getD_eq_getElem?_getD, hy]; rfl
  obtain ⟨pw, cw, hw⟩ := h.c.len'
  obtain rfl : c = _ := hw
  obtain ⟨b, o, cp, hv, _, hb, hc⟩ := h.q.at_ (by omega)
  obtain rfl : q = _ := hv
  have HX := hid (Bx.new h he 176 #[d, .slice pw x.C.length cw, m, r, .slice (some ⟨b, o, none⟩) x.Q.length cp, sv])
  have h4 := (RlAt.cells hc hy).kept0 HX.out.g
  have k0 : (0 : Int) ≤ (k : Int) := by omega
  have kn : (k : Int) < (x.Q.length : Int) := by omega
  have HP := hid (And.intro hf (And.intro hl (And.intro hk (And.intro hf.l.2.2.2.2.1 hy))))
  obtain ⟨T, hT⟩ : ∃ T, inB x x.Q k x.C.length = T := ⟨_, rfl⟩
  have HT := hid hT
  unfold codeF at hr
  rw [hyn, hT] at hr
  have HR := hid hr
  clear h he hf hl hc hr hT hyn hk hy
  go_enter Tryz.func97, Tryz.ntmps97
  go_upto_region 1 with (fail)
  generalize w.alloc (.cells #[d, .slice pw x.C.length cw, m, r, .slice (some ⟨b, o, none⟩) x.Q.length cp, sv] 176) = w1 at HX h4 ⊢
  have f4 := HX.out.box.cell 4 rfl
  have e0 := h4.c0
  have e1 := h4.c1
  have e2 := h4.c2
  have e3 := h4.c3
  clear h4
  go_upto_region 2 with (fail)
  have HX2 := hid (HX.out.alloc (.cells #[.int .i64 a, .int .i64 kd, .int .i64 sm, .int .i64 ad] 65))
  have HY := hid (RwAt.new w1 65 #[.int .i64 a, .int .i64 kd, .int .i64 sm, .int .i64 ad])
  obtain ⟨B, hB⟩ : ∃ B, w1.heap.size = B := ⟨_, rfl⟩
  rw [hB] at HY ⊢
  clear f4 e0 e1 e2 e3 HX
  generalize w1.alloc (.cells #[.int .i64 a, .int .i64 kd, .int .i64 sm, .int .i64 ad] 65) = w2 at HX2 HY ⊢
  have f4 := HX2.out.box.cell 4 rfl
  have f1 := HX2.out.box.cell 1 rfl
  go_wp2_with (first
    | (refine wpList_load_rw rfl 176 _ rfl rfl HX2.out.box rfl Tryz.underlying176 info_object' ?_)
    | fail)
  refine (range_any HX2.out.o HX2.out.o.q k HP.out.2.2.1 HP.out.2.2.2.1 _ T HT.out).mono ?_
  rintro e w3 ⟨rfl, hg⟩
  have HX3 := hid (HX2.out.kept0 hg)
  have HY3 := hid (HY.out.kept0 hg)
  clear hg HX2 HY f4 f1
  have g1 := HY3.out.cell 1 rfl
  cases T
  · have e2 := HX3.out.e.c2
    unfold errV at e2
    go_wp2
    go_ret
    exact ⟨by rw [← HR.out]; rfl, HX3.out.g⟩
  · by_cases hk1 : kd = 1 ∨ kd = 2
    · have z1 : (kd != 1) = false ∨ ((kd != 1) = true ∧ (kd != 2) = false) := by rcases hk1 with h | h <;> simp [h]
      rcases z1 with z1 | ⟨z1, z2⟩
      · have hr' := HR.out
        have HZ := hid hr'
        clear hr'
        obtain ⟨i, j, hi, his, hj, hjs⟩ := in_parts HT.out HP.out.2.2.2.2
        have HI := hid (And.intro hi (And.intro his (And.intro hj hjs)))
        have HN := hid (show ¬(true = false ∨ (kd ≠ 1 ∧ kd ≠ 2)) by simp; omega)
        clear hi his hj hjs hk1
        go_wp2_with (first
          | (refine wpList_load_rw rfl 176 _ rfl rfl HX3.out.box rfl Tryz.underlying176 info_object' ?_)
          | (refine wpList_load_rw rfl 65 _ rfl rfl HY3.out rfl Tryz.underlying65 info_rel ?_)
          | fail)
        obtain ⟨Z, HZZ⟩ : ∃ Z, Hid (repB x ⟨a, kd, sm, ad⟩ = Z) := ⟨_, hid rfl⟩
        refine (repairs_any HX3.out.o HX3.out.e HP.out.1 HP.out.2.1 ⟨a, kd, sm, ad⟩ i j HI.out.1 HI.out.2.1 HI.out.2.2.1 (by have := HI.out.2.2.2; omega) Z HZZ.out).mono ?_
        rintro e w4 ⟨rfl, hg⟩
        have HX4 := hid (HX3.out.kept0 hg)
        have HY4 := hid (HY3.out.kept0 hg)
        clear hg HX3 HY3 g1
        cases Z
        · have e1 := HX4.out.e.c1
          unfold errV at e1
          go_wp2
          go_ret
          exact ⟨by rw [← HZ.out, if_neg HN.out, HZZ.out]; simp <;> rfl, HX4.out.g⟩
        · go_wp2_with (first
            | (refine wpList_load_rw rfl 176 _ rfl rfl HX4.out.box rfl Tryz.underlying176 info_object' ?_)
            | (refine wpList_load_rw_g ?_ 176 _ rfl rfl HX4.out.box rfl Tryz.underlying176 info_object' ?_; (kernel_rfl))
            | (refine wpList_load_rw_g ?_ 65 _ rfl rfl HY4.out rfl Tryz.underlying65 info_rel ?_; (kernel_rfl))
            | fail)
          obtain ⟨U, HU⟩ : ∃ U, Hid (outB x ⟨a, kd, sm, ad⟩ = U) := ⟨_, hid rfl⟩
          refine (adds_any HX4.out.o ⟨a, kd, sm, ad⟩ i HI.out.1 HI.out.2.1 U HU.out).mono ?_
          rintro e w9 ⟨rfl, hg⟩
          have HX9 := hid (HX4.out.kept0 hg)
          clear hg
          cases U
          · go_wp2
            go_ret
            exact ⟨by rw [← HZ.out, if_neg HN.out, HU.out, HZZ.out]; simp <;> rfl, HX9.out.g⟩
          · have e1 := HX9.out.e.c1
            unfold errV at e1
            go_wp2
            go_ret
            exact ⟨by rw [← HZ.out, if_neg HN.out, HU.out, HZZ.out]; simp <;> rfl, HX9.out.g⟩
      · have hr' := HR.out
        have HZ := hid hr'
        clear hr'
        obtain ⟨i, j, hi, his, hj, hjs⟩ := in_parts HT.out HP.out.2.2.2.2
        have HI := hid (And.intro hi (And.intro his (And.intro hj hjs)))
        have HN := hid (show ¬(true = false ∨ (kd ≠ 1 ∧ kd ≠ 2)) by simp; omega)
        clear hi his hj hjs hk1
        go_wp2_with (first
          | (refine wpList_load_rw rfl 176 _ rfl rfl HX3.out.box rfl Tryz.underlying176 info_object' ?_)
          | (refine wpList_load_rw rfl 65 _ rfl rfl HY3.out rfl Tryz.underlying65 info_rel ?_)
          | fail)
        obtain ⟨Z, HZZ⟩ : ∃ Z, Hid (repB x ⟨a, kd, sm, ad⟩ = Z) := ⟨_, hid rfl⟩
        refine (repairs_any HX3.out.o HX3.out.e HP.out.1 HP.out.2.1 ⟨a, kd, sm, ad⟩ i j HI.out.1 HI.out.2.1 HI.out.2.2.1 (by have := HI.out.2.2.2; omega) Z HZZ.out).mono ?_
        rintro e w4 ⟨rfl, hg⟩
        have HX4 := hid (HX3.out.kept0 hg)
        have HY4 := hid (HY3.out.kept0 hg)
        clear hg HX3 HY3 g1
        cases Z
        · have e1 := HX4.out.e.c1
          unfold errV at e1
          go_wp2
          go_ret
          exact ⟨by rw [← HZ.out, if_neg HN.out, HZZ.out]; simp <;> rfl, HX4.out.g⟩
        · go_wp2_with (first
            | (refine wpList_load_rw rfl 176 _ rfl rfl HX4.out.box rfl Tryz.underlying176 info_object' ?_)
            | (refine wpList_load_rw_g ?_ 176 _ rfl rfl HX4.out.box rfl Tryz.underlying176 info_object' ?_; (kernel_rfl))
            | (refine wpList_load_rw_g ?_ 65 _ rfl rfl HY4.out rfl Tryz.underlying65 info_rel ?_; (kernel_rfl))
            | fail)
          obtain ⟨U, HU⟩ : ∃ U, Hid (outB x ⟨a, kd, sm, ad⟩ = U) := ⟨_, hid rfl⟩
          refine (adds_any HX4.out.o ⟨a, kd, sm, ad⟩ i HI.out.1 HI.out.2.1 U HU.out).mono ?_
          rintro e w9 ⟨rfl, hg⟩
          have HX9 := hid (HX4.out.kept0 hg)
          clear hg
          cases U
          · go_wp2
            go_ret
            exact ⟨by rw [← HZ.out, if_neg HN.out, HU.out, HZZ.out]; simp <;> rfl, HX9.out.g⟩
          · have e1 := HX9.out.e.c1
            unfold errV at e1
            go_wp2
            go_ret
            exact ⟨by rw [← HZ.out, if_neg HN.out, HU.out, HZZ.out]; simp <;> rfl, HX9.out.g⟩
    · have z1 : (kd != 1) = true := by simp; intro h; exact hk1 (.inl h)
      have z2 : (kd != 2) = true := by simp; intro h; exact hk1 (.inr h)
      have HK := hid (not_or.1 hk1)
      have e2 := HX3.out.e.c2
      unfold errV at e2
      clear hk1
      go_wp2
      go_ret
      exact ⟨by rw [← HR.out]; simp [HK.out] <;> rfl, HX3.out.g⟩
end
end Go.Proofs.YtnpnafidhcnkhaaGreatDoor
namespace Go.Proofs.YtnpnafidhcnkhaaGreatDoor
open Go.RowKit
def cmpI (a b : Int) : Int := if a < b then -1 else if b < a then 1 else 0
theorem nan_any (a : Int) (w : World) : Calls Tryz.prog 128 #[.int .i64 a] w fun e w' => e = .returned (.bool false) ∧ w = w' := by
  go_enter Tryz.func128, Tryz.ntmps128
  go_wp2
  go_ret
  exact ⟨ret_b (by simp), rfl⟩
theorem compare_any (a b : Int) (w : World) : Calls Tryz.prog 127 #[.int .i64 a, .int .i64 b] w fun e w' => e = .returned (.int .i64 (cmpI a b)) ∧ w = w' := by
  have h1 := nan_any a
  have h2 := nan_any b
  unfold cmpI
  by_cases hl : a < b
  · rw [if_pos hl]
    go_enter Tryz.func127, Tryz.ntmps127
    go_wp2_with fail
    refine (nan_any a _).mono ?_; rintro e w' ⟨rfl, rfl⟩
    go_wp2_with fail
    refine (nan_any b _).mono ?_; rintro e w' ⟨rfl, rfl⟩
    go_wp2
    go_ret
    exact ⟨rfl, rfl⟩
  · rw [if_neg hl]
    by_cases hg : b < a
    · rw [if_pos hg]
      have hg' : a > b := hg
      go_enter Tryz.func127, Tryz.ntmps127
      go_wp2_with fail
      refine (nan_any a _).mono ?_; rintro e w' ⟨rfl, rfl⟩
      go_wp2_with fail
      refine (nan_any b _).mono ?_; rintro e w' ⟨rfl, rfl⟩
      go_wp2
      go_ret
      exact ⟨rfl, rfl⟩
    · rw [if_neg hg]
      obtain rfl : a = b := by omega
      have hg' : ¬ a > a := hg
      go_enter Tryz.func127, Tryz.ntmps127
      go_wp2_with fail
      refine (nan_any a _).mono ?_; rintro e w' ⟨rfl, rfl⟩
      go_wp2_with fail
      refine (nan_any a _).mono ?_; rintro e w' ⟨rfl, rfl⟩
      go_wp2
      go_ret
      exact ⟨rfl, rfl⟩
theorem cmpr_any (y : Rl) (b : Int) (c : Int) (hc : cmpI y.a b = c) (w : World) : Calls Tryz.prog 126 #[y.agg, .int .i64 b] w fun e w' => e = .returned (.int .i64 c) ∧ w.grownBy w' none := by
  obtain ⟨a, kd, sm, ad⟩ := y
  have HG := hid (World.grownBy_alloc w (.cells #[.int .i64 a, .int .i64 kd, .int .i64 sm, .int .i64 ad] 65) none)
  have HC : Hid (cmpI a b = c) := hid hc
  clear hc
  go_enter Tryz.func126, Tryz.ntmps126
  go_wp2_with fail
  refine (compare_any a b _).mono ?_; rintro e w' ⟨rfl, rfl⟩
  go_wp2
  go_ret
  exact ⟨ret_i HC.out, HG.out⟩
/-- places that rise -/
def Rising (l : List Rl) : Prop := ∀ i j, i < j → j < l.length → (rlN l i).a < (rlN l j).a
def FoundAt (w : World) (z : Bool) (e : Ending) (w' : World) : Prop := ∃ i : Int, e = .returned (.tuple #[.int .i64 i, .bool z]) ∧ w.grownBy w' none
theorem hasRB_of {x : PO} {k : Int} (hr : Rising x.Q) {i : Nat} (hi : i ≤ x.Q.length) (h1 : ∀ t, t < i → (rlN x.Q t).a < k) (h2 : ∀ t, i ≤ t → t < x.Q.length → k ≤ (rlN x.Q t).a) : hasRB x k = (decide (i < x.Q.length) && decide ((rlN x.Q i).a = k)) := by
  have hn : ∀ t, t < x.Q.length → x.Q[t]? = some (rlN x.Q t) := fun t ht => by unfold rlN; rw [List.getD_eq_getElem?_getD, List.getElem?_eq_getElem ht]; rfl
  rw [Bool.eq_iff_iff]
  unfold hasRB
  simp only [List.any_eq_true, decide_eq_true_eq, Bool.and_eq_true]
  constructor
  · rintro ⟨r, hm, rfl⟩
    obtain ⟨t, ht, hte⟩ := List.getElem_of_mem hm
    have e : rlN x.Q t = r := by have := hn t ht; rw [List.getElem?_eq_getElem ht, hte] at this; exact (Option.some.inj this).symm
    by_cases hti : t < i
    · have := h1 t hti; rw [e] at this; omega
    · by_cases hei : t = i
      · subst hei; exact ⟨ht, by rw [e]⟩
      · have a1 := h2 i (Nat.le_refl _) (by omega)
        have a2 := hr i t (by omega) ht
        rw [e] at a2
        omega
  · rintro ⟨hi2, he⟩
    exact ⟨_, List.mem_of_getElem? (hn i hi2), he⟩
set_option maxHeartbeats 2000000 in
theorem search_any {w : World} {x : PO} {v : Value} (h : RlAt w v x.Q) (hl : x.Q.length ≤ 1024) (hr : Rising x.Q) (k : Int) (z : Bool) (hz : hasRB x k = z) :
    Calls Tryz.prog 125 #[v, .int .i64 k, .func (.func 126) #[] #[]] w (FoundAt w z) := by
  obtain ⟨p, c, rfl⟩ := h.len
  have H := hid h
  have Hz := hid hz
  have Hr := hid hr
  obtain ⟨N, hN⟩ : ∃ N, x.Q.length = N := ⟨_, rfl⟩
  rw [hN] at hl
  rw [hN]
  have HN := hid hN
  clear h hz hr hN
  go_enter Tryz.func125, Tryz.ntmps125
  go_wp2
  go_loopw [9, 10] (fun a b wr => ∃ i j : Nat, a = .int .i64 i ∧ b = .int .i64 j ∧ i ≤ j ∧ j ≤ N ∧ Hid (w.grownBy wr none ∧ (∀ t, t < i → (rlN x.Q t).a < k) ∧ (∀ t, j ≤ t → t < N → k ≤ (rlN x.Q t).a))) (fun a b _ => (intOf b).toNat - (intOf a).toNat)
  case atStart => exact ⟨0, N, rfl, rfl, Nat.zero_le _, Nat.le_refl _, hid ⟨grown_refl _ _, fun t ht => by omega, fun t h1 h2 => by omega⟩⟩
  case round =>
    obtain ⟨i, j, rfl, rfl, hij, hjN, HR⟩ := hrel
    have i0 : (0 : Int) ≤ (i : Int) := by omega
    have j0 : (0 : Int) ≤ (j : Int) := by omega
    have j1 : (j : Int) ≤ 1024 := by omega
    by_cases hlt : i < j
    · have hl' : (i : Int) < (j : Int) := by omega
      obtain ⟨m, hm⟩ : ∃ m : Nat, ((i : Int) + (j : Int)) / 2 = (m : Int) := ⟨(i + j) / 2, by omega⟩
      have hmi : i ≤ m := by omega
      have hmj : m < j := by omega
      have m0 : (0 : Int) ≤ (m : Int) := by omega
      have mN : (m : Int) < (N : Int) := by omega
      obtain ⟨y, hy⟩ : ∃ y, x.Q[m]? = some y := ⟨_, List.getElem?_eq_getElem (by rw [HN.out]; omega)⟩
      have hyn : rlN x.Q m = y := by unfold rlN; rw [List.getD_eq_getElem?_getD, hy]; rfl
      obtain ⟨b, o, c', hv, _, hb, hc⟩ := H.out.at_ (by rw [HN.out]; omega)
      obtain ⟨rfl, rfl⟩ : p = some ⟨b, o, none⟩ ∧ c = c' := by simpa using hv
      have h4 := (RlAt.cells hc hy).kept0 HR.out.1
      have e0 := h4.c0
      have e1 := h4.c1
      have e2 := h4.c2
      have e3 := h4.c3
      have Hyn := hid hyn
      clear hc h4 hy hv hb hyn
      obtain ⟨q, hq⟩ : ∃ q, cmpI y.a k = q := ⟨_, rfl⟩
      have Hq := hid hq
      by_cases hqn : q < 0
      · clear hq
        go_wp2_with fail
        refine (cmpr_any y k q Hq.out _).mono ?_
        rintro e w2 ⟨rfl, hg⟩
        have HG2 := hid (grown_trans HR.out.1 hg)
        clear hg
        have Hqn := hid hqn
        go_wp2
        go_roundw
        case rel =>
          refine ⟨m + 1, j, by go_num, rfl, by omega, hjN, hid ⟨HG2.out, fun t ht => ?_, HR.out.2.2⟩⟩
          have hya : y.a < k := by have h1 := Hq.out; have h2 := Hqn.out; unfold cmpI at h1; split at h1 <;> (try split at h1) <;> omega
          by_cases e : t = m
          · rw [e, Hyn.out]; exact hya
          · have := Hr.out t m (by omega) (by rw [HN.out]; omega)
            rw [Hyn.out] at this
            omega
        case measure => simp [intOf]; omega
      · clear hq
        go_wp2_with fail
        refine (cmpr_any y k q Hq.out _).mono ?_
        rintro e w2 ⟨rfl, hg⟩
        have HG2 := hid (grown_trans HR.out.1 hg)
        clear hg
        have Hqn := hid hqn
        go_wp2
        go_roundw
        case rel =>
          refine ⟨i, m, rfl, rfl, hmi, by omega, hid ⟨HG2.out, HR.out.2.1, fun t ht ht2 => ?_⟩⟩
          have hya : k ≤ y.a := by have h1 := Hq.out; have h2 := Hqn.out; unfold cmpI at h1; split at h1 <;> (try split at h1) <;> omega
          by_cases e : t = m
          · rw [e, Hyn.out]; exact hya
          · have := Hr.out m t (by omega) (by rw [HN.out]; omega)
            rw [Hyn.out] at this
            omega
        case measure => simp [intOf]; omega
    · obtain rfl : i = j := by omega
      have hf := hasRB_of Hr.out (by rw [HN.out]; exact hjN) HR.out.2.1 (by rw [HN.out]; exact HR.out.2.2)
      rw [Hz.out, HN.out] at hf
      clear hlt
      by_cases hiN : i < N
      · have hiN' : (i : Int) < (N : Int) := by omega
        obtain ⟨y, hy⟩ : ∃ y, x.Q[i]? = some y := ⟨_, List.getElem?_eq_getElem (by rw [HN.out]; omega)⟩
        have hyn : rlN x.Q i = y := by unfold rlN; rw [List.getD_eq_getElem?_getD, hy]; rfl
        obtain ⟨b, o, c', hv, _, hb, hc⟩ := H.out.at_ (by rw [HN.out]; omega)
        obtain ⟨rfl, rfl⟩ : p = some ⟨b, o, none⟩ ∧ c = c' := by simpa using hv
        have h4 := (RlAt.cells hc hy).kept0 HR.out.1
        have e0 := h4.c0
        have e1 := h4.c1
        have e2 := h4.c2
        have e3 := h4.c3
        rw [hyn] at hf
        obtain ⟨q, hq⟩ : ∃ q, cmpI y.a k = q := ⟨_, rfl⟩
        have Hq := hid hq
        have Hf : Hid ((q == 0) = z) := hid (by
          rw [hf, ← hq, Bool.eq_iff_iff]
          unfold cmpI
          simp only [beq_iff_eq, hiN, decide_true, Bool.true_and, decide_eq_true_eq]
          split <;> (try split) <;> omega)
        clear hc h4 hy hv hb hyn hf hq
        go_wp2_with fail
        refine (cmpr_any y k q Hq.out _).mono ?_
        rintro e w2 ⟨rfl, hg⟩
        have HG2 := hid (grown_trans HR.out.1 hg)
        clear hg
        go_wp2
        go_ret2
        exact ⟨(i : Int), by rw [← Hf.out]; rfl, HG2.out⟩
      · obtain rfl : i = N := by omega
        have Hf : Hid (z = false) := hid (by rw [hf]; simp)
        clear hf hiN
        go_wp2
        go_ret2
        exact ⟨(i : Int), by rw [Hf.out]; rfl, HR.out.1⟩
end Go.Proofs.YtnpnafidhcnkhaaGreatDoor
namespace Go.Proofs.YtnpnafidhcnkhaaGreatDoor
open Go.RowKit
section
variable {w : World} {V : OV} {x : PO} {A : Nat → Addr}
theorem has_any9 (h : OAt w V x) (hl : x.Q.length ≤ 1024) (hr : Rising x.Q) (k : Int) (z : Bool) (hz : hasRB x k = z) :
    Calls Tryz.prog 118 #[V.agg, .int .i64 k] w fun e w' => e = .returned (.bool z) ∧ w.grownBy w' none := by
  obtain ⟨d, c, m, r, q, sv⟩ := V
  have HG := hid (World.grownBy_alloc w (.cells #[d, c, m, r, q, sv] 176) none)
  have Hs := hid (search_any (h.kept0 HG.out).q hl hr k z hz)
  clear h hl hr hz
  go_enter Tryz.func118, Tryz.ntmps118
  go_wp2_with fail
  refine Hs.out.mono ?_
  rintro e w2 ⟨i, rfl, hg⟩
  have HG2 := hid (grown_trans HG.out hg)
  clear hg
  go_wp2
  go_ret
  exact ⟨rfl, HG2.out⟩
set_option maxHeartbeats 2000000 in
theorem unrep_any (h : OAt w V x) (he : ErrC w A) (hf : OFit x) (hl : x.M.length = x.C.length) (hq : x.Q.length ≤ 1024) (hr : Rising x.Q) (k : Nat) (hk : k < x.C.length) (rr : Option Nat) (hz : unrF x k = rr) :
    Calls Tryz.prog 98 #[V.agg, .int .i64 k] w fun e w' => e = .returned (evV A rr) ∧ w.grownBy w' none := by
  obtain ⟨d, c, m, r, q, sv⟩ := V
  have HX := hid (Bx.new h he 176 #[d, c, m, r, q, sv])
  obtain ⟨op, Hop⟩ : ∃ op, Hid (opN x k = op) := ⟨_, hid rfl⟩
  obtain ⟨T1, H1⟩ : ∃ T, Hid (brB op = T) := ⟨_, hid rfl⟩
  obtain ⟨T2, H2⟩ : ∃ T, Hid (hasRB x k = T) := ⟨_, hid rfl⟩
  obtain ⟨T3, h3⟩ : ∃ T, (op == 15) = T := ⟨_, rfl⟩
  obtain ⟨T4, H4⟩ : ∃ T, Hid (farB op = T) := ⟨_, hid rfl⟩
  obtain ⟨T5, H5⟩ : ∃ T, Hid (hasRB x ((k : Int) + 1) = T) := ⟨_, hid rfl⟩
  have hz' : (if (T1 = true ∧ T2 = false) ∨ ((T3 = true ∨ T4 = true) ∧ T5 = false) then some 6 else none) = rr := by
    rw [← hz]
    unfold unrF
    rw [Hop.out, H1.out, H2.out, H4.out, ← h3, show ((k + 1 : Nat) : Int) = (k : Int) + 1 by omega, H5.out]
    simp only [beq_iff_eq]
  have HZ := hid hz'
  have HP := hid (And.intro hf (And.intro hl (And.intro hk (And.intro hq hr))))
  have k0 : (0 : Int) ≤ (k : Int) := by omega
  have kl : (k : Int) + 1 ≤ 9223372036854775807 := by have := hf.l.2.1; unfold maxLen at this; omega
  clear h he hf hl hk hq hr hz hz'
  go_enter Tryz.func98, Tryz.ntmps98
  go_upto_region 1 with (fail)
  generalize w.alloc (.cells #[d, c, m, r, q, sv] 176) = w1 at HX ⊢
  go_wp2_with (first
    | (refine wpList_load_rw rfl 176 _ rfl rfl HX.out.box rfl Tryz.underlying176 info_object' ?_)
    | fail)
  refine (op_any HX.out.o HP.out.1 HP.out.2.1 k HP.out.2.2.1 op Hop.out).mono ?_
  rintro e w2 ⟨rfl, hg⟩
  have HX0 := hid (HX.out.kept0 hg)
  clear hg HX
  go_wp2_with fail
  refine (branches_of op T1 H1.out _).mono ?_
  rintro e w3 ⟨rfl, hg⟩
  have HX := hid (HX0.out.kept0 hg)
  clear hg HX0
  cases T1
  · cases T3
    · go_wp2_with fail
      refine (far_of op T4 H4.out _).mono ?_
      rintro e w11 ⟨rfl, hg⟩
      have HX11 := hid (HX.out.kept0 hg)
      clear hg
      cases T4
      · go_wp2
        go_ret
        exact ⟨by rw [← HZ.out]; simp <;> rfl, HX11.out.g⟩
      · go_wp2_with (first
          | (refine wpList_load_rw_d ?_ 25 rfl 176 _ rfl rfl HX11.out.box rfl Tryz.underlying176 info_object' ?_; (kernel_rfl))
          | fail)
        refine (has_any9 HX11.out.o HP.out.2.2.2.1 HP.out.2.2.2.2 ((k : Int) + 1) T5 H5.out).mono ?_
        rintro e w12 ⟨rfl, hg⟩
        have HX12 := hid (HX11.out.kept0 hg)
        clear hg
        cases T5
        · have e6 := HX12.out.e.c6
          unfold errV at e6
          go_wp2
          go_ret
          exact ⟨by rw [← HZ.out]; simp <;> rfl, HX12.out.g⟩
        · go_wp2
          go_ret
          exact ⟨by rw [← HZ.out]; simp <;> rfl, HX12.out.g⟩
    · go_wp2_with (first
        | (refine wpList_load_rw_d ?_ 25 rfl 176 _ rfl rfl HX.out.box rfl Tryz.underlying176 info_object' ?_; (kernel_rfl))
        | fail)
      refine (has_any9 HX.out.o HP.out.2.2.2.1 HP.out.2.2.2.2 ((k : Int) + 1) T5 H5.out).mono ?_
      rintro e w13 ⟨rfl, hg⟩
      have HX13 := hid (HX.out.kept0 hg)
      clear hg
      cases T5
      · have e6 := HX13.out.e.c6
        unfold errV at e6
        go_wp2
        go_ret
        exact ⟨by rw [← HZ.out]; simp <;> rfl, HX13.out.g⟩
      · go_wp2
        go_ret
        exact ⟨by rw [← HZ.out]; simp <;> rfl, HX13.out.g⟩
  · go_wp2_with (first
      | (refine wpList_load_rw_d ?_ 12 rfl 176 _ rfl rfl HX.out.box rfl Tryz.underlying176 info_object' ?_; (kernel_rfl))
      | fail)
    refine (has_any9 HX.out.o HP.out.2.2.2.1 HP.out.2.2.2.2 (k : Int) T2 H2.out).mono ?_
    rintro e w14 ⟨rfl, hg⟩
    have HX14 := hid (HX.out.kept0 hg)
    clear hg
    cases T2
    · have e6 := HX14.out.e.c6
      unfold errV at e6
      go_wp2
      go_ret
      exact ⟨by rw [← HZ.out]; simp <;> rfl, HX14.out.g⟩
    · cases T3
      · go_wp2_with fail
        refine (far_of op T4 H4.out _).mono ?_
        rintro e w15 ⟨rfl, hg⟩
        have HX15 := hid (HX14.out.kept0 hg)
        clear hg
        cases T4
        · go_wp2
          go_ret
          exact ⟨by rw [← HZ.out]; simp <;> rfl, HX15.out.g⟩
        · go_wp2_with (first
            | (refine wpList_load_rw_d ?_ 25 rfl 176 _ rfl rfl HX15.out.box rfl Tryz.underlying176 info_object' ?_; (kernel_rfl))
            | fail)
          refine (has_any9 HX15.out.o HP.out.2.2.2.1 HP.out.2.2.2.2 ((k : Int) + 1) T5 H5.out).mono ?_
          rintro e w16 ⟨rfl, hg⟩
          have HX16 := hid (HX15.out.kept0 hg)
          clear hg
          cases T5
          · have e6 := HX16.out.e.c6
            unfold errV at e6
            go_wp2
            go_ret
            exact ⟨by rw [← HZ.out]; simp <;> rfl, HX16.out.g⟩
          · go_wp2
            go_ret
            exact ⟨by rw [← HZ.out]; simp <;> rfl, HX16.out.g⟩
      · go_wp2_with (first
          | (refine wpList_load_rw_d ?_ 25 rfl 176 _ rfl rfl HX14.out.box rfl Tryz.underlying176 info_object' ?_; (kernel_rfl))
          | fail)
        refine (has_any9 HX14.out.o HP.out.2.2.2.1 HP.out.2.2.2.2 ((k : Int) + 1) T5 H5.out).mono ?_
        rintro e w17 ⟨rfl, hg⟩
        have HX17 := hid (HX14.out.kept0 hg)
        clear hg
        cases T5
        · have e6 := HX17.out.e.c6
          unfold errV at e6
          go_wp2
          go_ret
          exact ⟨by rw [← HZ.out]; simp <;> rfl, HX17.out.g⟩
        · go_wp2
          go_ret
          exact ⟨by rw [← HZ.out]; simp <;> rfl, HX17.out.g⟩
end
end Go.Proofs.YtnpnafidhcnkhaaGreatDoor
