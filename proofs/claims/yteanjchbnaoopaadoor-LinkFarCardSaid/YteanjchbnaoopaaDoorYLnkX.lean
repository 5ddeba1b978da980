/- Joined objects on plain data: what a branch and a jump have, where each repair goes, which branches are near. -/
import Derived.Test.YteanjchbnaoopaaDoorYLnk13
namespace Go.Proofs.YteanjchbnaoopaaDoor
open Go.RowKit
theorem opN_woC {x : PO} {k : Nat} (hk : k < x.C.length) (h : opN (woC x) k ≠ 14) : opN (woC x) k = if mapN x k = 1 then opW (x.C.getD k 0) else 0 := by
  unfold opN at h ⊢
  have hm : mapN (woC x) k = mapN x k := rfl
  rw [hm] at h ⊢
  by_cases e : mapN x k = 1
  · rw [if_pos e] at h ⊢
    rw [if_pos e]
    have hc : (woC x).C.getD k 0 = woW x k := by
      show (woCn x x.C.length).getD k 0 = _
      rw [List.getD, woCn_get hk, if_pos hk]; rfl
    rw [hc] at h ⊢
    unfold woW at h ⊢
    by_cases c : calB x k = true
    · rw [if_pos c] at h; exact absurd (by decide) h
    · rw [if_neg c]
  · rw [if_neg e, if_neg e]
theorem mapN_wo (x : PO) (k : Nat) : mapN (woC x) k = mapN x k := rfl
theorem symN_wo (x : PO) (k : Nat) : symN (woC x) k = symN x k := rfl
/-- a relocation of code: what Valid lets by -/
theorem rel_ok {x : PO} (hv : validP (woC x) = none) {r : Rl} (hr : r ∈ x.Q) : repB (woC x) (woQ x r) = true ∧ (r.d ≠ 0 → toB x r = true) ∧ (r.k = 2 → woQ x r = r) ∧ 0 ≤ r.a ∧ r.a < x.C.length := by
  have hok := valid_ok hv
  have hQl : (woC x).Q.length = x.Q.length := woQn_length x _
  obtain ⟨k, hk⟩ := List.getElem?_of_mem hr
  have hkl := (List.getElem?_eq_some_iff.1 hk).1
  have hw : (woC x).Q[k]? = some (woQ x r) := by
    show (woQn x x.Q.length)[k]? = _
    rw [woQn_get hk, if_pos hkl]
  have h1 := hok.cod k (by rw [hQl]; exact hkl)
  unfold codeF at h1
  split at h1
  · cases h1
  · split at h1
    · cases h1
    · rename_i h2 h3
      rw [not_or] at h2 h3
      rw [rlN_get hw] at h3
      have h4 := in_ok (y := woC x) (l := (woC x).Q) (k := k) (n := ((woC x).C.length : Int)) (by simpa using h2.1)
      have hCl : (woC x).C.length = x.C.length := woCn_length x _
      rw [rlN_get hw, (woQ_same x r).1, hCl] at h4
      refine ⟨by simpa using h3.1, fun hd => ?_, fun h => by unfold woQ; rw [if_neg (by rw [h]; simp)], h4.1, h4.2.1⟩
      have h5 := h3.2
      unfold outB at h5
      rw [(woQ_same x r).2.2.1] at h5
      have h6 : toB (woC x) (woQ x r) = toB x r := by unfold toB; rw [symN_wo, (woQ_same x r).2.1]
      rw [h6] at h5
      simpa [hd] using h5
theorem rel_dat {x : PO} (hv : validP (woC x) = none) {r : Rl} (hr : r ∈ x.R) : (r.d ≠ 0 → toB x r = true) := by
  have hok := valid_ok hv
  obtain ⟨k, hk⟩ := List.getElem?_of_mem hr
  have hk : x.R[k]? = some r := hk
  have hkl := (List.getElem?_eq_some_iff.1 hk).1
  have h1 := hok.dat k hkl
  unfold dataF at h1
  split at h1
  · cases h1
  · split at h1
    · cases h1
    · rename_i h2 h3
      have hw : (woC x).R[k]? = some r := hk
      rw [rlN_get hw] at h3
      intro hd
      unfold outB at h3
      have h6 : toB (woC x) r = toB x r := rfl
      rw [h6] at h3
      simpa [hd] using h3
/-- a branch is of a branching word -/
theorem rel_br {x : PO} (hv : validP (woC x) = none) {r : Rl} (hr : r ∈ x.Q) (h2 : r.k = 2) : mapN x r.a.toNat = 1 ∧ brB (opW (x.C.getD r.a.toNat 0)) = true ∧ toB x r = false := by
  obtain ⟨h1, _, h3, a0, a1⟩ := rel_ok hv hr
  rw [h3 h2] at h1
  unfold repB at h1
  rw [if_pos h2, Bool.and_eq_true] at h1
  have hb := h1.1
  have hn14 : opN (woC x) r.a.toNat ≠ 14 := by intro e; rw [e] at hb; exact absurd hb (by decide)
  rw [opN_woC (by omega) hn14] at hb
  by_cases m : mapN x r.a.toNat = 1
  · rw [if_pos m] at hb
    refine ⟨m, hb, ?_⟩
    have h4 : toB (woC x) r = toB x r := rfl
    rw [h4] at h1
    simpa using h1.2
  · rw [if_neg m] at hb; exact absurd hb (by decide)
/-- a word's relocation is of no word where an instruction begins -/
theorem rel_word {x : PO} (hv : validP (woC x) = none) {r : Rl} (hr : r ∈ x.Q) (h1 : r.k = 1) : mapN x r.a.toNat ≠ 1 := by
  obtain ⟨hR, _, _, a0, a1⟩ := rel_ok hv hr
  intro hm
  have hok := valid_ok hv
  have hCl : (woC x).C.length = x.C.length := woCn_length x _
  by_cases hc : calI x (r.a - 1) = true
  · unfold calI at hc
    rw [Bool.and_eq_true] at hc
    have h2 := of_decide_eq_true hc.1
    have h3 := hc.2
    unfold calB at h3
    simp only [Bool.and_eq_true, decide_eq_true_eq] at h3
    have h4 := h3.2.2.1
    rw [show (r.a - 1).toNat + 1 = r.a.toNat by omega] at h4
    unfold mapN at hm
    omega
  · have hq : woQ x r = r := by unfold woQ; rw [if_neg (by simp [hc])]
    rw [hq] at hR
    unfold repB at hR
    rw [if_neg (by omega), mapN_wo, if_neg (by omega)] at hR
    have h14 : twoB (opB (woC x) r.a.toNat) = true := by
      unfold farB at hR
      simp only [Bool.or_eq_true, Bool.and_eq_true, decide_eq_true_eq] at hR
      unfold twoB
      simp only [decide_eq_true_eq]
      omega
    unfold opB at h14
    by_cases k0 : r.a.toNat = 0
    · rw [if_pos k0] at h14; exact absurd h14 (by decide)
    · rw [if_neg k0] at h14
      have hw := hok.word (r.a.toNat - 1) (by omega)
      unfold wordF at hw
      by_cases m1 : mapN (woC x) (r.a.toNat - 1) = 1
      · rw [if_pos m1] at hw
        unfold firstF at hw
        split at hw
        · cases hw
        · rw [if_pos ⟨h14, .inr (by rw [show r.a.toNat - 1 + 1 = r.a.toNat by omega, mapN_wo]; omega)⟩] at hw
          cases hw
      · unfold opN at h14
        rw [if_neg m1] at h14; exact absurd h14 (by decide)
/-- a branching word has its branch -/
theorem has_br {x : PO} (hv : validP (woC x) = none) (hk12 : ∀ r ∈ x.Q, r.k = 1 ∨ r.k = 2) {k : Nat} (hk : k < x.C.length) (hm : mapN x k = 1) (hb : brB (opW (x.C.getD k 0)) = true) : ∃ r ∈ x.Q, r.a = k ∧ r.k = 2 := by
  have hok := valid_ok hv
  have hCl : (woC x).C.length = x.C.length := woCn_length x _
  have hcal : calB x k = false := by
    cases hc : calB x k with
    | false => rfl
    | true =>
      unfold calB at hc
      simp only [Bool.and_eq_true, decide_eq_true_eq] at hc
      rw [hc.2.2.2.2] at hb
      exact absurd hb (by decide)
  have hop : opN (woC x) k = opW (x.C.getD k 0) := by
    unfold opN
    rw [mapN_wo, if_pos hm]
    have hc : (woC x).C.getD k 0 = woW x k := by
      show (woCn x x.C.length).getD k 0 = _
      rw [List.getD, woCn_get hk, if_pos hk]; rfl
    rw [hc]; unfold woW; rw [hcal]; rfl
  have hu := hok.unr k (by omega)
  unfold unrF at hu
  split at hu
  · cases hu
  · rename_i h1
    rw [not_or] at h1
    have h2 := h1.1
    rw [hop, not_and] at h2
    have h3 : hasRB (woC x) k = true := by simpa using h2 hb
    unfold hasRB at h3
    obtain ⟨q, hq, hqa⟩ := List.any_eq_true.1 h3
    have hqa := of_decide_eq_true hqa
    obtain ⟨j, hj⟩ := List.getElem?_of_mem hq
    have hjl := (List.getElem?_eq_some_iff.1 hj).1
    have hQl : (woC x).Q.length = x.Q.length := woQn_length x _
    obtain ⟨r, hr⟩ : ∃ r, x.Q[j]? = some r := ⟨_, List.getElem?_eq_getElem (by omega)⟩
    have hw : (woC x).Q[j]? = some (woQ x r) := by
      show (woQn x x.Q.length)[j]? = _
      rw [woQn_get hr, if_pos (by omega)]
    obtain rfl : woQ x r = q := by rw [hw] at hj; exact Option.some.inj hj
    rw [(woQ_same x r).1] at hqa
    have hrm := List.mem_of_getElem? hr
    refine ⟨r, hrm, hqa, ?_⟩
    rcases hk12 r hrm with e | e
    · exfalso
      have := rel_word hv hrm e
      rw [hqa] at this
      exact this (by simpa using hm)
    · exact e
/-- a jumping word has a word's relocation behind it, to what is no data -/
theorem has_far {x : PO} (hv : validP (woC x) = none) (hk12 : ∀ r ∈ x.Q, r.k = 1 ∨ r.k = 2) {k : Nat} (hk : k < x.C.length) (hm : mapN x k = 1) (hb : farB (opW (x.C.getD k 0)) = true) : k + 1 < x.C.length ∧ mapN x (k + 1) = 0 ∧ ∃ r ∈ x.Q, r.a = (k + 1 : Nat) ∧ r.k = 1 ∧ toB x r = false := by
  have hok := valid_ok hv
  have hCl : (woC x).C.length = x.C.length := woCn_length x _
  have hcal : calB x k = false := by
    cases hc : calB x k with
    | false => rfl
    | true =>
      unfold calB at hc
      simp only [Bool.and_eq_true, decide_eq_true_eq] at hc
      rw [hc.2.2.2.2] at hb
      exact absurd hb (by decide)
  have hop : opN (woC x) k = opW (x.C.getD k 0) := by
    unfold opN
    rw [mapN_wo, if_pos hm]
    have hc : (woC x).C.getD k 0 = woW x k := by
      show (woCn x x.C.length).getD k 0 = _
      rw [List.getD, woCn_get hk, if_pos hk]; rfl
    rw [hc]; unfold woW; rw [hcal]; rfl
  have htwo : twoB (opN (woC x) k) = true := by
    rw [hop]
    unfold farB at hb
    have := of_decide_eq_true hb
    unfold twoB
    simp only [decide_eq_true_eq]
    omega
  have hw := hok.word k (by omega)
  unfold wordF at hw
  rw [mapN_wo, if_pos hm] at hw
  unfold firstF at hw
  split at hw
  · cases hw
  · split at hw
    · cases hw
    · rename_i _ h1
      rw [htwo] at h1
      simp only [true_and, not_or, Classical.not_not] at h1
      obtain ⟨hk1, hm1⟩ := h1
      rw [mapN_wo] at hm1
      rw [hCl] at hk1
      refine ⟨by omega, hm1, ?_⟩
      have hu := hok.unr k (by omega)
      unfold unrF at hu
      split at hu
      · cases hu
      · rename_i h1
        rw [not_or] at h1
        have h2 := h1.2
        rw [hop, not_and] at h2
        have h3 : hasRB (woC x) (k + 1 : Nat) = true := by simpa using h2 (.inr hb)
        unfold hasRB at h3
        obtain ⟨q, hq, hqa⟩ := List.any_eq_true.1 h3
        have hqa := of_decide_eq_true hqa
        obtain ⟨j, hj⟩ := List.getElem?_of_mem hq
        have hjl := (List.getElem?_eq_some_iff.1 hj).1
        have hQl : (woC x).Q.length = x.Q.length := woQn_length x _
        obtain ⟨r, hr⟩ : ∃ r, x.Q[j]? = some r := ⟨_, List.getElem?_eq_getElem (by omega)⟩
        have hw : (woC x).Q[j]? = some (woQ x r) := by
          show (woQn x x.Q.length)[j]? = _
          rw [woQn_get hr, if_pos (by omega)]
        obtain rfl : woQ x r = q := by rw [hw] at hj; exact Option.some.inj hj
        rw [(woQ_same x r).1] at hqa
        have hrm := List.mem_of_getElem? hr
        have hat : r.a.toNat = k + 1 := by omega
        have hr1 : r.k = 1 := by
          rcases hk12 r hrm with e | e
          · exact e
          · have := (rel_br hv hrm e).1
            rw [hat] at this; omega
        refine ⟨r, hrm, hqa, hr1, ?_⟩
        have hR := (rel_ok hv hrm).1
        have hcI : calI x (r.a - 1) = false := by
          unfold calI
          rw [show (r.a - 1).toNat = k by omega, hcal, Bool.and_false]
        have hq : woQ x r = r := by unfold woQ; rw [if_neg (by simp [hcI])]
        rw [hq] at hR
        unfold repB at hR
        rw [if_neg (by omega), mapN_wo, hat, if_neg (by omega)] at hR
        have hob : opB (woC x) (k + 1) = opW (x.C.getD k 0) := by unfold opB; rw [if_neg (by omega), Nat.add_sub_cancel, hop]
        rw [hob, hb] at hR
        have h14 : opW (x.C.getD k 0) ≠ 14 ∧ opW (x.C.getD k 0) ≠ 15 := by
          unfold farB at hb
          have := of_decide_eq_true hb
          omega
        have h4 : toB (woC x) r = toB x r := rfl
        rw [h4] at hR
        rw [decide_eq_false h14.1, decide_eq_false h14.2] at hR
        simpa using hR
section
variable {J : Jn}
/-- a symbol of the part's own that stands in code -/
theorem ptSp_mark (h : JnOk J) (ho : ∀ p ∈ J.ps, PtOk p) {p : Pt} (hp : p ∈ J.ps) {s : Sy} (hs : s ∈ p.x.S) (h2 : s.i = 2) : (whP J).K.getD (ptSp p s).a.toNat 0 = 1 := by
  obtain ⟨⟨v0, _⟩, _, _, h4⟩ := (ho p hp).s s hs
  obtain ⟨h5, h6⟩ := h4 h2
  have e : (ptSp p s).a.toNat = p.c + s.v.toNat := by unfold ptSp; rw [if_neg (by omega)]; simp only; omega
  rw [e, getD_congr (whP_Kat h ho hp (by omega))]
  exact h6
theorem ptSp_i (p : Pt) (s : Sy) : (ptSp p s).i = s.i := by unfold ptSp; split <;> rfl
theorem lkp_mark (h : JnOk J) (ho : ∀ p ∈ J.ps, PtOk p) {n : ByteArray} {q : Sp} (hq : lkp J.M n = some q) (h2 : q.i = 2) : (whP J).K.getD q.a.toNat 0 = 1 := by
  obtain ⟨e, he, rfl⟩ := lkp_mem hq
  obtain ⟨p', hp', s', hs', _, hq'⟩ := h.m e he
  rw [hq'] at h2 ⊢
  rw [ptSp_i] at h2
  exact ptSp_mark h ho hp' hs' h2
theorem spOf_mark (h : JnOk J) (ho : ∀ p ∈ J.ps, PtOk p) {p : Pt} (hp : p ∈ J.ps) {s : Sy} (hs : s ∈ p.x.S) (h2 : (spOf J.M p s).i = 2) : (whP J).K.getD (spOf J.M p s).a.toNat 0 = 1 := by
  unfold spOf at h2 ⊢
  split at h2 <;> rename_i e
  · rw [if_pos e]
    cases hq : lkp J.M s.n with
    | none => unfold lkD at h2; rw [hq] at h2; exact absurd h2 (by decide)
    | some q => rw [lkD_some hq] at h2 ⊢; exact lkp_mark h ho hq h2
  · rw [if_neg e]
    rw [ptSp_i] at h2
    exact ptSp_mark h ho hp hs h2
/-- what is known of a repair of code -/
structure QOk (J : Jn) (r : Fx) : Prop where
  a : ∃ a : Nat, r.a = a ∧ a < (whP J).C.length
  k : r.k = 1 ∨ r.k = 2
  t : TgtOk (whP J).C.length r.t
  m : r.t.i = 2 → (whP J).K.getD r.t.a.toNat 0 = 1 ∧ r.d = 0
  b : r.k = 2 → r.t.i = 2 ∧ (whP J).K.getD r.a.toNat 0 = 1 ∧ brB (opW ((whP J).C.getD r.a.toNat 0)) = true
  w : r.k = 1 → (whP J).K.getD r.a.toNat 0 ≠ 1
theorem spOf_two {p : Pt} {s : Sy} (h : (spOf J.M p s).i = 2) : s.i ≠ 1 := by
  intro e
  unfold spOf at h
  rw [if_neg (by omega), ptSp_i] at h
  omega
/-- where code is jumped to, it is code -/
theorem jump_code (h : JnOk J) (ho : ∀ p ∈ J.ps, PtOk p) (hm : J.ps.any (missB J.M) = false) (hl : J.ps.any (leadB J.M) = false) {p : Pt} (hp : p ∈ J.ps) {r : Rl} (hr : r ∈ p.x.Q) (hj : jumpB p.x r = true) (ht : toB p.x r = false) : (spOf J.M p (symN p.x r.s.toNat)).i = 2 := by
  obtain ⟨_, ⟨s0, s1⟩, _⟩ := (ho p hp).q r hr
  have hsm := symN_mem s0 s1
  have htg := spOf_tgt h ho hm hp hsm
  have hn1 : (spOf J.M p (symN p.x r.s.toNat)).i ≠ 1 := by
    intro e
    by_cases i3 : (symN p.x r.s.toNat).i = 3
    · rw [List.any_eq_false] at hl
      have hl1 := hl p hp
      unfold leadB at hl1
      rw [Bool.not_eq_true, List.any_eq_false] at hl1
      have hl2 := hl1 r hr
      simp [i3, e, hj] at hl2
    · unfold spOf at e
      rw [if_neg i3, ptSp_i] at e
      unfold toB at ht
      simp [e] at ht
  exact (htg.2 hn1).1
theorem whP_QQ (h : JnOk J) (ho : ∀ p ∈ J.ps, PtOk p) (hm : J.ps.any (missB J.M) = false) (hl : J.ps.any (leadB J.M) = false) : ∀ r ∈ (whP J).Q, QOk J r := by
  intro r hr
  have hf := whP_Qok h ho hm r hr
  rw [whP_Q] at hr
  obtain ⟨l, hl1, hr⟩ := List.mem_flatten.1 hr
  obtain ⟨p, hp, rfl⟩ := List.mem_map.1 hl1
  obtain ⟨r0, hr0, rfl⟩ := List.mem_map.1 hr
  obtain ⟨⟨a0, a1⟩, ⟨s0, s1⟩, _⟩ := (ho p hp).q r0 hr0
  have hsm := symN_mem s0 s1
  have hv := h.v p hp
  obtain ⟨_, hd, _, _, _⟩ := rel_ok hv hr0
  have ea : (fxOf J.M p p.c r0).a.toNat = p.c + r0.a.toNat := by show ((p.c : Int) + r0.a).toNat = _; omega
  have hK := getD_congr (whP_Kat h ho hp (j := r0.a.toNat) (by omega))
  have hC := getD_congr (whP_Cat h hp (j := r0.a.toNat) (by omega))
  refine ⟨hf.a, hf.k, hf.t, fun h2 => ⟨spOf_mark h ho hp hsm h2, ?_⟩, fun h2 => ?_, fun h1 => ?_⟩
  · show r0.d = 0
    by_cases e : r0.d = 0
    · exact e
    · have h3 := hd e
      unfold toB at h3
      exact absurd (of_decide_eq_true h3) (spOf_two h2)
  · have h2' : r0.k = 2 := h2
    obtain ⟨b1, b2, b3⟩ := rel_br hv hr0 h2'
    refine ⟨jump_code h ho hm hl hp hr0 (jump_two h2') b3, ?_, ?_⟩
    · rw [ea, hK]; exact b1
    · rw [ea, hC]; exact b2
  · rw [ea, hK]
    exact rel_word hv hr0 h1
/-- what is known of a repair of data -/
theorem whP_RR (h : JnOk J) (ho : ∀ p ∈ J.ps, PtOk p) (hm : J.ps.any (missB J.M) = false) : ∀ r ∈ (whP J).R, FxOk (whP J).C.length (whP J).D.length r ∧ (r.t.i = 2 → (whP J).K.getD r.t.a.toNat 0 = 1 ∧ r.d = 0) := by
  intro r hr
  have hf := whP_Rok h ho hm r hr
  rw [whP_R] at hr
  obtain ⟨l, hl1, hr⟩ := List.mem_flatten.1 hr
  obtain ⟨p, hp, rfl⟩ := List.mem_map.1 hl1
  obtain ⟨r0, hr0, rfl⟩ := List.mem_map.1 hr
  obtain ⟨_, ⟨s0, s1⟩, _⟩ := (ho p hp).r r0 hr0
  have hsm := symN_mem s0 s1
  refine ⟨hf, fun h2 => ⟨spOf_mark h ho hp hsm h2, ?_⟩⟩
  show r0.d = 0
  by_cases e : r0.d = 0
  · exact e
  · have h3 := rel_dat (h.v p hp) hr0 e
    unfold toB at h3
    exact absurd (of_decide_eq_true h3) (spOf_two h2)
/-- a start's word: an instruction; a branch has a repair, a jump has one behind it -/
theorem start_ok (h : JnOk J) (ho : ∀ p ∈ J.ps, PtOk p) (hm : J.ps.any (missB J.M) = false) (hl : J.ps.any (leadB J.M) = false) {k : Nat} (hk : k < (whP J).C.length) (h1 : (whP J).K.getD k 0 = 1) :
    opW ((whP J).C.getD k 0) ≠ 0 ∧ (brB (opW ((whP J).C.getD k 0)) = true → ∃ r ∈ (whP J).Q, r.a = k ∧ r.k = 2) ∧
    (farB (opW ((whP J).C.getD k 0)) = true → k + 1 < (whP J).C.length ∧ (whP J).K.getD (k + 1) 0 = 0 ∧ ∃ r ∈ (whP J).Q, r.a = (k + 1 : Nat) ∧ r.k = 1 ∧ r.t.i = 2) := by
  obtain ⟨p, hp, j, hj, rfl⟩ := whP_part h hk
  have hK := getD_congr (whP_Kat h ho hp hj)
  have hC := getD_congr (whP_Cat h hp hj)
  rw [hK] at h1
  rw [hC]
  have hv := h.v p hp
  have hmj : mapN p.x j = 1 := h1
  have hk12 : ∀ r ∈ p.x.Q, r.k = 1 ∨ r.k = 2 := fun r hr => ((ho p hp).q r hr).2.2.1
  have mem : ∀ r ∈ p.x.Q, fxOf J.M p p.c r ∈ (whP J).Q := fun r hr => by
    rw [whP_Q]
    exact List.mem_flatten.2 ⟨_, List.mem_map.2 ⟨p, hp, rfl⟩, List.mem_map.2 ⟨r, hr, rfl⟩⟩
  refine ⟨?_, fun hb => ?_, fun hb => ?_⟩
  · have hok := valid_ok hv
    have hCl : (woC p.x).C.length = p.x.C.length := woCn_length p.x _
    have hw := hok.word j (by omega)
    unfold wordF at hw
    rw [mapN_wo, if_pos hmj] at hw
    unfold firstF at hw
    split at hw
    · cases hw
    · rename_i h2
      rw [not_or] at h2
      have h3 := h2.1
      intro h0
      have hcal : calB p.x j = false := by
        cases hc : calB p.x j with
        | false => rfl
        | true =>
          unfold calB at hc
          simp only [Bool.and_eq_true, decide_eq_true_eq] at hc
          rw [hc.2.2.2.2] at h0
          exact absurd h0 (by decide)
      apply h3
      unfold opN
      rw [mapN_wo, if_pos hmj]
      have hc : (woC p.x).C.getD j 0 = woW p.x j := by
        show (woCn p.x p.x.C.length).getD j 0 = _
        rw [List.getD, woCn_get hj, if_pos hj]; rfl
      rw [hc]; unfold woW; rw [hcal]; exact h0
  · obtain ⟨r, hr, ha, hk2⟩ := has_br hv hk12 hj hmj hb
    exact ⟨_, mem r hr, by show ((p.c : Int) + r.a) = _; omega, hk2⟩
  · obtain ⟨f1, f2, r, hr, ha, hk1, ht⟩ := has_far hv hk12 hj hmj hb
    have hK1 := getD_congr (whP_Kat h ho hp f1)
    have hl1 := (whP_Cat h hp f1)
    have hlt : p.c + (j + 1) < (whP J).C.length := by
      have := (in_total h hp).1
      rw [whP_Cl h]; omega
    refine ⟨by omega, by rw [show p.c + j + 1 = p.c + (j + 1) by omega, hK1]; exact f2, _, mem r hr, by show ((p.c : Int) + r.a) = _; omega, hk1, ?_⟩
    refine jump_code h ho hm hl hp hr ?_ ht
    unfold jumpB
    have hat : r.a.toNat = j + 1 := by omega
    rw [if_neg (by omega), hat, if_neg (by unfold mapN at f2; simpa using f2), Nat.add_sub_cancel]
    unfold farB at hb
    have := of_decide_eq_true hb
    unfold jmpB
    simp only [decide_eq_true_eq]
    omega
end
end Go.Proofs.YteanjchbnaoopaaDoor
namespace Go.Proofs.YteanjchbnaoopaaDoor
open Go.RowKit
/-! ### branches as items -/
theorem itBr_other {K : List Int} {I : List RIt} {r : Fx} {i : Nat} (h : ¬ (r.k = 2 ∧ itOf K r.a.toNat = i)) : (itBr K I r)[i]? = I[i]? := by
  unfold itBr
  by_cases e : r.k = 2
  · rw [if_pos e, List.getElem?_modify]
    have : itOf K r.a.toNat ≠ i := fun q => h ⟨e, q⟩
    simp [this]
  · rw [if_neg e]
theorem itBr_at {K : List Int} {I : List RIt} {r : Fx} {x : RIt} (h2 : r.k = 2) (h : I[itOf K r.a.toNat]? = some x) : (itBr K I r)[itOf K r.a.toNat]? = some ⟨x.s, (itOf K r.t.a.toNat : Int), true⟩ := by
  unfold itBr
  rw [if_pos h2, List.getElem?_modify, h]
  simp
theorem foldBr_other {K : List Int} {i : Nat} : ∀ {Q : List Fx} {I : List RIt}, (∀ r ∈ Q, ¬ (r.k = 2 ∧ itOf K r.a.toNat = i)) → (Q.foldl (itBr K) I)[i]? = I[i]?
  | [], _, _ => rfl
  | r :: Q, I, h => by
    rw [List.foldl_cons, foldBr_other (fun q hq => h q (List.mem_cons_of_mem _ hq)), itBr_other (h r List.mem_cons_self)]
theorem itOf_inj {K : List Int} {j k : Nat} (hj : j < K.length) (hk : k < K.length) (mj : K.getD j 0 ≠ 0) (mk : K.getD k 0 ≠ 0) (h : itOf K j = itOf K k) : j = k := by
  obtain ⟨x, hx⟩ : ∃ x, K[j]? = some x := ⟨_, List.getElem?_eq_getElem hj⟩
  obtain ⟨y, hy⟩ : ∃ x, K[k]? = some x := ⟨_, List.getElem?_eq_getElem hk⟩
  rw [getD_of hx] at mj
  rw [getD_of hy] at mk
  rw [itOf_new hx mj, itOf_new hy mk] at h
  rcases Nat.lt_trichotomy j k with e | e | e
  · have := itN_ge (K := K) e (by rw [hx]; simpa using mj) hj; omega
  · exact e
  · have := itN_ge (K := K) e (by rw [hy]; simpa using mk) hk; omega
section
variable {J : Jn}
theorem whP_kl (h : JnOk J) : (whP J).K.length = (whP J).C.length := by rw [whP_Kl h, whP_Cl h]
/-- a branch's item -/
theorem br_item (h : JnOk J) (ho : ∀ p ∈ J.ps, PtOk p) (hQ : ∀ r ∈ (whP J).Q, QOk J r) {r : Fx} (hr : r ∈ (whP J).Q) (h2 : r.k = 2) :
    ∃ s, (itsP (whP J))[itOf (whP J).K r.a.toNat]? = some ⟨s, itOf (whP J).K r.t.a.toNat, true⟩ := by
  obtain ⟨a, ha, hal⟩ := (hQ r hr).a
  have hp := whP_Qne h ho
  unfold itsP
  obtain ⟨Q1, Q2, hq⟩ := List.append_of_mem hr
  rw [hq] at hp
  rw [hq, List.foldl_append, List.foldl_cons]
  rw [List.pairwise_append] at hp
  obtain ⟨_, hp2, hp3⟩ := hp
  rw [List.pairwise_cons] at hp2
  have mem : ∀ q, q ∈ Q1 ∨ q ∈ Q2 → q ∈ (whP J).Q := fun q h => by rw [hq]; rcases h with h | h <;> simp [h]
  have hne : ∀ q ∈ (whP J).Q, q.a.toNat ≠ r.a.toNat → ¬ (q.k = 2 ∧ itOf (whP J).K q.a.toNat = itOf (whP J).K r.a.toNat) := by
    rintro q hqm hne ⟨q2, he⟩
    obtain ⟨b, hb, hbl⟩ := (hQ q hqm).a
    refine hne (itOf_inj (by rw [whP_kl h]; omega) (by rw [whP_kl h]; omega) ?_ ?_ he)
    · rw [((hQ q hqm).b q2).2.1]; decide
    · rw [((hQ r hr).b h2).2.1]; decide
  rw [foldBr_other (fun q hqm => hne q (mem q (.inr hqm)) (hp2.1 q hqm).symm)]
  have h0 := whP_first h ho
  have hlt := itOf_lt h0 (n := r.a.toNat) (by rw [whP_kl h]; omega)
  have hlen : (itW (whP J).K (whP J).C.length).length = itN (whP J).K (whP J).K.length := by rw [itW_length (by rw [whP_kl h]; exact Nat.le_refl _), whP_kl h]
  obtain ⟨x, hx⟩ : ∃ x, (itW (whP J).K (whP J).C.length)[itOf (whP J).K r.a.toNat]? = some x := ⟨_, List.getElem?_eq_getElem (by omega)⟩
  have hx2 : (Q1.foldl (itBr (whP J).K) (itW (whP J).K (whP J).C.length))[itOf (whP J).K r.a.toNat]? = some x := by
    rw [foldBr_other (fun q hqm => hne q (mem q (.inl hqm)) (hp3 q hqm r List.mem_cons_self))]; exact hx
  exact ⟨x.s, itBr_at h2 hx2⟩
/-- behind a branch no second word stands -/
theorem br_next (h : JnOk J) (ho : ∀ p ∈ J.ps, PtOk p) {k : Nat} (hk : k < (whP J).C.length) (h1 : (whP J).K.getD k 0 = 1) (hb : brB (opW ((whP J).C.getD k 0)) = true) : (whP J).K[k + 1]? ≠ some 0 := by
  intro h0
  obtain ⟨p, hp, j, hj, rfl⟩ := whP_part h hk
  have hC := getD_congr (whP_Cat h hp hj)
  have hK := getD_congr (whP_Kat h ho hp hj)
  rw [hC] at hb
  rw [hK] at h1
  have hv := h.v p hp
  by_cases e : j + 1 < p.x.C.length
  · have h2 := whP_Kat h ho hp e
    rw [show p.c + (j + 1) = p.c + j + 1 by omega, h0] at h2
    have hok := valid_ok hv
    have hCl : (woC p.x).C.length = p.x.C.length := woCn_length p.x _
    have hw := hok.word (j + 1) (by omega)
    have hm : mapN p.x (j + 1) = 0 := mapN_get h2.symm
    unfold wordF at hw
    rw [mapN_wo, hm] at hw
    simp only [show ¬ (0 : Int) = 1 by decide, if_false, if_true] at hw
    split at hw
    · rename_i h3
      unfold opB at h3
      rw [if_neg (by omega), Nat.add_sub_cancel] at h3
      have hcal : calB p.x j = false := by
        cases hc : calB p.x j with
        | false => rfl
        | true =>
          unfold calB at hc
          simp only [Bool.and_eq_true, decide_eq_true_eq] at hc
          rw [hc.2.2.2.2] at hb
          exact absurd hb (by decide)
      have hop : opN (woC p.x) j = opW (p.x.C.getD j 0) := by
        unfold opN
        rw [mapN_wo, if_pos (by exact h1)]
        have hc : (woC p.x).C.getD j 0 = woW p.x j := by
          show (woCn p.x p.x.C.length).getD j 0 = _
          rw [List.getD, woCn_get hj, if_pos hj]; rfl
        rw [hc]; unfold woW; rw [hcal]; rfl
      rw [hop] at h3
      unfold brB at hb
      have := of_decide_eq_true hb
      unfold twoB at h3
      have := of_decide_eq_true h3
      omega
    · cases hw
  · -- the next part's first word
    have hkl := (List.getElem?_eq_some_iff.1 h0).1
    rw [whP_kl h] at hkl
    obtain ⟨q, hq, i, hi, he⟩ := whP_part h hkl
    have h2 := whP_Kat h ho hq hi
    rw [← he, h0] at h2
    have hfm := first_mark (h.v q hq) (by omega)
    by_cases i0 : i = 0
    · subst i0; exact hfm h2.symm
    · -- two parts overlap: not so
      obtain ⟨a, ha⟩ := List.getElem?_of_mem hp
      obtain ⟨b, hb'⟩ := List.getElem?_of_mem hq
      have oa := (h.o a p ha).2
      have ob := (h.o b q hb').2
      have sa := sumCL_snoc (J.ps.take a) p
      have sb := sumCL_snoc (J.ps.take b) q
      have ta : J.ps.take (a + 1) = J.ps.take a ++ [p] := by rw [List.take_add_one, ha]; rfl
      have tb : J.ps.take (b + 1) = J.ps.take b ++ [q] := by rw [List.take_add_one, hb']; rfl
      rw [← ta] at sa
      rw [← tb] at sb
      rcases Nat.lt_trichotomy a b with e1 | e1 | e1
      · have := sumCL_take (J.ps.take b) (a + 1)
        rw [List.take_take, Nat.min_eq_left (by omega)] at this
        omega
      · subst e1
        obtain rfl : p = q := by rw [ha] at hb'; exact Option.some.inj hb'
        omega
      · have := sumCL_take (J.ps.take a) (b + 1)
        rw [List.take_take, Nat.min_eq_left (by omega)] at this
        omega
/-- what is known of objects that link -/
structure PgOk (J : Jn) (K : Nat) : Prop where
  h : JnOk J
  ho : ∀ p ∈ J.ps, PtOk p
  hm : J.ps.any (missB J.M) = false
  hl : J.ps.any (leadB J.M) = false
  e : (lkD J.M nmMainL).i = 2
  r : RndR (itsP (whP J)) K
  g : lngB (whP J) K = false
variable {K : Nat}
abbrev plcP (J : Jn) (K : Nat) : Nat → Int := ldN (whP J) (itR (itsP (whP J)) K)
theorem PgOk.v (P : PgOk J K) : validR (itsP (whP J)) = true := by
  have := P.g; unfold lngB at this
  cases hv : validR (itsP (whP J)) with
  | true => rfl
  | false => rw [hv] at this; cases this
theorem PgOk.bd (P : PgOk J K) : plcP J K (whP J).C.length ≤ 2048 ∧ (whP J).D.length ≤ 2048 := by
  have := P.g; unfold lngB at this
  rw [P.v] at this
  simp at this
  constructor
  · have h1 := this.1; unfold plcP; omega
  · have := this.2; omega
theorem PgOk.inc (P : PgOk J K) : LInc (plcP J K) (whP J).C.length :=
  ⟨(ldN_bd (whP_first P.h P.ho) (whP_kl P.h) P.v (Nat.zero_le _)).1, fun _ _ hjk hk => ldN_lt' (whP_first P.h P.ho) (whP_kl P.h) P.v (whP_sec P.ho P.h) hjk hk⟩
theorem PgOk.q (P : PgOk J K) : ∀ r ∈ (whP J).Q, QOk J r := whP_QQ P.h P.ho P.hm P.hl
theorem PgOk.up (P : PgOk J K) {k : Nat} (hk : k < (whP J).C.length) : 0 ≤ plcP J K k ∧ plcP J K k < 2048 := by
  have h1 := P.inc.i k _ hk (Nat.le_refl _)
  have h2 := P.inc.nn (k := k) (by omega)
  have := P.bd.1
  omega
/-- a branch that is short is near -/
theorem PgOk.near (P : PgOk J K) {r : Fx} (hr : r ∈ (whP J).Q) (h2 : r.k = 2) (hs : plcP J K (r.a.toNat + 1) - plcP J K r.a.toNat ≠ 2) : -128 ≤ plcP J K r.t.a.toNat - plcP J K r.a.toNat ∧ plcP J K r.t.a.toNat - plcP J K r.a.toNat ≤ 127 := by
  have q := P.q r hr
  obtain ⟨a, ha, hal⟩ := q.a
  obtain ⟨t2, m1, mb⟩ := q.b h2
  obtain ⟨mt, _⟩ := q.m t2
  obtain ⟨_, t, ht, htl⟩ := q.t.2 (by omega)
  have ea : r.a.toNat = a := by omega
  have et : r.t.a.toNat = t := by omega
  obtain ⟨s, hit⟩ := br_item P.h P.ho P.q hr h2
  rw [ea] at m1 mb hit hs ⊢
  rw [et] at mt hit ⊢
  have hlt := (List.getElem?_eq_some_iff.1 hit).1
  have hok : okR (itsP (whP J)) = true := by have := P.v; unfold validR at this; rw [Bool.and_eq_true] at this; exact this.2
  have h0 := whP_first P.h P.ho
  have hkl := whP_kl P.h
  have hla : plcP J K a = plR (itsP (whP J)) (itR (itsP (whP J)) K) (itOf (whP J).K a) := by
    show ldN _ _ _ = _; rw [ldN_in hal, m1, if_neg (by decide), Int.add_zero]
  have hlt' : plcP J K t = plR (itsP (whP J)) (itR (itsP (whP J)) K) (itOf (whP J).K t) := by
    show ldN _ _ _ = _; rw [ldN_in htl, mt, if_neg (by decide), Int.add_zero]
  have hfar := farR_nil.1 P.r.1 _ hlt
  unfold tooB at hfar
  rw [hit] at hfar
  simp only [Bool.true_and, Int.toNat_natCast] at hfar
  cases hL : (itR (itsP (whP J)) K).getD (itOf (whP J).K a) false with
  | false =>
    rw [hL] at hfar
    simp only [Bool.not_false, Bool.true_and, Bool.not_eq_false'] at hfar
    rw [← hla, ← hlt'] at hfar
    unfold nearR at hfar
    rw [Bool.and_eq_true, decide_eq_true_eq, decide_eq_true_eq] at hfar
    omega
  | true =>
    exfalso
    apply hs
    have hn := br_next P.h P.ho hal m1 mb
    obtain ⟨m, hm⟩ : ∃ m, (whP J).K[a]? = some m := ⟨_, List.getElem?_eq_getElem (by omega)⟩
    have hm1 : m = 1 := by rw [getD_of hm] at m1; exact m1
    obtain ⟨r0, hr0, hs0⟩ := itW_one h0 hm (by omega) hn (whP J).C.length (by omega) hal
    have hsz : szR (itsP (whP J)) (itR (itsP (whP J)) K) (itOf (whP J).K a) = 2 := by
      have hs1 : ∃ y, (itsP (whP J))[itOf (whP J).K a]? = some y ∧ y.s = 1 := by
        have g : ∀ (Q : List Fx) (I : List RIt), (∃ r, I[itOf (whP J).K a]? = some r ∧ r.s = 1) → ∃ r, (Q.foldl (itBr (whP J).K) I)[itOf (whP J).K a]? = some r ∧ r.s = 1 := by
          intro Q
          induction Q with
          | nil => exact fun I h => h
          | cons q Q ih =>
            intro I ⟨r, hr, hs⟩
            obtain ⟨y, hy, e⟩ := itBr_size (whP J).K I q _ hr
            exact ih _ ⟨y, hy, by rw [e]; exact hs⟩
        exact g _ _ ⟨r0, hr0, hs0⟩
      obtain ⟨y, hy, hy1⟩ := hs1
      unfold szR sR
      rw [hy, hL]
      simp only [if_true]
      omega
    have hnext : plcP J K (a + 1) = plR (itsP (whP J)) (itR (itsP (whP J)) K) (itOf (whP J).K a + 1) := by
      by_cases e : a + 1 < (whP J).C.length
      · obtain ⟨y, hy⟩ : ∃ m, (whP J).K[a + 1]? = some m := ⟨_, List.getElem?_eq_getElem (by omega)⟩
        have hy0 : y ≠ 0 := by rintro rfl; exact hn hy
        have hq1 : itOf (whP J).K (a + 1) = itOf (whP J).K a + 1 := by
          have := itN_pos h0 (n := a) (by omega)
          rw [itOf_new hy hy0]; unfold itOf; omega
        show ldN _ _ _ = _
        rw [ldN_in e, getD_of hy, if_neg hy0, hq1, Int.add_zero]
      · have ea1 : a + 1 = (whP J).C.length := by omega
        have hlen : (itsP (whP J)).length = itN (whP J).K (whP J).C.length := by rw [← itB_all, itB_length (by omega)]
        have hq1 : itOf (whP J).K a + 1 = (itsP (whP J)).length := by
          have := itN_pos h0 (n := a) (by omega)
          rw [hlen, ← ea1]; unfold itOf; omega
        show ldN _ _ _ = _
        rw [ea1, ldN_end, hq1]
    rw [hnext, hla, plR_succ, hsz]
    omega
end
end Go.Proofs.YteanjchbnaoopaaDoor
namespace Go.Proofs.YteanjchbnaoopaaDoor
open Go.RowKit
/-- an instruction's parts -/
theorem opW_ins {w o : Int} (h : opW w = o) (h0 : o ≠ 0) : insB (w / 16777216) (w / 65536 % 256) (w / 256 % 256) (w % 256) 0 = true ∧ w / 16777216 = o := by
  unfold opW at h
  split at h
  · rename_i e; exact ⟨e, h⟩
  · exact absurd h.symm h0
theorem br_ins {o a b c c' : Int} (hb : o = 16 ∨ o = 17 ∨ o = 18) (h : insB o a b c 0 = true) (h0 : 0 ≤ c') (h1 : c' < 256) : insB o a b c' 0 = true := by
  unfold insB alwB at *
  rcases hb with rfl | rfl | rfl <;> simp [clsI, hasA, hasB, hasC, twoB] at h ⊢ <;> omega
theorem short_word {w d : Int} (hw : 0 ≤ w ∧ w < 4294967296) (hb : brB (opW w) = true) : opW (w / 256 * 256 + d % 256) = opW w ∧ 0 ≤ w / 256 * 256 + d % 256 ∧ w / 256 * 256 + d % 256 < 4294967296 ∧ (w / 256 * 256 + d % 256) % 256 = d % 256 := by
  have hb' : opW w = 16 ∨ opW w = 17 ∨ opW w = 18 := by unfold brB at hb; exact of_decide_eq_true hb
  obtain ⟨hi, ho⟩ := opW_ins (w := w) rfl (by omega)
  have e1 : (w / 256 * 256 + d % 256) / 16777216 = w / 16777216 := by omega
  have e2 : (w / 256 * 256 + d % 256) / 65536 % 256 = w / 65536 % 256 := by omega
  have e3 : (w / 256 * 256 + d % 256) / 256 % 256 = w / 256 % 256 := by omega
  have e4 : (w / 256 * 256 + d % 256) % 256 = d % 256 := by omega
  refine ⟨?_, by omega, by omega, e4⟩
  have h2 := br_ins (c' := d % 256) (by rw [ho]; exact hb') hi (by omega) (by omega)
  conv => lhs; unfold opW
  rw [e1, e2, e3, e4, if_pos h2, ho]
theorem long_word {w : Int} (hb : brB (opW w) = true) : brB (opW (lgW w)) = false ∧ opW (lgW w) ≠ 0 ∧ 0 ≤ lgW w ∧ lgW w < 4294967296 := by
  have hb' : opW w = 16 ∨ opW w = 17 ∨ opW w = 18 := by unfold brB at hb; exact of_decide_eq_true hb
  obtain ⟨hi, ho⟩ := opW_ins (w := w) rfl (by omega)
  obtain ⟨A, hA⟩ : ∃ A, w / 65536 % 256 = A := ⟨_, rfl⟩
  obtain ⟨B, hB⟩ : ∃ A, w / 256 % 256 = A := ⟨_, rfl⟩
  obtain ⟨C, hC⟩ : ∃ A, w % 256 = A := ⟨_, rfl⟩
  have bA : 0 ≤ A ∧ A < 256 := by omega
  have bB : 0 ≤ B ∧ B < 256 := by omega
  rw [ho, hA, hB, hC] at hi
  unfold lgW
  rw [hA, hB]
  rcases hb' with h | h | h <;> rw [h] at hi ⊢ <;> simp [insB, alwB, clsI, hasA, hasB, hasC, twoB] at hi <;> simp only [show ¬ (16 : Int) = 0 by decide, show ¬ (17 : Int) = 0 by decide, show ¬ (18 : Int) = 0 by decide, show ¬ (17 : Int) = 16 by decide, show ¬ (18 : Int) = 16 by decide, show ¬ (18 : Int) = 17 by decide, if_true, if_false]
  all_goals
    (first
    | (have e : wordV 19 A B 0 0 = 19 * 16777216 := by
         obtain ⟨rfl, rfl⟩ : A = 0 ∧ B = 0 := by omega
         decide
       rw [e]; decide)
    | (obtain rfl : B = 0 := by omega
       have e : wordV 20 A 0 0 0 = 20 * 16777216 + A * 65536 := by
         unfold wordV wrdI
         rw [if_pos (by simp [insB, alwB, clsI, hasA, hasB, hasC, twoB]; omega)]
         omega
       rw [e]
       have o : opW (20 * 16777216 + A * 65536) = 20 := by
         unfold opW
         rw [show (20 * 16777216 + A * 65536) / 16777216 = 20 by omega, show (20 * 16777216 + A * 65536) / 65536 % 256 = A by omega, show (20 * 16777216 + A * 65536) / 256 % 256 = 0 by omega, show (20 * 16777216 + A * 65536) % 256 = 0 by omega]
         rw [if_pos (by simp [insB, alwB, clsI, hasA, hasB, hasC, twoB]; omega)]
       rw [o]
       exact ⟨by decide, by decide, by omega, by omega⟩)
    | (obtain rfl : B = 0 := by omega
       have e : wordV 21 A 0 0 0 = 21 * 16777216 + A * 65536 := by
         unfold wordV wrdI
         rw [if_pos (by simp [insB, alwB, clsI, hasA, hasB, hasC, twoB]; omega)]
         omega
       rw [e]
       have o : opW (21 * 16777216 + A * 65536) = 21 := by
         unfold opW
         rw [show (21 * 16777216 + A * 65536) / 16777216 = 21 by omega, show (21 * 16777216 + A * 65536) / 65536 % 256 = A by omega, show (21 * 16777216 + A * 65536) / 256 % 256 = 0 by omega, show (21 * 16777216 + A * 65536) % 256 = 0 by omega]
         rw [if_pos (by simp [insB, alwB, clsI, hasA, hasB, hasC, twoB]; omega)]
       rw [o]
       exact ⟨by decide, by decide, by omega, by omega⟩))
section
variable {J : Jn} {K : Nat}
abbrev imgP (J : Jn) (K : Nat) : Im := imP (whP J) J.M (plcP J K)
theorem img_st (v : Int) : v ∈ (imgP J K).st ↔ ∃ k, k < (whP J).C.length ∧ (whP J).K.getD k 0 = 1 ∧ v = plcP J K k := by
  unfold imgP; rw [imP_is]; exact imS_mem _ v
theorem img_Cl (P : PgOk J K) : ((imgP J K).C.length : Int) = plcP J K (whP J).C.length := by
  have := P.inc.nn (Nat.le_refl _)
  unfold imgP; rw [imP_is]
  simp only [foldcfx_length, imC_length]
  omega
theorem adP_code {l : Nat → Int} {s : Sp} (h : s.i = 2) : adP l s = (2048 + l s.a.toNat) % 4294967296 := by unfold adP; rw [if_neg (by omega)]
/-- a repair by code names a start -/
theorem wd_start (P : PgOk J K) {r : Fx} (ht : TgtOk (whP J).C.length r.t) (h2 : r.t.i = 2) (hm : (whP J).K.getD r.t.a.toNat 0 = 1) (hd : r.d = 0) : wdP (plcP J K) r - 2048 ∈ (imgP J K).st := by
  obtain ⟨_, t, ha, hl⟩ := ht.2 (by omega)
  have hu := P.up hl
  have et : r.t.a.toNat = t := by omega
  rw [et] at hm
  refine (img_st _).2 ⟨t, hl, hm, ?_⟩
  unfold wdP
  rw [adP_code h2, hd, et]
  omega
/-- the code at a repair's place -/
theorem code_at (P : PgOk J K) {r : Fx} (hr : r ∈ (whP J).Q) {i : Nat} (h1 : plcP J K r.a.toNat ≤ (i : Int)) (h2 : (i : Int) < plcP J K (r.a.toNat + 1)) : ∃ C' : List Int, (C'.length : Int) = plcP J K (whP J).C.length ∧ (imgP J K).C[i]? = (cfx (whP J) (plcP J K) C' r)[i]? := by
  have hQ : ∀ q ∈ (whP J).Q, q.a.toNat < (whP J).C.length := fun q hq => by obtain ⟨a, ha, hl⟩ := (P.q q hq).a; omega
  obtain ⟨C', _, hl, he⟩ := foldcfx_one (X := whP J) P.inc (C := imC (whP J) (plcP J K) (whP J).C.length) hr (whP_Qne P.h P.ho) hQ h1 h2
  refine ⟨C', by rw [hl, imC_length]; have := P.inc.nn (Nat.le_refl _); omega, ?_⟩
  unfold imgP; rw [imP_is]; exact he
/-- each place that the image tells names a start -/
theorem goes_pl (P : PgOk J K) : ∀ p ∈ (imgP J K).pl, 0 ≤ p ∧ p < (imgP J K).C.length ∧ ∃ v, (imgP J K).C[p.toNat]? = some v ∧ v - 2048 ∈ (imgP J K).st := by
  intro p hp
  have hp' : p ∈ (whP J).Q.flatMap (pfx (plcP J K)) := by unfold imgP at hp; rw [imP_is] at hp; exact hp
  obtain ⟨r, hr, hpr⟩ := List.mem_flatMap.1 hp'
  have q := P.q r hr
  obtain ⟨a, ha, hal⟩ := q.a
  have ea : r.a.toNat = a := by omega
  have hinc := P.inc.i a (a + 1) (by omega) (by omega)
  have hend := P.inc.le (j := a + 1) (by omega) (Nat.le_refl (whP J).C.length)
  have hnn := P.inc.nn (k := a) (by omega)
  have hCl := img_Cl P
  unfold pfx at hpr
  rw [ea] at hpr
  by_cases h1 : r.k = 1
  · rw [if_pos h1] at hpr
    by_cases h2 : r.t.i = 2
    · rw [if_pos h2, List.mem_singleton] at hpr
      subst hpr
      obtain ⟨C', hC', he⟩ := code_at P hr (i := (plcP J K a).toNat) (by rw [ea]; omega) (by rw [ea]; omega)
      refine ⟨hnn, by omega, wdP (plcP J K) r, ?_, wd_start P q.t h2 (q.m h2).1 (q.m h2).2⟩
      rw [he]; unfold cfx
      rw [if_pos h1, ea, List.getElem?_set_self (by omega)]
    · rw [if_neg h2] at hpr; cases hpr
  · rw [if_neg h1] at hpr
    have hk2 : r.k = 2 := by rcases q.k with e | e; exact absurd e h1; exact e
    by_cases h3 : plcP J K (a + 1) - plcP J K a = 2
    · rw [if_pos h3, List.mem_singleton] at hpr
      subst hpr
      obtain ⟨C', hC', he⟩ := code_at P hr (i := (plcP J K a).toNat + 1) (by rw [ea]; omega) (by rw [ea]; omega)
      obtain ⟨t2, _⟩ := q.b hk2
      refine ⟨by omega, by omega, wdP (plcP J K) r, ?_, wd_start P q.t t2 (q.m t2).1 (q.m t2).2⟩
      rw [show (plcP J K a + 1).toNat = (plcP J K a).toNat + 1 by omega, he]; unfold cfx
      rw [if_neg h1, ea, if_pos h3, List.getElem?_set_self (by rw [List.length_set]; omega)]
    · rw [if_neg h3] at hpr; cases hpr
theorem set_other {l : Nat → Int} : ∀ {R : List Fx} {D : List Int} {i : Nat}, (∀ r ∈ R, r.a.toNat ≠ i) → (R.foldl (fun D r => D.set r.a.toNat (wdP l r)) D)[i]? = D[i]?
  | [], _, _, _ => rfl
  | r :: R, D, i, h => by
    rw [List.foldl_cons, set_other (fun q hq => h q (List.mem_cons_of_mem _ hq)), List.getElem?_set_ne (h r List.mem_cons_self)]
theorem set_length {l : Nat → Int} : ∀ (R : List Fx) (D : List Int), (R.foldl (fun D r => D.set r.a.toNat (wdP l r)) D).length = D.length
  | [], _ => rfl
  | r :: R, D => by rw [List.foldl_cons, set_length R, List.length_set]
theorem datrel_rise {x : PO} (hv : validP (woC x) = none) : x.R.Pairwise fun a b => a.a < b.a := by
  have hok := valid_ok hv
  have step : ∀ (k : Nat) (r s : Rl), x.R[k]? = some r → x.R[k + 1]? = some s → r.a < s.a := by
    intro k r s hr hs
    have hkl := (List.getElem?_eq_some_iff.1 hs).1
    have h1 := hok.dat (k + 1) hkl
    unfold dataF at h1
    by_cases h2 : inB (woC x) (woC x).R (k + 1) (woC x).D.length = false ∨ (rlN (woC x).R (k + 1)).k ≠ 1
    · rw [if_pos h2] at h1; cases h1
    · rw [not_or] at h2
      have h3 : inB (woC x) (woC x).R (k + 1) (woC x).D.length = true := by simpa using h2.1
      unfold inB at h3
      have h4 := (of_decide_eq_true h3).1
      have hr' : (woC x).R[k]? = some r := hr
      have hs' : (woC x).R[k + 1]? = some s := hs
      rw [Nat.add_sub_cancel, rlN_get hr', rlN_get hs'] at h4
      omega
  rw [List.pairwise_iff_getElem]
  intro i j hi hj hij
  have all : ∀ d i, (hi : i < x.R.length) → (hj : i + 1 + d < x.R.length) → (x.R[i]'hi).a < (x.R[i + 1 + d]'hj).a := by
    intro d
    induction d with
    | zero => exact fun i hi hj => step i _ _ (List.getElem?_eq_getElem hi) (List.getElem?_eq_getElem hj)
    | succ d ih =>
      intro i hi hj
      have h1 := ih i hi (by omega)
      have h2 := step (i + 1 + d) _ _ (List.getElem?_eq_getElem (by omega)) (List.getElem?_eq_getElem hj)
      omega
  have := all (j - i - 1) i hi (by omega)
  have e : i + 1 + (j - i - 1) = j := by omega
  simp only [e] at this
  exact this
theorem whP_Rne (h : JnOk J) (ho : ∀ p ∈ J.ps, PtOk p) : (whP J).R.Pairwise fun a b => a.a.toNat ≠ b.a.toNat := by
  rw [whP_R, List.pairwise_flatten]
  constructor
  · intro l hl
    obtain ⟨p, hp, rfl⟩ := List.mem_map.1 hl
    rw [List.pairwise_map]
    refine (datrel_rise (h.v p hp)).imp_of_mem (fun {a b} ha hb hab => ?_)
    have h1 := ((ho p hp).r a ha).1
    have h2 := ((ho p hp).r b hb).1
    show ((p.d : Int) + a.a).toNat ≠ ((p.d : Int) + b.a).toNat
    omega
  · rw [List.pairwise_map, List.pairwise_iff_getElem]
    intro i j hi hj hij x hx y hy
    obtain ⟨a, ha, rfl⟩ := List.mem_map.1 hx
    obtain ⟨b, hb, rfl⟩ := List.mem_map.1 hy
    have hpi : J.ps[i] ∈ J.ps := List.getElem_mem hi
    have hpj : J.ps[j] ∈ J.ps := List.getElem_mem hj
    have h1 := ((ho _ hpi).r a ha).1
    have h2 := ((ho _ hpj).r b hb).1
    have oi := (h.o i _ (List.getElem?_eq_getElem hi)).1
    have oj := (h.o j _ (List.getElem?_eq_getElem hj)).1
    have hs : sumDL (J.ps.take (i + 1)) ≤ sumDL (J.ps.take j) := by
      have := sumDL_take (J.ps.take j) (i + 1)
      rw [List.take_take, Nat.min_eq_left (by omega)] at this
      exact this
    rw [List.take_add_one, List.getElem?_eq_getElem hi, Option.toList_some, sumDL_snoc] at hs
    show (((J.ps[i]).d : Int) + a.a).toNat ≠ (((J.ps[j]).d : Int) + b.a).toNat
    omega
/-- each word of data that the image tells names a start -/
theorem goes_dr (P : PgOk J K) : ∀ p ∈ (imgP J K).dr, 0 ≤ p ∧ p < (imgP J K).D.length ∧ ∃ v, (imgP J K).D[p.toNat]? = some v ∧ v - 2048 ∈ (imgP J K).st := by
  intro p hp
  have hp' : p ∈ (whP J).R.flatMap (fun r => if r.t.i = 2 then [r.a] else []) := by unfold imgP at hp; rw [imP_is] at hp; exact hp
  obtain ⟨r, hr, hpr⟩ := List.mem_flatMap.1 hp'
  obtain ⟨f, fm⟩ := whP_RR P.h P.ho P.hm r hr
  obtain ⟨a, ha, hal⟩ := f.a
  have ea : r.a.toNat = a := by omega
  by_cases h2 : r.t.i = 2
  · rw [if_pos h2, List.mem_singleton] at hpr
    subst hpr
    have hDl : (imgP J K).D.length = (whP J).D.length := by unfold imgP; rw [imP_is]; exact set_length _ _
    refine ⟨by omega, by omega, wdP (plcP J K) r, ?_, wd_start P f.t h2 (fm h2).1 (fm h2).2⟩
    have hp := whP_Rne P.h P.ho
    unfold imgP; rw [imP_is]
    simp only
    obtain ⟨Q1, Q2, hq⟩ := List.append_of_mem hr
    rw [hq] at hp ⊢
    rw [List.pairwise_append] at hp
    obtain ⟨_, hp2, _⟩ := hp
    rw [List.pairwise_cons] at hp2
    rw [List.foldl_append, List.foldl_cons, set_other (fun q hq => (hp2.1 q hq).symm), List.getElem?_set_self (by rw [set_length]; omega)]
  · rw [if_neg h2] at hpr; cases hpr
/-- each start: an instruction; a branch goes to a start, a jump's second word is a place -/
theorem goes_st (P : PgOk J K) (hw : ∀ w ∈ (whP J).C, 0 ≤ w ∧ w < 4294967296) : ∀ p ∈ (imgP J K).st, 0 ≤ p ∧ p < (imgP J K).C.length ∧ ∃ w, (imgP J K).C[p.toNat]? = some w ∧ 0 ≤ w ∧ w < 4294967296 ∧ opW w ≠ 0 ∧
    (brB (opW w) = true → p + (if w % 256 < 128 then w % 256 else w % 256 - 256) ∈ (imgP J K).st) ∧ (farB (opW w) = true → p + 1 ∈ (imgP J K).pl) := by
  intro p hp
  obtain ⟨k, hk, hK, rfl⟩ := (img_st p).1 hp
  have hinc := P.inc.i k (k + 1) (by omega) (by omega)
  have hend := P.inc.le (j := k + 1) (by omega) (Nat.le_refl (whP J).C.length)
  have hnn := P.inc.nn (k := k) (by omega)
  have hCl := img_Cl P
  have hpl : ∀ v, v ∈ (whP J).Q.flatMap (pfx (plcP J K)) → v ∈ (imgP J K).pl := fun v h => by unfold imgP; rw [imP_is]; exact h
  obtain ⟨s1, s2, s3⟩ := start_ok P.h P.ho P.hm P.hl hk hK
  have hw0 := hw _ (List.mem_of_getElem? (l := (whP J).C) (i := k) (by rw [List.getElem?_eq_getElem hk]))
  have hgd : (whP J).C.getD k 0 = (whP J).C[k] := by rw [List.getD, List.getElem?_eq_getElem hk]; rfl
  rw [← hgd] at hw0
  refine ⟨hnn, by omega, ?_⟩
  by_cases hex : ∃ r ∈ (whP J).Q, r.a = k
  · obtain ⟨r, hr, ha⟩ := hex
    have ea : r.a.toNat = k := by omega
    have q := P.q r hr
    have hk2 : r.k = 2 := by
      rcases q.k with e | e
      · exact absurd (by rw [ea]; exact hK) (q.w e)
      · exact e
    obtain ⟨t2, _, mb⟩ := q.b hk2
    rw [ea] at mb
    obtain ⟨C', hC', he⟩ := code_at P hr (i := (plcP J K k).toNat) (by rw [ea]; omega) (by rw [ea]; omega)
    by_cases h3 : plcP J K (k + 1) - plcP J K k = 2
    · obtain ⟨g1, g2, g3, g4⟩ := long_word mb
      refine ⟨lgW ((whP J).C.getD k 0), ?_, g3, g4, g2, fun h => (by rw [g1] at h; cases h), fun _ => hpl _ (List.mem_flatMap.2 ⟨r, hr, ?_⟩)⟩
      · rw [he]; unfold cfx
        rw [if_neg (by omega), ea, if_pos h3, List.getElem?_set_ne (by omega), List.getElem?_set_self (by omega)]
      · unfold pfx; rw [if_neg (by omega), ea, if_pos h3]; exact List.mem_singleton.2 rfl
    · obtain ⟨n1, n2⟩ := P.near hr hk2 (by rw [ea]; exact h3)
      obtain ⟨_, t, ht, htl⟩ := q.t.2 (by omega)
      have et : r.t.a.toNat = t := by omega
      have mt := (q.m t2).1
      rw [et] at n1 n2 mt
      rw [ea] at n1 n2
      obtain ⟨g1, g2, g3, g4⟩ := short_word (d := plcP J K t - plcP J K k) hw0 mb
      refine ⟨(whP J).C.getD k 0 / 256 * 256 + (plcP J K t - plcP J K k) % 256, ?_, g2, g3, by rw [g1]; exact s1, fun _ => ?_, fun h => ?_⟩
      · rw [he]; unfold cfx
        rw [if_neg (by omega), ea, if_neg h3, et, List.getElem?_set_self (by omega)]
      · rw [g4]
        refine (img_st _).2 ⟨t, htl, mt, ?_⟩
        split <;> omega
      · rw [g1] at h
        exfalso
        unfold brB at mb
        unfold farB at h
        have := of_decide_eq_true mb
        have := of_decide_eq_true h
        omega
  · have hQ : ∀ r ∈ (whP J).Q, r.a.toNat < (whP J).C.length ∧ r.a.toNat ≠ k := fun r hr => by
      obtain ⟨a, ha, hal⟩ := (P.q r hr).a
      exact ⟨by omega, fun e => hex ⟨r, hr, by omega⟩⟩
    refine ⟨(whP J).C.getD k 0, ?_, hw0.1, hw0.2, s1, fun hb => ?_, fun hb => ?_⟩
    · unfold imgP; rw [imP_is]
      show ((whP J).Q.foldl (cfx (whP J) (plcP J K)) (imC (whP J) (plcP J K) (whP J).C.length))[_]? = _
      rw [foldcfx_none P.inc hk hQ (by omega) (by omega)]
      exact imC_get P.inc _ (Nat.le_refl _) k hk
    · obtain ⟨r, hr, ha, _⟩ := s2 hb
      exact absurd ⟨r, hr, ha⟩ hex
    · obtain ⟨k1, m0, r, hr, ha, hr1, ht⟩ := s3 hb
      refine hpl _ (List.mem_flatMap.2 ⟨r, hr, ?_⟩)
      have ea : r.a.toNat = k + 1 := by omega
      unfold pfx
      rw [if_pos hr1, if_pos ht, ea]
      have hl1 : plcP J K (k + 1) = plcP J K k + 1 := by
        obtain ⟨y, hy⟩ : ∃ m, (whP J).K[k + 1]? = some m := ⟨_, List.getElem?_eq_getElem (by rw [whP_kl P.h]; exact k1)⟩
        obtain rfl : y = 0 := by rw [getD_of hy] at m0; exact m0
        obtain ⟨z, hz⟩ : ∃ m, (whP J).K[k]? = some m := ⟨_, List.getElem?_eq_getElem (by rw [whP_kl P.h]; exact hk)⟩
        obtain rfl : z = 1 := by rw [getD_of hz] at hK; exact hK
        show ldN _ _ _ = ldN _ _ _ + 1
        rw [ldN_in k1, ldN_in hk, getD_of hy, getD_of hz, if_pos rfl, if_neg (by decide), itOf_more hy, itOf_new hz (by decide), itN_succ hz, if_neg (by decide), Nat.add_sub_cancel]
        omega
      rw [hl1]; exact List.mem_singleton.2 rfl
theorem goes_e (P : PgOk J K) : (imgP J K).e - 2048 ∈ (imgP J K).st := by
  have htg := (lkD_tgt P.h P.ho P.e).2
  obtain ⟨_, t, ht, htl⟩ := htg.2 (by have := P.e; omega)
  have hu := P.up htl
  have et : (lkD J.M nmMainL).a.toNat = t := by omega
  have mk : (whP J).K.getD t 0 = 1 := by
    cases hq : lkp J.M nmMainL with
    | none => have := P.e; unfold lkD at this; rw [hq] at this; exact absurd this (by decide)
    | some q =>
      have h2 := P.e
      rw [lkD_some hq] at h2 et
      rw [← et]
      exact lkp_mark P.h P.ho hq h2
  refine (img_st _).2 ⟨t, htl, mk, ?_⟩
  have : (imgP J K).e = adP (plcP J K) (lkD J.M nmMainL) := by unfold imgP; rw [imP_is]
  rw [this, adP_code P.e, et]
  omega
end
end Go.Proofs.YteanjchbnaoopaaDoor
