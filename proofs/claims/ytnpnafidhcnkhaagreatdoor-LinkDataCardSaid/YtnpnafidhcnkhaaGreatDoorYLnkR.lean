/- Joined objects on plain data: where each part begins, where a shared symbol stands; all as one. -/
import Derived.Test.YtnpnafidhcnkhaaGreatDoorYLnk6
import Derived.Test.YtnpnafidhcnkhaaGreatDoorYLnkP
import Derived.Test.YtnpnafidhcnkhaaGreatDoorYLnk2
namespace Go.Proofs.YtnpnafidhcnkhaaGreatDoor
open Go.RowKit
def sumDL (l : List Pt) : Nat := (l.map fun p => p.x.D.length).sum
def sumCL (l : List Pt) : Nat := (l.map fun p => p.x.C.length).sum
theorem sumDL_snoc (l : List Pt) (p : Pt) : sumDL (l ++ [p]) = sumDL l + p.x.D.length := by simp [sumDL]
theorem sumCL_snoc (l : List Pt) (p : Pt) : sumCL (l ++ [p]) = sumCL l + p.x.C.length := by simp [sumCL]
/-- what holds of objects that are joined so far -/
structure JnOk (J : Jn) : Prop where
  d : J.d = sumDL J.ps
  c : J.c = sumCL J.ps
  v : ∀ p ∈ J.ps, validP (woC p.x) = none
  o : ∀ k p, J.ps[k]? = some p → p.d = sumDL (J.ps.take k) ∧ p.c = sumCL (J.ps.take k)
  m : ∀ e ∈ J.M, ∃ p ∈ J.ps, ∃ s ∈ p.x.S, globB s = true ∧ e.2 = ptSp p s
theorem addS_ok {p : Pt} {P : Sp → Prop} : ∀ (S : List Sy) (M M' : Mp), addS p S M = some M' → (∀ e ∈ M, P e.2) → (∀ s ∈ S, globB s = true → P (ptSp p s)) → ∀ e ∈ M', P e.2
  | [], M, M', h, hM, _ => by obtain rfl := Option.some.inj h; exact hM
  | s :: r, M, M', h, hM, hS => by
    unfold addS at h
    by_cases hg : globB s = false
    · rw [if_pos hg] at h
      exact addS_ok r M M' h hM (fun s hs => hS s (List.mem_cons_of_mem _ hs))
    · rw [if_neg hg] at h
      split at h
      · cases h
      · refine addS_ok r _ M' h (fun e he => ?_) (fun s hs => hS s (List.mem_cons_of_mem _ hs))
        rcases List.mem_append.1 he with h1 | h1
        · exact hM e h1
        · obtain rfl := List.mem_singleton.1 h1
          exact hS s List.mem_cons_self (by simpa using hg)
theorem jn0_ok : JnOk jn0 := ⟨rfl, rfl, (by intro p hp; cases hp), (by intro k p hk; simp [jn0] at hk), (by intro e he; cases he)⟩
theorem jnAdd_ok {x : PO} {J J' : Jn} (h : JnOk J) (ha : jnAdd J x = .inr J') : JnOk J' := by
  obtain ⟨hv, hps, hd, hc⟩ := jnAdd_inr ha
  refine ⟨by rw [hd, hps, sumDL_snoc, h.d], by rw [hc, hps, sumCL_snoc, h.c], ?_, ?_, ?_⟩
  · intro p hp
    rw [hps] at hp
    rcases List.mem_append.1 hp with h1 | h1
    · exact h.v p h1
    · obtain rfl := List.mem_singleton.1 h1; exact hv
  · intro k p hk
    rw [hps] at hk ⊢
    by_cases hkl : k < J.ps.length
    · rw [List.getElem?_append_left hkl] at hk
      rw [List.take_append_of_le_length (Nat.le_of_lt hkl)]
      exact h.o k p hk
    · rw [List.getElem?_append_right (by omega)] at hk
      have hk0 : k = J.ps.length := by
        have := (List.getElem?_eq_some_iff.1 hk).1
        simp only [List.length_singleton] at this
        omega
      subst hk0
      rw [Nat.sub_self] at hk
      obtain rfl := Option.some.inj hk
      rw [List.take_append_of_le_length (Nat.le_refl _), List.take_length]
      exact ⟨h.d, h.c⟩
  · intro e he
    unfold jnAdd at ha
    rw [hv] at ha
    simp only at ha
    cases hs : addS ⟨x, J.d, J.c⟩ x.S J.M with
    | none => rw [hs] at ha; cases ha
    | some M =>
      rw [hs] at ha
      cases ha
      refine addS_ok (P := fun q => ∃ p ∈ J.ps ++ [⟨x, J.d, J.c⟩], ∃ s ∈ p.x.S, globB s = true ∧ q = ptSp p s) x.S J.M M hs (fun e he => ?_) (fun s hs hg => ?_) e he
      · obtain ⟨p, hp, r⟩ := h.m e he
        exact ⟨p, List.mem_append_left _ hp, r⟩
      · exact ⟨_, List.mem_append_right _ List.mem_cons_self, s, hs, hg, rfl⟩
theorem jnRun_ok : ∀ (l : List PO) (J J' : Jn), JnOk J → jnRun l J = (none, J') → JnOk J'
  | [], J, J', h, hr => by cases hr; exact h
  | x :: l, J, J', h, hr => by
    cases ha : jnAdd J x with
    | inl f =>
      rw [jnRun_no ha] at hr
      have hJ : J = J' := congrArg Prod.snd hr
      rw [← hJ]; exact h
    | inr J1 =>
      rw [jnRun_yes ha] at hr
      exact jnRun_ok l J1 J' (jnAdd_ok h ha) hr
/-- what join lets by -/
theorem joinP_ok {xs : List PO} {J : Jn} (h : joinP xs = (none, J)) : JnOk J ∧ J.ps.any (missB J.M) = false ∧ J.ps.any (leadB J.M) = false ∧ (lkD J.M nmMainL).i = 2 := by
  unfold joinP at h
  by_cases hl : 16 < xs.length
  · rw [if_pos hl] at h; cases h
  · rw [if_neg hl] at h
    cases hr : jnRun xs jn0 with
    | mk f J1 =>
      rw [hr] at h
      cases f with
      | some f => cases h
      | none =>
        simp only at h
        cases hm : J1.ps.findIdx? (missB J1.M) with
        | some k => rw [hm] at h; cases h
        | none =>
          rw [hm] at h
          simp only at h
          cases hd : J1.ps.findIdx? (leadB J1.M) with
          | some k => rw [hd] at h; cases h
          | none =>
            rw [hd] at h
            simp only at h
            by_cases hi : (lkD J1.M nmMainL).i = 2
            · rw [if_pos hi] at h
              cases h
              refine ⟨jnRun_ok xs jn0 _ jn0_ok hr, ?_, ?_, hi⟩
              · rw [List.findIdx?_eq_none_iff] at hm
                simpa [List.any_eq_false] using hm
              · rw [List.findIdx?_eq_none_iff] at hd
                simpa [List.any_eq_false] using hd
            · rw [if_neg hi] at h; cases h
/-! ### all as one -/
theorem foldl_whAdd (M : Mp) : ∀ (l : List Pt) (W : Wh), (l.foldl (whAdd M) W).C = W.C ++ (l.map (·.x.C)).flatten ∧ (l.foldl (whAdd M) W).D = W.D ++ (l.map (·.x.D)).flatten ∧ (l.foldl (whAdd M) W).K = W.K ++ (l.map (·.x.M)).flatten ∧
    (l.foldl (whAdd M) W).R = W.R ++ (l.map fun p => p.x.R.map (fxOf M p p.d)).flatten ∧ (l.foldl (whAdd M) W).Q = W.Q ++ (l.map fun p => p.x.Q.map (fxOf M p p.c)).flatten
  | [], W => by simp
  | p :: l, W => by
    rw [List.foldl_cons]
    obtain ⟨a, b, c, d, e⟩ := foldl_whAdd M l (whAdd M W p)
    refine ⟨by rw [a]; simp [whAdd], by rw [b]; simp [whAdd], by rw [c]; simp [whAdd], by rw [d]; simp [whAdd], by rw [e]; simp [whAdd]⟩
theorem whP_C (J : Jn) : (whP J).C = (J.ps.map (·.x.C)).flatten := by have h := (foldl_whAdd J.M J.ps wh0).1; unfold whP; rw [h]; rfl
theorem whP_D (J : Jn) : (whP J).D = (J.ps.map (·.x.D)).flatten := by have h := (foldl_whAdd J.M J.ps wh0).2.1; unfold whP; rw [h]; rfl
theorem whP_K (J : Jn) : (whP J).K = (J.ps.map (·.x.M)).flatten := by have h := (foldl_whAdd J.M J.ps wh0).2.2.1; unfold whP; rw [h]; rfl
theorem whP_R (J : Jn) : (whP J).R = (J.ps.map fun p => p.x.R.map (fxOf J.M p p.d)).flatten := by have h := (foldl_whAdd J.M J.ps wh0).2.2.2.1; unfold whP; rw [h]; rfl
theorem whP_Q (J : Jn) : (whP J).Q = (J.ps.map fun p => p.x.Q.map (fxOf J.M p p.c)).flatten := by have h := (foldl_whAdd J.M J.ps wh0).2.2.2.2; unfold whP; rw [h]; rfl
theorem len_flat {α β : Type} (f : α → List β) (l : List α) : ((l.map f).flatten).length = (l.map fun a => (f a).length).sum := by
  rw [List.length_flatten, List.map_map]; rfl
theorem whP_Cl {J : Jn} (h : JnOk J) : (whP J).C.length = J.c := by rw [whP_C, len_flat, h.c]; rfl
theorem whP_Dl {J : Jn} (h : JnOk J) : (whP J).D.length = J.d := by rw [whP_D, len_flat, h.d]; rfl
theorem whP_Kl {J : Jn} (h : JnOk J) : (whP J).K.length = J.c := by
  rw [whP_K, len_flat, h.c]
  unfold sumCL
  congr 1
  refine List.map_congr_left fun p hp => ?_
  have h1 := (valid_ok (h.v p hp)).len
  have h2 : (woC p.x).C.length = p.x.C.length := woCn_length p.x _
  rw [h2] at h1
  exact h1
end Go.Proofs.YtnpnafidhcnkhaaGreatDoor
namespace Go.Proofs.YtnpnafidhcnkhaaGreatDoor
open Go.RowKit
theorem first_mark {x : PO} (hv : validP (woC x) = none) (hC : 0 < x.C.length) : x.M[0]? ≠ some 0 := by
  intro h0
  have hok := valid_ok hv
  have hCl : (woC x).C.length = x.C.length := woCn_length x _
  have hw0 := hok.word 0 (by rw [hCl]; exact hC)
  have hm0 : mapN (woC x) 0 = 0 := by
    show x.M.getD 0 0 = 0
    rw [List.getD_eq_getElem?_getD, h0]; rfl
  unfold wordF opB at hw0
  rw [hm0] at hw0
  simp at hw0
  exact absurd hw0 (by decide)
/-- a branch goes to no data of its own object -/
theorem branch_sym {x : PO} (hv : validP (woC x) = none) {r : Rl} (hr : r ∈ x.Q) (h2 : r.k = 2) : (symN x r.s.toNat).i ≠ 1 := by
  have hok := valid_ok hv
  have hQl : (woC x).Q.length = x.Q.length := woQn_length x _
  obtain ⟨k, hk⟩ := List.getElem?_of_mem hr
  have hkl := (List.getElem?_eq_some_iff.1 hk).1
  have hwq : woQ x r = r := by unfold woQ; rw [if_neg (by rw [h2]; simp)]
  have hw : (woC x).Q[k]? = some r := by
    show (woQn x x.Q.length)[k]? = _
    rw [woQn_get hk, if_pos hkl, hwq]
  have h1 := hok.cod k (by rw [hQl]; exact hkl)
  unfold codeF at h1
  rw [rlN_get hw] at h1
  split at h1
  · cases h1
  · split at h1
    · cases h1
    · rename_i _ h3
      rw [not_or] at h3
      have h4 : repB (woC x) r = true := by simpa using h3.1
      unfold repB at h4
      rw [if_pos h2, Bool.and_eq_true] at h4
      have h5 := h4.2
      unfold toB at h5
      have hs : symN (woC x) r.s.toNat = symN x r.s.toNat := rfl
      rw [hs] at h5
      simpa using h5
theorem sumCL_take (l : List Pt) (k : Nat) : sumCL (l.take k) ≤ sumCL l := by
  have h : l = l.take k ++ l.drop k := (List.take_append_drop k l).symm
  conv => rhs; rw [h]
  unfold sumCL
  rw [List.map_append, List.sum_append]
  exact Nat.le_add_right _ _
theorem sumDL_take (l : List Pt) (k : Nat) : sumDL (l.take k) ≤ sumDL l := by
  have h : l = l.take k ++ l.drop k := (List.take_append_drop k l).symm
  conv => rhs; rw [h]
  unfold sumDL
  rw [List.map_append, List.sum_append]
  exact Nat.le_add_right _ _
theorem in_total {J : Jn} (h : JnOk J) {p : Pt} (hp : p ∈ J.ps) : p.c + p.x.C.length ≤ J.c ∧ p.d + p.x.D.length ≤ J.d := by
  obtain ⟨k, hk⟩ := List.getElem?_of_mem hp
  obtain ⟨hd, hc⟩ := h.o k p hk
  have h1 := sumCL_take J.ps (k + 1)
  have h2 := sumDL_take J.ps (k + 1)
  rw [List.take_add_one, hk] at h1 h2
  have e1 := sumCL_snoc (J.ps.take k) p
  have e2 := sumDL_snoc (J.ps.take k) p
  simp only [Option.toList_some] at h1 h2
  rw [e1] at h1
  rw [e2] at h2
  rw [h.c, h.d, hc, hd]
  exact ⟨h1, h2⟩
theorem lkp_mem : ∀ {M : Mp} {n : ByteArray} {s : Sp}, lkp M n = some s → ∃ e ∈ M, e.2 = s
  | [], n, s, h => by cases h
  | p :: M, n, s, h => by
    rw [lkp_cons] at h
    by_cases e : p.1 = n
    · rw [if_pos e] at h
      exact ⟨p, List.mem_cons_self, Option.some.inj h⟩
    · rw [if_neg e] at h
      obtain ⟨q, hq, r⟩ := lkp_mem h
      exact ⟨q, List.mem_cons_of_mem _ hq, r⟩
/-- where a symbol of a part's own stands, in code -/
theorem ptSp_code {J : Jn} (h : JnOk J) {p : Pt} (hp : p ∈ J.ps) (ho : PtOk p) {s : Sy} (hs : s ∈ p.x.S) (h2 : s.i = 2) : ∃ c : Nat, (ptSp p s).a = c ∧ c < J.c := by
  obtain ⟨⟨v0, _⟩, _, _, h4⟩ := ho.s s hs
  obtain ⟨h5, _⟩ := h4 h2
  have h6 := (in_total h hp).1
  refine ⟨p.c + s.v.toNat, ?_, by omega⟩
  unfold ptSp
  rw [if_neg (by omega)]
  simp only
  omega
theorem branch_ok {J : Jn} (h : JnOk J) (ho : ∀ p ∈ J.ps, PtOk p) (hm : J.ps.any (missB J.M) = false) (hl : J.ps.any (leadB J.M) = false) :
    ∀ r ∈ (whP J).Q, r.k = 2 → ∃ a c : Nat, r.a = a ∧ a < (whP J).C.length ∧ r.t.a = c ∧ c < (whP J).C.length := by
  intro r hr h2
  rw [whP_Cl h]
  rw [whP_Q] at hr
  obtain ⟨l, hl1, hr⟩ := List.mem_flatten.1 hr
  obtain ⟨p, hp, rfl⟩ := List.mem_map.1 hl1
  obtain ⟨r0, hr0, rfl⟩ := List.mem_map.1 hr
  have hpo := ho p hp
  obtain ⟨⟨a0, a1⟩, ⟨s0, s1⟩, _, _⟩ := hpo.q r0 hr0
  have hin := (in_total h hp).1
  have h20 : r0.k = 2 := h2
  obtain ⟨s, hs⟩ : ∃ s, p.x.S[r0.s.toNat]? = some s := ⟨_, List.getElem?_eq_getElem (by omega)⟩
  have hsn : symN p.x r0.s.toNat = s := by unfold symN; rw [List.getD_eq_getElem?_getD, hs]; rfl
  have hsm := List.mem_of_getElem? hs
  have hn1 := branch_sym (h.v p hp) hr0 h20
  rw [hsn] at hn1
  have hi := (hpo.s s hsm).2.1
  have hT : ∃ c : Nat, (spOf J.M p s).a = c ∧ c < J.c := by
    unfold spOf
    by_cases i3 : s.i = 3
    · rw [if_pos i3]
      rw [List.any_eq_false] at hm hl
      have hm1 := hm p hp
      unfold missB at hm1
      rw [Bool.not_eq_true, List.any_eq_false] at hm1
      have hm2 := hm1 s hsm
      simp only [i3, decide_true, Bool.and_true, Bool.not_eq_true', Bool.not_eq_false] at hm2
      obtain ⟨q, hq⟩ := Option.isSome_iff_exists.1 hm2
      have hl1 := hl p hp
      unfold leadB at hl1
      rw [Bool.not_eq_true, List.any_eq_false] at hl1
      have hl2 := hl1 r0 hr0
      rw [hsn, jump_two h20] at hl2
      unfold spOf at hl2
      rw [if_pos i3, lkD_some hq] at hl2
      simp only [i3, decide_true, Bool.true_and, Bool.and_true, decide_eq_true_eq] at hl2
      rw [lkD_some hq]
      obtain ⟨e, he, rfl⟩ := lkp_mem hq
      obtain ⟨p', hp', s', hs', hg, hq'⟩ := h.m e he
      have hs3 : s'.i ≠ 3 := by unfold globB at hg; simp at hg; exact hg.2
      have hi' := ((ho p' hp').s s' hs').2.1
      have hpi : e.2.i = s'.i := by rw [hq']; unfold ptSp; split <;> rfl
      rw [hpi] at hl2
      rw [hq']
      exact ptSp_code h hp' (ho p' hp') hs' (by omega)
    · rw [if_neg i3]
      exact ptSp_code h hp hpo hsm (by omega)
  obtain ⟨c, hc1, hc2⟩ := hT
  refine ⟨p.c + r0.a.toNat, c, ?_, by omega, ?_, hc2⟩
  · show ((p.c : Nat) : Int) + r0.a = _
    omega
  · show (spOf J.M p (symN p.x r0.s.toNat)).a = _
    rw [hsn]; exact hc1
/-- the first word of all code is no second one -/
theorem flat_first : ∀ (l : List Pt), (∀ p ∈ l, p.x.M.length = p.x.C.length) → (∀ p ∈ l, 0 < p.x.C.length → p.x.M[0]? ≠ some 0) → ((l.map (·.x.M)).flatten)[0]? ≠ some 0
  | [], _, _ => by simp
  | p :: l, hl, h => by
    rw [List.map_cons, List.flatten_cons]
    by_cases e : p.x.M.length = 0
    · rw [List.eq_nil_of_length_eq_zero e, List.nil_append]
      exact flat_first l (fun q hq => hl q (List.mem_cons_of_mem _ hq)) (fun q hq => h q (List.mem_cons_of_mem _ hq))
    · rw [List.getElem?_append_left (by omega)]
      exact h p List.mem_cons_self (by have := hl p List.mem_cons_self; omega)
theorem whP_first {J : Jn} (h : JnOk J) (ho : ∀ p ∈ J.ps, PtOk p) : (whP J).K[0]? ≠ some 0 := by
  rw [whP_K]
  exact flat_first J.ps (fun p hp => (ho p hp).len) (fun p hp hC => first_mark (h.v p hp) hC)
end Go.Proofs.YtnpnafidhcnkhaaGreatDoor
namespace Go.Proofs.YtnpnafidhcnkhaaGreatDoor
open Go.RowKit
theorem itN_zero (K : List Int) : itN K 0 = 0 := by simp [itN]
theorem itN_succ {K : List Int} {n : Nat} {m : Int} (h : K[n]? = some m) : itN K (n + 1) = itN K n + (if m = 0 then 0 else 1) := by
  unfold itN
  rw [List.take_add_one, h, List.filter_append, List.length_append]
  by_cases e : m = 0 <;> simp [e]
theorem itN_le (K : List Int) (n : Nat) : itN K n ≤ n := by
  unfold itN
  have h := List.length_filter_le (fun m : Int => !decide (m = 0)) (K.take n)
  rw [List.length_take] at h
  omega
theorem itN_mono (K : List Int) {a b : Nat} (h : a ≤ b) : itN K a ≤ itN K b := by
  unfold itN
  have : K.take a = (K.take b).take a := by rw [List.take_take, Nat.min_eq_left h]
  rw [this]
  exact (List.Sublist.filter _ (List.take_sublist a (K.take b))).length_le
theorem getD_of {K : List Int} {n : Nat} {m : Int} (h : K[n]? = some m) : K.getD n 0 = m := by rw [List.getD, h]; rfl
theorem itW_length {K : List Int} : ∀ {n : Nat}, n ≤ K.length → (itW K n).length = itN K n
  | 0, _ => by simp [itW, itN]
  | n + 1, h => by
    obtain ⟨m, hm⟩ : ∃ m, K[n]? = some m := ⟨_, List.getElem?_eq_getElem (by omega)⟩
    have ih := itW_length (K := K) (n := n) (by omega)
    unfold itW
    rw [itN_succ hm, getD_of hm]
    by_cases e : m = 0
    · rw [if_pos e, if_pos e, List.length_modify, ih]; omega
    · rw [if_neg e, if_neg e, List.length_append, ih]; rfl
/-- the first word of all is no second one -/
theorem itN_pos {K : List Int} (h0 : K[0]? ≠ some 0) {n : Nat} (hn : n < K.length) : 0 < itN K (n + 1) := by
  obtain ⟨m, hm⟩ : ∃ m, K[0]? = some m := ⟨_, List.getElem?_eq_getElem (by omega)⟩
  have h1 : itN K 1 = 1 := by
    rw [itN_succ hm, itN_zero, if_neg (by rintro rfl; exact h0 hm)]
  have := itN_mono K (show 1 ≤ n + 1 by omega)
  omega
theorem itOf_lt {K : List Int} (h0 : K[0]? ≠ some 0) {n : Nat} (hn : n < K.length) : itOf K n < itN K K.length := by
  have h1 := itN_pos h0 hn
  have h2 := itN_mono K (show n + 1 ≤ K.length by omega)
  unfold itOf; omega
/-- a word more: an item begins -/
theorem itW_new {K : List Int} {n : Nat} {m : Int} (h : K[n]? = some m) (hm : m ≠ 0) : itW K (n + 1) = itW K n ++ [⟨1, 0, false⟩] := by
  show (if K.getD n 0 = 0 then _ else _) = _
  rw [getD_of h, if_neg hm]
theorem itW_more {K : List Int} {n : Nat} (h : K[n]? = some 0) : itW K (n + 1) = (itW K n).modify (itOf K n) (fun r => ⟨r.s + 1, r.t, r.b⟩) := by
  show (if K.getD n 0 = 0 then _ else _) = _
  rw [getD_of h, if_pos rfl]
theorem itOf_new {K : List Int} {n : Nat} {m : Int} (h : K[n]? = some m) (hm : m ≠ 0) : itOf K n = itN K n := by
  unfold itOf; rw [itN_succ h, if_neg hm]; omega
theorem itOf_more {K : List Int} {n : Nat} (h : K[n]? = some 0) : itOf K n = itN K n - 1 := by
  unfold itOf; rw [itN_succ h, if_pos rfl]; rfl
/-- which item each of the first n words is of; the others are not told yet -/
def ofL (K : List Int) (N n : Nat) : List Int := (List.range N).map fun k => if k < n then (itOf K k : Int) else 0
theorem ofL_length (K : List Int) (N n : Nat) : (ofL K N n).length = N := by simp [ofL]
theorem ofL_zero (K : List Int) (N : Nat) : ofL K N 0 = List.replicate N 0 := by
  apply List.ext_getElem?
  intro k
  unfold ofL
  by_cases h : k < N
  · rw [List.getElem?_map, List.getElem?_range h, List.getElem?_replicate, if_pos h]; rfl
  · rw [List.getElem?_eq_none (by simp; omega), List.getElem?_eq_none (by simp; omega)]
theorem ofL_get {K : List Int} {N n k : Nat} (h : k < N) : (ofL K N n)[k]? = some (if k < n then (itOf K k : Int) else 0) := by
  unfold ofL; rw [List.getElem?_map, List.getElem?_range h]; rfl
theorem ofL_set {K : List Int} {N n : Nat} : (ofL K N n).set n (itOf K n : Int) = ofL K N (n + 1) := by
  apply List.ext_getElem?
  intro k
  by_cases h : k < N
  · rw [List.getElem?_set, ofL_get h, ofL_get h, ofL_length]
    by_cases e : n = k
    · subst e; rw [if_pos rfl, if_pos h, if_pos (by omega)]
    · rw [if_neg e]
      by_cases a : k < n
      · rw [if_pos a, if_pos (by omega)]
      · rw [if_neg a, if_neg (by omega)]
  · rw [List.getElem?_eq_none (by simp [ofL_length]; omega), List.getElem?_eq_none (by rw [ofL_length]; omega)]
/-- branches, the first n repairs -/
def itB (W : Wh) (n : Nat) : List RIt := (W.Q.take n).foldl (itBr W.K) (itW W.K W.C.length)
theorem itB_zero (W : Wh) : itB W 0 = itW W.K W.C.length := rfl
theorem itB_all (W : Wh) : itB W W.Q.length = itsP W := by unfold itB itsP; rw [List.take_length]
theorem itB_succ {W : Wh} {n : Nat} {r : Fx} (h : W.Q[n]? = some r) : itB W (n + 1) = itBr W.K (itB W n) r := by
  unfold itB; rw [List.take_add_one, h, List.foldl_append]; rfl
theorem itBr_length (K : List Int) (I : List RIt) (r : Fx) : (itBr K I r).length = I.length := by
  unfold itBr; split
  · rw [List.length_modify]
  · rfl
theorem itB_length {W : Wh} (hk : W.C.length ≤ W.K.length) : ∀ n, (itB W n).length = itN W.K W.C.length
  | 0 => by rw [itB_zero, itW_length hk]
  | n + 1 => by
    by_cases h : n < W.Q.length
    · rw [itB_succ (List.getElem?_eq_getElem h), itBr_length, itB_length hk n]
    · have e : itB W (n + 1) = itB W n := by unfold itB; rw [List.take_of_length_le (by omega), List.take_of_length_le (by omega)]
      rw [e, itB_length hk n]
/-! ### laid out -/
theorem rngL_set {N i : Nat} {f g : Nat → Int} {v : Int} (h : ∀ j, j < N → g j = if j = i then v else f j) : ((List.range N).map f).set i v = (List.range N).map g := by
  apply List.ext_getElem?
  intro j
  by_cases hj : j < N
  · rw [List.getElem?_set, List.getElem?_map, List.getElem?_map, List.getElem?_range hj]
    have := h j hj
    by_cases e : i = j
    · subst e
      rw [if_pos rfl] at this
      simp [hj, this]
    · rw [if_neg (Ne.symm e)] at this
      simp [e, this]
  · rw [List.getElem?_eq_none (by simp; omega), List.getElem?_eq_none (by simp; omega)]
/-- the first n places told -/
def ldF (W : Wh) (L : List Bool) (n : Nat) : List Int := (List.range (W.C.length + 1)).map fun k => if k < n then ldN W L k else 0
theorem ldF_length (W : Wh) (L : List Bool) (n : Nat) : (ldF W L n).length = W.C.length + 1 := by simp [ldF]
theorem ldF_zero (W : Wh) (L : List Bool) : ldF W L 0 = List.replicate (W.C.length + 1) 0 := by
  apply List.ext_getElem?
  intro k
  unfold ldF
  by_cases h : k < W.C.length + 1
  · rw [List.getElem?_map, List.getElem?_range h, List.getElem?_replicate, if_pos h]; rfl
  · rw [List.getElem?_eq_none (by simp; omega), List.getElem?_eq_none (by simp; omega)]
theorem ldF_get {W : Wh} {L : List Bool} {n k : Nat} (h : k < W.C.length + 1) : (ldF W L n)[k]? = some (if k < n then ldN W L k else 0) := by
  unfold ldF; rw [List.getElem?_map, List.getElem?_range h]; rfl
theorem ldF_set {W : Wh} {L : List Bool} {n : Nat} : (ldF W L n).set n (ldN W L n) = ldF W L (n + 1) := by
  apply rngL_set
  intro j _
  by_cases e : j = n
  · subst e; rw [if_pos rfl, if_pos (by omega)]
  · rw [if_neg e]
    by_cases a : j < n
    · rw [if_pos a, if_pos (by omega)]
    · rw [if_neg a, if_neg (by omega)]
/-- a place put first, then one more -/
theorem ldF_set2 {W : Wh} {L : List Bool} {n : Nat} (v : Int) : ((ldF W L n).set n v).set n (ldN W L n) = ldF W L (n + 1) := by
  rw [List.set_set, ldF_set]
theorem ldF_all (W : Wh) (L : List Bool) : ldF W L (W.C.length + 1) = ldL W L := by
  unfold ldF ldL
  refine List.map_congr_left fun k hk => ?_
  rw [if_pos (List.mem_range.1 hk)]
theorem ldN_in {W : Wh} {L : List Bool} {k : Nat} (h : k < W.C.length) : ldN W L k = plR (itsP W) L (itOf W.K k) + (if W.K.getD k 0 = 0 then 1 else 0) := by unfold ldN; rw [if_pos h]
theorem ldN_end (W : Wh) (L : List Bool) : ldN W L W.C.length = plR (itsP W) L (itsP W).length := by unfold ldN; rw [if_neg (by omega)]
end Go.Proofs.YtnpnafidhcnkhaaGreatDoor
namespace Go.Proofs.YtnpnafidhcnkhaaGreatDoor
open Go.RowKit
/-- too long, once laid out -/
def lngB (X : Wh) (K : Nat) : Bool := !validR (itsP X) || (decide (2048 < ldN X (itR (itsP X) K) X.C.length) || decide (2048 < X.D.length))
/-- the item of a word has so many words at least -/
theorem itW_size {K : List Int} (h0 : K[0]? ≠ some 0) : ∀ n, n ≤ K.length → ∀ k, k < n → ∃ r, (itW K n)[itOf K k]? = some r ∧ (if K.getD k 0 = 0 then (2 : Int) else 1) ≤ r.s
  | 0, _, k, hk => by omega
  | n + 1, hn, k, hk => by
    obtain ⟨m, hm⟩ : ∃ m, K[n]? = some m := ⟨_, List.getElem?_eq_getElem (by omega)⟩
    have ih := itW_size h0 n (by omega)
    by_cases e : m = 0
    · subst e
      rw [itW_more hm]
      rcases Nat.lt_succ_iff_lt_or_eq.1 hk with h | rfl
      · obtain ⟨r, hr, hs⟩ := ih k h
        refine ⟨_, by rw [List.getElem?_modify, hr]; rfl, ?_⟩
        dsimp only
        by_cases q : itOf K n = itOf K k
        · rw [if_pos q]; simp only; omega
        · rw [if_neg q]; exact hs
      · have k1 : 1 ≤ k := by
          rcases Nat.eq_zero_or_pos k with rfl | h
          · exact absurd hm h0
          · exact h
        have hq : itOf K k = itOf K (k - 1) := by rw [itOf_more hm]; unfold itOf; rw [show k - 1 + 1 = k by omega]
        obtain ⟨r, hr, hs⟩ := ih (k - 1) (by omega)
        rw [← hq] at hr
        refine ⟨_, by rw [List.getElem?_modify, hr]; rfl, ?_⟩
        dsimp only
        rw [if_pos rfl, getD_of hm, if_pos rfl]
        simp only
        split at hs <;> omega
    · rw [itW_new hm e]
      rcases Nat.lt_succ_iff_lt_or_eq.1 hk with h | rfl
      · obtain ⟨r, hr, hs⟩ := ih k h
        exact ⟨r, by rw [List.getElem?_append_left (List.getElem?_eq_some_iff.1 hr).1, hr], hs⟩
      · refine ⟨⟨1, 0, false⟩, ?_, by rw [getD_of hm, if_neg e]; exact Int.le_refl _⟩
        rw [itOf_new hm e, ← itW_length (K := K) (n := k) (by omega), List.getElem?_append_right (Nat.le_refl _), Nat.sub_self]; rfl
theorem itBr_size (K : List Int) (I : List RIt) (r : Fx) (k : Nat) {x : RIt} (h : I[k]? = some x) : ∃ y, (itBr K I r)[k]? = some y ∧ y.s = x.s := by
  unfold itBr
  by_cases e : r.k = 2
  · rw [if_pos e, List.getElem?_modify, h]
    refine ⟨_, rfl, ?_⟩
    split <;> rfl
  · rw [if_neg e]; exact ⟨x, h, rfl⟩
theorem itsP_size {X : Wh} (h0 : X.K[0]? ≠ some 0) (hl : X.K.length = X.C.length) {k : Nat} (hk : k < X.C.length) : ∃ r, (itsP X)[itOf X.K k]? = some r ∧ (if X.K.getD k 0 = 0 then (2 : Int) else 1) ≤ r.s := by
  have h1 : ∀ (Q : List Fx) (I : List RIt), (∃ r, I[itOf X.K k]? = some r ∧ (if X.K.getD k 0 = 0 then (2 : Int) else 1) ≤ r.s) → ∃ r, (Q.foldl (itBr X.K) I)[itOf X.K k]? = some r ∧ (if X.K.getD k 0 = 0 then (2 : Int) else 1) ≤ r.s := by
    intro Q
    induction Q with
    | nil => exact fun I h => h
    | cons q Q ih =>
      intro I ⟨r, hr, hs⟩
      obtain ⟨y, hy, e⟩ := itBr_size X.K I q _ hr
      exact ih _ ⟨y, hy, by rw [e]; exact hs⟩
  exact h1 X.Q _ (itW_size h0 _ (by omega) k hk)
/-- places: from 0 on, each word's ahead of the end -/
theorem ldN_bd {X : Wh} {L : List Bool} (h0 : X.K[0]? ≠ some 0) (hl : X.K.length = X.C.length) (hv : validR (itsP X) = true) {k : Nat} (hk : k ≤ X.C.length) : 0 ≤ ldN X L k ∧ ldN X L k ≤ ldN X L X.C.length ∧ (k < X.C.length → ldN X L k + 1 ≤ ldN X L X.C.length) := by
  have hok : okR (itsP X) = true := by unfold validR at hv; rw [Bool.and_eq_true] at hv; exact hv.2
  rcases Nat.lt_or_eq_of_le hk with h | rfl
  · obtain ⟨r, hr, hs⟩ := itsP_size h0 hl h
    have hlt := (List.getElem?_eq_some_iff.1 hr).1
    have h1 := plR_mono (B := L) hok (Nat.succ_le_of_lt hlt)
    have h2 : plR (itsP X) L (itOf X.K k).succ = plR (itsP X) L (itOf X.K k) + szR (itsP X) L (itOf X.K k) := plR_succ _
    have h3 : r.s ≤ szR (itsP X) L (itOf X.K k) := by unfold szR sR; rw [hr]; simp only; split <;> omega
    have h4 := (plR_bd (B := L) hok (itOf X.K k)).1
    rw [ldN_end, ldN_in h]
    split <;> rename_i e <;> simp only [e] at hs <;> simp at hs <;> omega
  · have h4 := (plR_bd (B := L) hok (itsP X).length).1
    rw [ldN_end]
    exact ⟨h4, Int.le_refl _, fun h => by omega⟩
/-- where a repair goes: to data, or to a word of code -/
def TgtOk (n : Nat) (t : Sp) : Prop := (t.i = 1 → 0 ≤ t.a ∧ t.a ≤ 1000000) ∧ (t.i ≠ 1 → t.i = 2 ∧ ∃ k : Nat, t.a = k ∧ k < n)
theorem ptSp_tgt {J : Jn} (h : JnOk J) {p : Pt} (hp : p ∈ J.ps) (ho : PtOk p) {s : Sy} (hs : s ∈ p.x.S) (h3 : s.i ≠ 3) : TgtOk J.c (ptSp p s) := by
  obtain ⟨⟨v0, v1⟩, hi, _, _⟩ := ho.s s hs
  have hd := ho.dc.1
  rcases hi with h1 | h2 | h4
  · refine ⟨fun _ => ?_, fun e => absurd ?_ e⟩
    · unfold ptSp; rw [if_pos h1]; simp only; omega
    · unfold ptSp; rw [if_pos h1]; exact h1
  · refine ⟨fun e => ?_, fun _ => ⟨?_, ptSp_code h hp ho hs h2⟩⟩
    · unfold ptSp at e; rw [if_neg (by omega)] at e; simp only at e; omega
    · unfold ptSp; rw [if_neg (by omega)]; exact h2
  · exact absurd h4 h3
theorem lkp_tgt {J : Jn} (h : JnOk J) (ho : ∀ p ∈ J.ps, PtOk p) {n : ByteArray} {q : Sp} (hq : lkp J.M n = some q) : TgtOk J.c q := by
  obtain ⟨e, he, rfl⟩ := lkp_mem hq
  obtain ⟨p', hp', s', hs', hg, hq'⟩ := h.m e he
  have hs3 : s'.i ≠ 3 := by unfold globB at hg; simp at hg; exact hg.2
  rw [hq']
  exact ptSp_tgt h hp' (ho p' hp') hs' hs3
theorem spOf_tgt {J : Jn} (h : JnOk J) (ho : ∀ p ∈ J.ps, PtOk p) (hm : J.ps.any (missB J.M) = false) {p : Pt} (hp : p ∈ J.ps) {s : Sy} (hs : s ∈ p.x.S) : TgtOk J.c (spOf J.M p s) := by
  unfold spOf
  by_cases i3 : s.i = 3
  · rw [if_pos i3]
    rw [List.any_eq_false] at hm
    have hm1 := hm p hp
    unfold missB at hm1
    rw [Bool.not_eq_true, List.any_eq_false] at hm1
    have hm2 := hm1 s hs
    simp only [i3, decide_true, Bool.and_true, Bool.not_eq_true', Bool.not_eq_false] at hm2
    obtain ⟨q, hq⟩ := Option.isSome_iff_exists.1 hm2
    rw [lkD_some hq]
    exact lkp_tgt h ho hq
  · rw [if_neg i3]
    exact ptSp_tgt h hp (ho p hp) hs i3
theorem symN_mem {x : PO} {k : Int} (h0 : 0 ≤ k) (h1 : k < x.S.length) : symN x k.toNat ∈ x.S := by
  obtain ⟨s, hs⟩ : ∃ s, x.S[k.toNat]? = some s := ⟨_, List.getElem?_eq_getElem (by omega)⟩
  have hsn : symN x k.toNat = s := by unfold symN; rw [List.getD_eq_getElem?_getD, hs]; rfl
  rw [hsn]; exact List.mem_of_getElem? hs
/-- a repair of all data, of all code -/
structure FxOk (n N : Nat) (r : Fx) : Prop where
  a : ∃ k : Nat, r.a = k ∧ k < N
  k : r.k = 1 ∨ r.k = 2
  t : TgtOk n r.t
  d : -65536 ≤ r.d ∧ r.d ≤ 65536
theorem whP_Rok {J : Jn} (h : JnOk J) (ho : ∀ p ∈ J.ps, PtOk p) (hm : J.ps.any (missB J.M) = false) : ∀ r ∈ (whP J).R, FxOk (whP J).C.length (whP J).D.length r := by
  intro r hr
  rw [whP_Cl h, whP_Dl h]
  rw [whP_R] at hr
  obtain ⟨l, hl1, hr⟩ := List.mem_flatten.1 hr
  obtain ⟨p, hp, rfl⟩ := List.mem_map.1 hl1
  obtain ⟨r0, hr0, rfl⟩ := List.mem_map.1 hr
  obtain ⟨⟨a0, a1⟩, ⟨s0, s1⟩, hk, hd⟩ := (ho p hp).r r0 hr0
  have hin := (in_total h hp).2
  refine ⟨⟨p.d + r0.a.toNat, ?_, by omega⟩, .inl hk, spOf_tgt h ho hm hp (symN_mem s0 s1), hd⟩
  show ((p.d : Nat) : Int) + r0.a = _
  omega
theorem whP_Qok {J : Jn} (h : JnOk J) (ho : ∀ p ∈ J.ps, PtOk p) (hm : J.ps.any (missB J.M) = false) : ∀ r ∈ (whP J).Q, FxOk (whP J).C.length (whP J).C.length r := by
  intro r hr
  rw [whP_Cl h]
  rw [whP_Q] at hr
  obtain ⟨l, hl1, hr⟩ := List.mem_flatten.1 hr
  obtain ⟨p, hp, rfl⟩ := List.mem_map.1 hl1
  obtain ⟨r0, hr0, rfl⟩ := List.mem_map.1 hr
  obtain ⟨⟨a0, a1⟩, ⟨s0, s1⟩, hk, _, hd⟩ := (ho p hp).q r0 hr0
  have hin := (in_total h hp).1
  refine ⟨⟨p.c + r0.a.toNat, ?_, by omega⟩, hk, spOf_tgt h ho hm hp (symN_mem s0 s1), hd⟩
  show ((p.c : Nat) : Int) + r0.a = _
  omega
/-- a branch goes to code -/
theorem whP_Qbr {J : Jn} (h : JnOk J) (ho : ∀ p ∈ J.ps, PtOk p) (hm : J.ps.any (missB J.M) = false) (hl : J.ps.any (leadB J.M) = false) : ∀ r ∈ (whP J).Q, r.k = 2 → ∃ c : Nat, r.t.a = c ∧ c < (whP J).C.length := by
  intro r hr h2
  obtain ⟨a, c, _, _, h3, h4⟩ := branch_ok h ho hm hl r hr h2
  exact ⟨c, h3, h4⟩
theorem lkD_tgt {J : Jn} (h : JnOk J) (ho : ∀ p ∈ J.ps, PtOk p) (hi : (lkD J.M nmMainL).i = 2) : (lkp J.M nmMainL).isSome = true ∧ TgtOk (whP J).C.length (lkD J.M nmMainL) := by
  cases hq : lkp J.M nmMainL with
  | none => unfold lkD at hi; rw [hq] at hi; exact absurd hi (by decide)
  | some q =>
    refine ⟨rfl, ?_⟩
    rw [lkD_some hq, whP_Cl h]
    exact lkp_tgt h ho hq
/-! ### the image, word by word -/
theorem imC_length (X : Wh) (l : Nat → Int) : ∀ n, (imC X l n).length = (l X.C.length).toNat
  | 0 => by simp [imC]
  | n + 1 => by unfold imC; rw [List.length_set, imC_length X l n]
theorem imS_length (X : Wh) (l : Nat → Int) : ∀ n, (imS X l n).length ≤ n
  | 0 => by simp [imS]
  | n + 1 => by
    have := imS_length X l n
    unfold imS
    split
    · rw [List.length_append, List.length_singleton]; omega
    · omega
theorem imS_yes {X : Wh} {l : Nat → Int} {n : Nat} (h : X.K[n]? = some 1) : imS X l (n + 1) = imS X l n ++ [l n] := by
  show (if X.K.getD n 0 = 1 then _ else _) = _
  rw [getD_of h, if_pos rfl]
theorem imS_no {X : Wh} {l : Nat → Int} {n : Nat} {m : Int} (h : X.K[n]? = some m) (hm : m ≠ 1) : imS X l (n + 1) = imS X l n := by
  show (if X.K.getD n 0 = 1 then _ else _) = _
  rw [getD_of h, if_neg hm]
theorem imC_succ {X : Wh} {l : Nat → Int} {n : Nat} {w : Int} (h : X.C[n]? = some w) : imC X l (n + 1) = (imC X l n).set (l n).toNat w := by
  show (imC X l n).set (l n).toNat (X.C.getD n 0) = _
  rw [getD_of h]
end Go.Proofs.YtnpnafidhcnkhaaGreatDoor
namespace Go.Proofs.YtnpnafidhcnkhaaGreatDoor
open Go.RowKit
/-! ### second words -/
def secOk (L : List Int) : Prop := ∀ k : Nat, L[k]? = some 0 → ∃ j : Nat, k = j + 1 ∧ L[j]? = some 1
theorem secOk_flat : ∀ (l : List (List Int)), (∀ p ∈ l, secOk p) → secOk l.flatten
  | [], _ => by intro k h; simp at h
  | p :: l, h => by
    intro k hk
    rw [List.flatten_cons] at hk ⊢
    by_cases e : k < p.length
    · rw [List.getElem?_append_left e] at hk
      obtain ⟨j, rfl, hj⟩ := h p List.mem_cons_self k hk
      exact ⟨j, rfl, by rw [List.getElem?_append_left (by omega)]; exact hj⟩
    · rw [List.getElem?_append_right (by omega)] at hk
      obtain ⟨j, hj1, hj2⟩ := secOk_flat l (fun q hq => h q (List.mem_cons_of_mem _ hq)) _ hk
      refine ⟨j + p.length, by omega, ?_⟩
      rw [List.getElem?_append_right (by omega), Nat.add_sub_cancel]; exact hj2
theorem mapN_get {x : PO} {k : Nat} {m : Int} (h : x.M[k]? = some m) : mapN x k = m := by unfold mapN; rw [List.getD, h]; rfl
theorem sec_word {x : PO} (hv : validP (woC x) = none) (hl : x.M.length = x.C.length) : secOk x.M := by
  intro k hk
  have hok := valid_ok hv
  have hkl := (List.getElem?_eq_some_iff.1 hk).1
  have hCl : (woC x).C.length = x.C.length := woCn_length x _
  have hw := hok.word k (by omega)
  have hm : mapN (woC x) k = 0 := mapN_get hk
  unfold wordF at hw
  rw [hm] at hw
  simp only [show ¬ (0 : Int) = 1 by decide, if_false, if_true] at hw
  have h2 : twoB (opB (woC x) k) = true := by
    by_cases e : twoB (opB (woC x) k) = true
    · exact e
    · rw [if_neg e] at hw; cases hw
  unfold opB at h2
  by_cases k0 : k = 0
  · rw [if_pos k0] at h2; exact absurd h2 (by decide)
  · rw [if_neg k0] at h2
    unfold opN at h2
    refine ⟨k - 1, by omega, ?_⟩
    by_cases m1 : mapN (woC x) (k - 1) = 1
    · obtain ⟨m, hm'⟩ : ∃ m, x.M[k - 1]? = some m := ⟨_, List.getElem?_eq_getElem (by omega)⟩
      have : mapN (woC x) (k - 1) = m := mapN_get hm'
      rw [hm', ← this, m1]
    · rw [if_neg m1] at h2; exact absurd h2 (by decide)
theorem whP_sec {J : Jn} (ho : ∀ p ∈ J.ps, PtOk p) (h : JnOk J) : secOk (whP J).K := by
  rw [whP_K]
  refine secOk_flat _ (fun q hq => ?_)
  obtain ⟨p, hp, rfl⟩ := List.mem_map.1 hq
  exact sec_word (h.v p hp) (ho p hp).len
/-! ### sizes -/
section
variable {X : Wh} {L : List Bool}
/-- places rise -/
theorem ldN_lt (h0 : X.K[0]? ≠ some 0) (hl : X.K.length = X.C.length) (hv : validR (itsP X) = true) (hs : secOk X.K) {k : Nat} (hk : k < X.C.length) : ldN X L k < ldN X L (k + 1) := by
  have hok : okR (itsP X) = true := by unfold validR at hv; rw [Bool.and_eq_true] at hv; exact hv.2
  by_cases e : k + 1 < X.C.length
  · obtain ⟨m, hm⟩ : ∃ m, X.K[k + 1]? = some m := ⟨_, List.getElem?_eq_getElem (by omega)⟩
    obtain ⟨q, hq⟩ : ∃ m, X.K[k]? = some m := ⟨_, List.getElem?_eq_getElem (by omega)⟩
    rw [ldN_in e, ldN_in hk, getD_of hm, getD_of hq]
    by_cases m0 : m = 0
    · subst m0
      obtain ⟨j, hj, hj1⟩ := hs _ hm
      obtain rfl : j = k := by omega
      obtain rfl : q = 1 := by rw [hj1] at hq; exact (Option.some.inj hq).symm
      rw [itOf_more hm, itOf_new hj1 (by decide), itN_succ hj1, if_neg (by decide), if_neg (by decide), if_pos rfl, Nat.add_sub_cancel]
      omega
    · have hq1 : itOf X.K (k + 1) = itOf X.K k + 1 := by
        have := itN_pos h0 (n := k) (by omega)
        rw [itOf_new hm m0]; unfold itOf; omega
      obtain ⟨r, hr, hsz⟩ := itsP_size h0 hl hk
      have h3 : r.s ≤ szR (itsP X) L (itOf X.K k) := by unfold szR sR; rw [hr]; simp only; split <;> omega
      rw [hq1, plR_succ, if_neg m0]
      rw [getD_of hq] at hsz
      split <;> rename_i hh <;> simp only [hh] at hsz <;> simp at hsz <;> omega
  · have e1 : k + 1 = X.C.length := by omega
    have := (ldN_bd (L := L) h0 hl hv (k := k) (by omega)).2.2 hk
    rw [e1]; omega
theorem ldN_lt' (h0 : X.K[0]? ≠ some 0) (hl : X.K.length = X.C.length) (hv : validR (itsP X) = true) (hs : secOk X.K) {j k : Nat} (hjk : j < k) (hk : k ≤ X.C.length) : ldN X L j < ldN X L k := by
  induction k with
  | zero => omega
  | succ k ih =>
    have h1 := ldN_lt (L := L) h0 hl hv hs (k := k) (by omega)
    rcases Nat.lt_succ_iff_lt_or_eq.1 hjk with h | rfl
    · have := ih h (by omega); omega
    · exact h1
end
end Go.Proofs.YtnpnafidhcnkhaaGreatDoor
namespace Go.Proofs.YtnpnafidhcnkhaaGreatDoor
open Go.RowKit
/-- places that rise -/
structure LInc (l : Nat → Int) (n : Nat) : Prop where
  z : 0 ≤ l 0
  i : ∀ j k, j < k → k ≤ n → l j < l k
theorem LInc.nn {l : Nat → Int} {n : Nat} (h : LInc l n) {k : Nat} (hk : k ≤ n) : 0 ≤ l k := by
  rcases Nat.eq_zero_or_pos k with rfl | e
  · exact h.z
  · have := h.i 0 k e hk; have := h.z; omega
theorem LInc.le {l : Nat → Int} {n : Nat} (h : LInc l n) {j k : Nat} (hj : j ≤ k) (hk : k ≤ n) : l j ≤ l k := by
  rcases Nat.lt_or_eq_of_le hj with e | rfl
  · have := h.i j k e hk; omega
  · exact Int.le_refl _
theorem LInc.ge {l : Nat → Int} {n : Nat} (h : LInc l n) : ∀ {k : Nat}, k ≤ n → (k : Int) ≤ l k
  | 0, _ => h.z
  | k + 1, hk => by
    have h1 := h.ge (k := k) (by omega)
    have h2 := h.i k (k + 1) (by omega) hk
    omega
/-- the code, a repair done -/
def cfx (X : Wh) (l : Nat → Int) (C : List Int) (r : Fx) : List Int :=
  if r.k = 1 then C.set (l r.a.toNat).toNat (wdP l r)
  else if l (r.a.toNat + 1) - l r.a.toNat = 2 then (C.set (l r.a.toNat).toNat (lgW (X.C.getD r.a.toNat 0))).set ((l r.a.toNat).toNat + 1) (wdP l r)
  else C.set (l r.a.toNat).toNat (X.C.getD r.a.toNat 0 / 256 * 256 + (l r.t.a.toNat - l r.a.toNat) % 256)
/-- the places that a repair tells -/
def pfx (l : Nat → Int) (r : Fx) : List Int :=
  if r.k = 1 then (if r.t.i = 2 then [l r.a.toNat] else [])
  else if l (r.a.toNat + 1) - l r.a.toNat = 2 then [l r.a.toNat + 1] else []
section
variable {X : Wh} {l : Nat → Int} {n : Nat}
theorem fxC_is (I : Im) (r : Fx) : fxC X l I r = ⟨I.e, I.D, cfx X l I.C r, I.dr, I.pl ++ pfx l r, I.st⟩ := by
  unfold fxC cfx pfx
  split
  · split <;> simp
  · split <;> simp
theorem foldC_is : ∀ (Q : List Fx) (I : Im), Q.foldl (fxC X l) I = ⟨I.e, I.D, Q.foldl (cfx X l) I.C, I.dr, I.pl ++ Q.flatMap (pfx l), I.st⟩
  | [], I => by simp
  | r :: Q, I => by rw [List.foldl_cons, fxC_is, foldC_is Q, List.foldl_cons, List.flatMap_cons, List.append_assoc]
theorem foldD_is : ∀ (R : List Fx) (I : Im), R.foldl (fxD l) I = ⟨I.e, R.foldl (fun D r => D.set r.a.toNat (wdP l r)) I.D, I.C, I.dr ++ R.flatMap (fun r => if r.t.i = 2 then [r.a] else []), I.pl, I.st⟩
  | [], I => by simp
  | r :: R, I => by
    rw [List.foldl_cons, foldD_is R, List.foldl_cons, List.flatMap_cons]
    unfold fxD
    split <;> simp
/-- the image, part by part -/
theorem imP_is (M : Mp) : imP X M l = ⟨adP l (lkD M nmMainL), X.R.foldl (fun D r => D.set r.a.toNat (wdP l r)) X.D, X.Q.foldl (cfx X l) (imC X l X.C.length), X.R.flatMap (fun r => if r.t.i = 2 then [r.a] else []), X.Q.flatMap (pfx l), imS X l X.C.length⟩ := by
  unfold imP
  rw [foldD_is, foldC_is]
  simp
theorem cfx_length (C : List Int) (r : Fx) : (cfx X l C r).length = C.length := by
  unfold cfx
  split
  · rw [List.length_set]
  · split <;> simp
theorem foldcfx_length : ∀ (Q : List Fx) (C : List Int), (Q.foldl (cfx X l) C).length = C.length
  | [], _ => rfl
  | r :: Q, C => by rw [List.foldl_cons, foldcfx_length Q, cfx_length]
/-- a repair leaves alone what is not its own word's -/
theorem cfx_other (hl : LInc l n) {C : List Int} {r : Fx} {i : Nat} (ha : r.a.toNat < n) (hi : (i : Int) < l r.a.toNat ∨ l (r.a.toNat + 1) ≤ (i : Int)) : (cfx X l C r)[i]? = C[i]? := by
  have h1 := hl.nn (k := r.a.toNat) (by omega)
  have h2 := hl.i r.a.toNat (r.a.toNat + 1) (by omega) (by omega)
  unfold cfx
  split
  · rw [List.getElem?_set_ne (by omega)]
  · split
    · rw [List.getElem?_set_ne (by omega), List.getElem?_set_ne (by omega)]
    · rw [List.getElem?_set_ne (by omega)]
theorem foldcfx_other (hl : LInc l n) {i : Nat} : ∀ {Q : List Fx} {C : List Int}, (∀ r ∈ Q, r.a.toNat < n ∧ ((i : Int) < l r.a.toNat ∨ l (r.a.toNat + 1) ≤ (i : Int))) → (Q.foldl (cfx X l) C)[i]? = C[i]?
  | [], _, _ => rfl
  | r :: Q, C, h => by
    rw [List.foldl_cons, foldcfx_other hl (fun q hq => h q (List.mem_cons_of_mem _ hq))]
    obtain ⟨h1, h2⟩ := h r List.mem_cons_self
    exact cfx_other hl h1 h2
/-- a word's places are its own -/
theorem apart_of (hl : LInc l n) {a k i : Nat} (ha : a < n) (hk : k < n) (hne : a ≠ k) (h1 : l k ≤ (i : Int)) (h2 : (i : Int) < l (k + 1)) : (i : Int) < l a ∨ l (a + 1) ≤ (i : Int) := by
  rcases Nat.lt_trichotomy a k with e | e | e
  · right; have := hl.le (j := a + 1) (k := k) (by omega) (by omega); omega
  · exact absurd e hne
  · left; have := hl.le (j := k + 1) (k := a) (by omega) (by omega); omega
/-- where no repair is, the word stands as it was -/
theorem foldcfx_none (hl : LInc l n) {Q : List Fx} {C : List Int} {k i : Nat} (hk : k < n) (hQ : ∀ r ∈ Q, r.a.toNat < n ∧ r.a.toNat ≠ k) (h1 : l k ≤ (i : Int)) (h2 : (i : Int) < l (k + 1)) : (Q.foldl (cfx X l) C)[i]? = C[i]? :=
  foldcfx_other hl (fun r hr => ⟨(hQ r hr).1, apart_of hl (hQ r hr).1 hk (hQ r hr).2 h1 h2⟩)
/-- where one is, it alone counts -/
theorem foldcfx_one (hl : LInc l n) {Q : List Fx} {C : List Int} {r : Fx} {i : Nat} (hr : r ∈ Q) (hp : Q.Pairwise fun a b => a.a.toNat ≠ b.a.toNat) (hQ : ∀ q ∈ Q, q.a.toNat < n) (h1 : l r.a.toNat ≤ (i : Int)) (h2 : (i : Int) < l (r.a.toNat + 1)) :
    ∃ C' : List Int, C'[i]? = C[i]? ∧ C'.length = C.length ∧ (Q.foldl (cfx X l) C)[i]? = (cfx X l C' r)[i]? := by
  obtain ⟨Q1, Q2, rfl⟩ := List.append_of_mem hr
  rw [List.pairwise_append] at hp
  obtain ⟨_, hp2, hp3⟩ := hp
  rw [List.pairwise_cons] at hp2
  refine ⟨Q1.foldl (cfx X l) C, ?_, foldcfx_length _ _, ?_⟩
  · exact foldcfx_none hl (hQ r hr) (fun q hq => ⟨hQ q (by simp [hq]), hp3 q hq r List.mem_cons_self⟩) h1 h2
  · rw [List.foldl_append, List.foldl_cons]
    exact foldcfx_none hl (hQ r hr) (fun q hq => ⟨hQ q (by simp [hq]), (hp2.1 q hq).symm⟩) h1 h2
end
end Go.Proofs.YtnpnafidhcnkhaaGreatDoor
namespace Go.Proofs.YtnpnafidhcnkhaaGreatDoor
theorem nat_high (n : Nat) (h : n < 4294967296) : n &&& 4294967040 = n / 256 * 256 := by
  apply Nat.eq_of_testBit_eq
  intro i
  rw [show (4294967040 : Nat) = (2 ^ 24 - 1) <<< 8 from rfl, show n / 256 * 256 = (n >>> 8) <<< 8 by rw [Nat.shiftRight_eq_div_pow, Nat.shiftLeft_eq], Nat.testBit_and, Nat.testBit_shiftLeft, Nat.testBit_shiftLeft, Nat.testBit_shiftRight, Nat.testBit_two_pow_sub_one]
  by_cases e : 8 ≤ i
  · rw [show 8 + (i - 8) = i by omega]
    by_cases f : i - 8 < 24
    · simp [e, f]
    · have h2 : n.testBit i = false := Nat.testBit_lt_two_pow (Nat.lt_of_lt_of_le h (Nat.pow_le_pow_right (n := 2) (by omega) (show 32 ≤ i by omega)))
      simp [e, f, h2]
  · simp [e]
theorem andNot255 {x : Int} (h0 : 0 ≤ x) (h1 : x < 4294967296) : bits BinOp.andNot IntKind.u32 x 255 = x / 256 * 256 := by
  obtain ⟨z, rfl⟩ := Int.eq_ofNat_of_zero_le h0
  show IntKind.u32.wrap ((BitVec.ofInt 32 (z : Int) &&& ~~~BitVec.ofInt 32 ((255 : Nat) : Int)).toNat : Int) = _
  rw [BitVec.ofInt_natCast, BitVec.ofInt_natCast]
  have e : (BitVec.ofNat 32 z &&& ~~~(BitVec.ofNat 32 255)).toNat = z / 256 * 256 := by
    rw [BitVec.toNat_and, BitVec.toNat_not, BitVec.toNat_ofNat, BitVec.toNat_ofNat, show 2 ^ 32 - 1 - 255 % 2 ^ 32 = 4294967040 by decide, Nat.mod_eq_of_lt (show z < 2 ^ 32 by omega), nat_high z (by omega)]
  rw [e]
  have e2 : ((z / 256 * 256 : Nat) : Int) % 2 ^ 32 = ((z / 256 * 256 : Nat) : Int) := Int.emod_eq_of_lt (by omega) (by omega)
  simp only [IntKind.wrap, IntKind.bits, IntKind.signed, e2]
  simp
theorem and255 {y : Int} (h0 : 0 ≤ y) (h1 : y < 4294967296) : bits BinOp.and IntKind.u32 y 255 = y % 256 := by
  obtain ⟨n, rfl⟩ := Int.eq_ofNat_of_zero_le h0
  rw [show (255 : Int) = ((255 : Nat) : Int) from rfl, u32_and_nat n 255 (by omega) (by omega), show (255 : Nat) = 2 ^ 8 - 1 from rfl, Nat.and_two_pow_sub_one_eq_mod]
  rfl
theorem or256 {x d : Int} (h0 : 0 ≤ x) (h1 : x < 4294967296) : bits BinOp.or IntKind.u32 (x / 256 * 256) (d % 256) = x / 256 * 256 + d % 256 := by
  obtain ⟨n, hn⟩ := Int.eq_ofNat_of_zero_le (show 0 ≤ x / 256 by omega)
  obtain ⟨m, hm⟩ := Int.eq_ofNat_of_zero_le (show 0 ≤ d % 256 by omega)
  have hm2 : m < 256 := by omega
  rw [hn, hm, show ((n : Nat) : Int) * 256 = ((2 ^ 8 * n : Nat) : Int) by omega, u32_or_nat (2 ^ 8 * n) m (by omega) (by omega), ← Nat.two_pow_add_eq_or_of_lt (i := 8) (b := m) (by omega) n]
  omega
theorem dist256 (t a : Int) : IntKind.u32.wrap (t - a) % 256 = (t - a) % 256 := by
  rw [IntKind.wrap_u32]
  omega
end Go.Proofs.YtnpnafidhcnkhaaGreatDoor
namespace Go.Proofs.YtnpnafidhcnkhaaGreatDoor
open Go.RowKit
theorem u32_wrap (x : Int) : IntKind.u32.wrap x = x % 4294967296 := by rw [IntKind.wrap_u32]
def cadI (a : Int) : Int := (2048 + a) % 4294967296
set_option maxRecDepth 100000 in
set_option maxHeartbeats 2000000 in
theorem cadr_any (W : World) (a : Int) (h0 : 0 ≤ a) (h1 : a ≤ 1000000) :
    Calls Tryz.prog 42 #[.int .i64 a] W fun e w' => e = .returned (.int .u32 (cadI a)) ∧ W.grownBy w' none := by
  obtain ⟨A, hA⟩ : ∃ A : Int, 2048 + a = A := ⟨_, rfl⟩
  have a0 : 0 ≤ A := by omega
  have a1 : A ≤ 1002048 := by omega
  have Hw : Hid (cadI a = A) := hid (by unfold cadI; omega)
  have hw : IntKind.u32.wrap A = A := by rw [u32_wrap]; omega
  go_enter Tryz.func42, Tryz.ntmps42
  go_wp2
  go_ret
  exact ⟨ret_i Hw.out.symm, grown_refl W none⟩
/-- a program's value -/
abbrev pgV (v1 v2 v3 v4 v5 ld mv : Value) : Array Value := #[v1, v2, v3, v4, v5, ld, mv]
set_option maxRecDepth 100000 in
set_option maxHeartbeats 2000000 in
theorem adr_any (W : World) (v1 v2 v3 v4 v5 ld mv : Value) (l : Nat → Int) (n : Nat) (h : SlAt W .i64 ld ((List.range n).map l)) (s : Sp) (h1 : s.i = 1 → 0 ≤ s.a ∧ s.a ≤ 1000000) (h2 : s.i ≠ 1 → ∃ k : Nat, s.a = k ∧ k < n ∧ 0 ≤ l k ∧ l k ≤ 1000000) :
    Calls Tryz.prog 29 #[.agg (pgV v1 v2 v3 v4 v5 ld mv), sptV s] W fun e w' => e = .returned (.int .u32 (adP l s)) ∧ W.grownBy w' none := by
  obtain ⟨i, a⟩ := s
  have H2 := hid (two_boxes (W := W) (a := #[v1, v2, v3, v4, v5, ld, mv]) (b := #[.int .i64 i, .int .i64 a]) (t := 78) (u := 83))
  have HL := hid (h.kept0 H2.out.2.2)
  have Hr : Hid (adP l ⟨i, a⟩ = if i = 1 then a % 4294967296 else (2048 + l a.toNat) % 4294967296) := hid rfl
  simp only at h1 h2
  clear h
  unfold sptV
  go_enter Tryz.func29, Tryz.ntmps29
  go_upto_region 1 with (fail)
  generalize (W.alloc (.cells #[v1, v2, v3, v4, v5, ld, mv] 78)).alloc (.cells #[.int .i64 i, .int .i64 a] 83) = w1 at H2 HL ⊢
  obtain ⟨b1, hb1⟩ : ∃ b, W.heap.size = b := ⟨_, rfl⟩
  obtain ⟨b2, hb2⟩ : ∃ b, b1 + 1 = b := ⟨_, rfl⟩
  rw [hb1, hb2] at H2 ⊢
  clear hb1 hb2
  have s0 := H2.out.2.1.cell 0 (v := .int .i64 i) rfl
  have s1 := H2.out.2.1.cell 1 (v := .int .i64 a) rfl
  by_cases hi : i = 1
  · have hb : (i == 1) = true := by simpa using hi
    obtain ⟨a0, a1⟩ := h1 hi
    rw [if_pos hi] at Hr
    have hw : IntKind.u32.wrap a = a := by rw [u32_wrap]; omega
    have Hw : Hid (a % 4294967296 = a) := hid (by omega)
    clear h1 h2 hi
    go_wp2
    go_ret
    exact ⟨ret_i (by rw [Hr.out, Hw.out]), H2.out.2.2⟩
  · have hb : (i == 1) = false := by simpa using hi
    obtain ⟨k, rfl, hk, l0, l1⟩ := h2 hi
    rw [if_neg hi, Int.toNat_natCast] at Hr
    obtain ⟨b, o, c, hv, hbs, hc⟩ := HL.out.at_ (by simp; omega)
    rw [List.length_map, List.length_range] at hv
    subst hv
    have e1 := hc k (l k) (by rw [List.getElem?_map, List.getElem?_range hk]; rfl)
    have k0 : (0 : Int) ≤ (k : Int) := by omega
    have kn : (k : Int) < (n : Int) := by omega
    have p5 := H2.out.1.cell 5 (v := .slice (some ⟨b, o, none⟩) n c) rfl
    have HC := hid (fun W => cadr_any W (l k) l0 l1)
    obtain ⟨x, hx⟩ : ∃ x, l k = x := ⟨_, rfl⟩
    rw [hx] at e1 HC Hr
    clear h1 h2 hi hc hbs l0 l1 hx
    go_wp2_with fail
    refine (HC.out _).mono ?_
    rintro e w2 ⟨rfl, hg⟩
    have HG := hid (grown_trans H2.out.2.2 hg)
    clear hg
    go_wp2
    go_ret
    exact ⟨ret_i (by rw [Hr.out]; rfl), HG.out⟩
end Go.Proofs.YtnpnafidhcnkhaaGreatDoor
