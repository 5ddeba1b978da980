/- What is rewritten (package rewrite), as plain data: where each word stands, the code, the map, the object. -/
import Derived.Test.YtgahbpfmiibpeaaDoorZGSite
import Derived.Test.YtgahbpfmiibpeaaDoorZSite4
import Derived.Laws.OwnMore
import Derived.OwnWalk
import Derived.Deep.Cut
import Derived.Deep.RegionHeld3
import Derived.StillTailTactics
import Derived.Laws.BitsAllLaws
namespace Go.Proofs.YtgahbpfmiibpeaaDoor
open Go.RowKit
/-- word k has to be rewritten -/
def siteB (x : PO) (k : Nat) : Bool := decide (mapN x k = 1) && isT x k
def cntN (x : PO) (k : Nat) : Nat := (siL x (stL x k)).length
/-- where word k stands then -/
def plN (x : PO) (k : Nat) : Nat := k + cntN x k
def plL (x : PO) (n : Nat) : List Int := (List.range n).map fun k => (plN x k : Int)
theorem siteB_yes {x : PO} {k : Nat} (h : siteB x k = true) : mapN x k = 1 ∧ isT x k = true := by
  unfold siteB at h
  simpa using h
theorem siteB_no {x : PO} {k : Nat} (h : siteB x k = false) : ¬ (mapN x k = 1 ∧ isT x k = true) := by
  intro ⟨a, b⟩
  unfold siteB at h
  simp [a, b] at h
theorem cnt_yes {x : PO} {k : Nat} (h : siteB x k = true) : cntN x (k + 1) = cntN x k + 1 := by
  unfold cntN
  rw [(siL_next (Nat.lt_succ_self k) (siteB_yes h).1 (siteB_yes h).2).2, List.length_append]; rfl
theorem cnt_no {x : PO} {k : Nat} (h : siteB x k = false) : cntN x (k + 1) = cntN x k := by
  unfold cntN
  rw [(siL_other (Nat.lt_succ_self k) (siteB_no h)).2]
theorem pl_yes {x : PO} {k : Nat} (h : siteB x k = true) : plN x (k + 1) = plN x k + 2 := by
  unfold plN; rw [cnt_yes h]; omega
theorem pl_no {x : PO} {k : Nat} (h : siteB x k = false) : plN x (k + 1) = plN x k + 1 := by
  unfold plN; rw [cnt_no h]; omega
theorem cnt_zero (x : PO) : cntN x 0 = 0 := rfl
theorem pl_zero (x : PO) : plN x 0 = 0 := rfl
theorem cnt_le (x : PO) (k : Nat) : cntN x k ≤ k := Nat.le_trans (siL_length x _) (stL_length x k)
theorem pl_le (x : PO) (k : Nat) : k ≤ plN x k ∧ plN x k ≤ 2 * k := by
  have := cnt_le x k
  unfold plN; omega
theorem plL_length (x : PO) (n : Nat) : (plL x n).length = n := by simp [plL]
theorem plL_get (x : PO) {n k : Nat} (h : k < n) : (plL x n)[k]? = some (plN x k : Int) := by
  unfold plL
  rw [List.getElem?_map, List.getElem?_range h]; rfl
theorem plL_succ (x : PO) (n : Nat) : plL x (n + 1) = plL x n ++ [(plN x n : Int)] := by
  unfold plL
  rw [List.range_succ, List.map_append]; rfl
/-- the code, the map of the first k words -/
def rwC (x : PO) : Nat → List Int
  | 0 => []
  | k + 1 => rwC x k ++ (if siteB x k = true then [1610612736, 2147483648 + x.C.getD k 0] else [x.C.getD k 0])
def rwM (x : PO) : Nat → List Int
  | 0 => []
  | k + 1 => rwM x k ++ (if siteB x k = true then [1, 0] else [x.M.getD k 0])
theorem rwC_yes {x : PO} {k : Nat} (h : siteB x k = true) : rwC x (k + 1) = rwC x k ++ [1610612736, 2147483648 + x.C.getD k 0] := by rw [rwC, if_pos h]
theorem rwC_no {x : PO} {k : Nat} (h : siteB x k = false) : rwC x (k + 1) = rwC x k ++ [x.C.getD k 0] := by rw [rwC, if_neg (by simp [h])]
theorem rwM_yes {x : PO} {k : Nat} (h : siteB x k = true) : rwM x (k + 1) = rwM x k ++ [1, 0] := by rw [rwM, if_pos h]
theorem rwM_no {x : PO} {k : Nat} (h : siteB x k = false) : rwM x (k + 1) = rwM x k ++ [x.M.getD k 0] := by rw [rwM, if_neg (by simp [h])]
theorem rwC_length (x : PO) : ∀ k, (rwC x k).length = plN x k
  | 0 => rfl
  | k + 1 => by
    cases h : siteB x k
    · rw [rwC_no h, List.length_append, rwC_length x k, pl_no h]; rfl
    · rw [rwC_yes h, List.length_append, rwC_length x k, pl_yes h]; rfl
theorem rwM_length (x : PO) : ∀ k, (rwM x k).length = plN x k
  | 0 => rfl
  | k + 1 => by
    cases h : siteB x k
    · rw [rwM_no h, List.length_append, rwM_length x k, pl_no h]; rfl
    · rw [rwM_yes h, List.length_append, rwM_length x k, pl_yes h]; rfl
theorem rwC_more (x : PO) (k : Nat) : ∀ n, k ≤ n → ∃ t, rwC x n = rwC x k ++ t := by
  intro n hn
  induction n with
  | zero => exact ⟨[], by rw [show k = 0 by omega]; rfl⟩
  | succ n ih =>
    by_cases e : k = n + 1
    · exact ⟨[], by rw [e]; simp⟩
    · obtain ⟨t, ht⟩ := ih (by omega)
      exact ⟨_, by rw [rwC, ht, List.append_assoc]⟩
theorem rwM_more (x : PO) (k : Nat) : ∀ n, k ≤ n → ∃ t, rwM x n = rwM x k ++ t := by
  intro n hn
  induction n with
  | zero => exact ⟨[], by rw [show k = 0 by omega]; rfl⟩
  | succ n ih =>
    by_cases e : k = n + 1
    · exact ⟨[], by rw [e]; simp⟩
    · obtain ⟨t, ht⟩ := ih (by omega)
      exact ⟨_, by rw [rwM, ht, List.append_assoc]⟩
theorem rwC_site {x : PO} {k n : Nat} (h : siteB x k = true) (hk : k < n) : (rwC x n)[plN x k]? = some 1610612736 ∧ (rwC x n)[plN x k + 1]? = some (2147483648 + x.C.getD k 0) := by
  obtain ⟨t, ht⟩ := rwC_more x (k + 1) n hk
  rw [ht, rwC_yes h, List.append_assoc, ← rwC_length x k]
  constructor
  · rw [List.getElem?_append_right (Nat.le_refl _)]; simp
  · rw [List.getElem?_append_right (by omega)]; simp
theorem rwM_site {x : PO} {k n : Nat} (h : siteB x k = true) (hk : k < n) : (rwM x n)[plN x k]? = some 1 ∧ (rwM x n)[plN x k + 1]? = some 0 := by
  obtain ⟨t, ht⟩ := rwM_more x (k + 1) n hk
  rw [ht, rwM_yes h, List.append_assoc, ← rwM_length x k]
  constructor
  · rw [List.getElem?_append_right (Nat.le_refl _)]; simp
  · rw [List.getElem?_append_right (by omega)]; simp
theorem rwC_other {x : PO} {k n : Nat} (h : siteB x k = false) (hk : k < n) : (rwC x n)[plN x k]? = some (x.C.getD k 0) := by
  obtain ⟨t, ht⟩ := rwC_more x (k + 1) n hk
  rw [ht, rwC_no h, List.append_assoc, ← rwC_length x k, List.getElem?_append_right (Nat.le_refl _)]; simp
theorem rwM_other {x : PO} {k n : Nat} (h : siteB x k = false) (hk : k < n) : (rwM x n)[plN x k]? = some (x.M.getD k 0) := by
  obtain ⟨t, ht⟩ := rwM_more x (k + 1) n hk
  rw [ht, rwM_no h, List.append_assoc, ← rwM_length x k, List.getElem?_append_right (Nat.le_refl _)]; simp
def rwR (x : PO) (r : Rl) : Rl := ⟨plN x r.a.toNat, r.k, r.s, r.d⟩
def rwS (x : PO) (s : Sy) : Sy := if s.i = 2 then ⟨s.n, s.i, plN x s.v.toNat, s.g⟩ else s
/-- the object rewritten -/
def rwO (x : PO) : PO := ⟨x.D, rwC x x.C.length, rwM x x.C.length, x.R, x.Q.map (rwR x), x.S.map (rwS x)⟩
/-- what the loop over the places finds at word j -/
theorem pl_next (x : PO) {n j : Nat} (hj : j ≤ n) : (j < n ∧ siteB x j = true ∧ (siL x (stL x n))[cntN x j]? = some j ∧ cntN x (j + 1) = cntN x j + 1) ∨
    (((siL x (stL x n)).length ≤ cntN x j ∨ ∃ p, (siL x (stL x n))[cntN x j]? = some p ∧ j < p) ∧ (j < n → siteB x j = false ∧ cntN x (j + 1) = cntN x j)) := by
  by_cases h : j < n
  · cases e : siteB x j
    · exact .inr ⟨(siL_other h (siteB_no e)).1, fun _ => ⟨rfl, cnt_no e⟩⟩
    · exact .inl ⟨h, rfl, (siL_next h (siteB_yes e).1 (siteB_yes e).2).1, cnt_yes e⟩
  · obtain rfl : j = n := by omega
    exact .inr ⟨.inl (Nat.le_refl _), fun h2 => absurd h2 h⟩
/-- the places, so far filled in -/
def fillP (x : PO) (N j : Nat) : List Value := (plL x j).map (Value.int .i64) ++ List.replicate (N - j) (.int .i64 0)
theorem fill_get (x : PO) {N j : Nat} (h : j < N) : (fillP x N j)[j]? = some (.int .i64 0) := by
  unfold fillP
  rw [List.getElem?_append_right (by simp [plL_length]), List.length_map, plL_length, Nat.sub_self, List.getElem?_replicate, if_pos (by omega)]
theorem fill_set (x : PO) {N j : Nat} (h : j < N) : (fillP x N j).set j (.int .i64 (plN x j : Int)) = fillP x N (j + 1) := by
  unfold fillP
  obtain ⟨m, hm⟩ : ∃ m, N - j = m + 1 := ⟨N - j - 1, by omega⟩
  have e : j = ((plL x j).map (Value.int .i64)).length + 0 := by simp [plL_length]
  rw [hm, show N - (j + 1) = m by omega, plL_succ, List.map_append, List.append_assoc, List.replicate_succ]
  conv => lhs; arg 2; rw [e]
  rw [List.set_append_right _ _ (by omega)]
  simp
theorem fill_all (x : PO) (N : Nat) : fillP x N N = (plL x N).map (Value.int .i64) := by
  unfold fillP
  rw [Nat.sub_self]; simp
theorem fill_zero (x : PO) (N : Nat) : fillP x N 0 = List.replicate N (.int .i64 0) := by
  unfold fillP
  simp [plL]
/-! ### where nothing is to be rewritten -/
theorem rw_none {x : PO} : ∀ {n : Nat}, (∀ k, k < n → siteB x k = false) → cntN x n = 0 ∧ rwC x n = (List.range n).map (fun k => x.C.getD k 0) ∧ rwM x n = (List.range n).map (fun k => x.M.getD k 0)
  | 0, _ => ⟨rfl, rfl, rfl⟩
  | n + 1, h => by
    obtain ⟨a, b, c⟩ := rw_none (n := n) (fun k hk => h k (by omega))
    have e := h n (by omega)
    refine ⟨by rw [cnt_no e, a], ?_, ?_⟩
    · rw [rwC_no e, b, List.range_succ, List.map_append]; rfl
    · rw [rwM_no e, c, List.range_succ, List.map_append]; rfl
theorem range_getD (l : List Int) : (List.range l.length).map (fun k => l.getD k 0) = l := by
  apply List.ext_getElem?
  intro i
  rw [List.getElem?_map]
  by_cases h : i < l.length
  · rw [List.getElem?_range h, List.getElem?_eq_getElem h, Option.map_some, List.getD_eq_getElem?_getD, List.getElem?_eq_getElem h]; rfl
  · rw [List.getElem?_eq_none (by rw [List.length_range]; omega), List.getElem?_eq_none (by omega)]; rfl
theorem cnt_all {x : PO} {n : Nat} (h : cntN x n = 0) : ∀ k, k < n → siteB x k = false := by
  intro k hk
  cases e : siteB x k
  · rfl
  · have h1 := (siL_next hk (siteB_yes e).1 (siteB_yes e).2).1
    have h2 := (List.getElem?_eq_some_iff.1 h1).1
    unfold cntN at h
    omega
theorem siL_zero_cnt {x : PO} {n : Nat} (h : siL x (stL x n) = []) : cntN x n = 0 := by unfold cntN; rw [h]; rfl
theorem cnt_mono {x : PO} {n k : Nat} (h : cntN x n = 0) (hk : k ≤ n) : cntN x k = 0 := (rw_none (fun j hj => cnt_all h j (by omega))).1
/-- it is as it was -/
theorem rw_same {x : PO} (hok : OkP x) (h : cntN x x.C.length = 0) : rwO x = x := by
  obtain ⟨-, b, c⟩ := rw_none (cnt_all h)
  have hC : rwC x x.C.length = x.C := by rw [b, range_getD]
  have hM : rwM x x.C.length = x.M := by rw [c, ← hok.len, range_getD]
  have hQ : x.Q.map (rwR x) = x.Q := by
    apply List.ext_getElem?
    intro i
    rw [List.getElem?_map]
    cases e : x.Q[i]? with
    | none => rfl
    | some r =>
      have hi := (List.getElem?_eq_some_iff.1 e).1
      have hcod := hok.cod i hi
      have hr : rlN x.Q i = r := by unfold rlN; rw [List.getD_eq_getElem?_getD, e]; rfl
      unfold codeF at hcod
      split at hcod
      · cases hcod
      · rename_i hn
        have hin : inB x x.Q i x.C.length = true := by
          cases e2 : inB x x.Q i x.C.length
          · exact absurd (.inl e2) hn
          · rfl
        unfold inB at hin
        rw [hr] at hin
        simp only [decide_eq_true_eq] at hin
        have := cnt_mono h (k := r.a.toNat) (by omega)
        simp only [Option.map_some, rwR, plN, this, Option.some.injEq]
        obtain ⟨ra, rk, rs, rd⟩ := r
        simp only at hin ⊢
        rw [Rl.mk.injEq]
        refine ⟨by omega, rfl, rfl, rfl⟩
  have hS : x.S.map (rwS x) = x.S := by
    apply List.ext_getElem?
    intro i
    rw [List.getElem?_map]
    cases e : x.S[i]? with
    | none => rfl
    | some s =>
      have hi := (List.getElem?_eq_some_iff.1 e).1
      have hsym := hok.sym i hi
      have hs : symN x i = s := by unfold symN; rw [List.getD_eq_getElem?_getD, e]; rfl
      simp only [Option.map_some, Option.some.injEq]
      unfold rwS
      by_cases h2 : s.i = 2
      · rw [if_pos h2]
        unfold symF at hsym
        rw [hs] at hsym
        split at hsym
        · cases hsym
        split at hsym
        · cases hsym
        split at hsym
        · rename_i hst
          unfold standsB at hst
          rw [if_neg (by omega), if_pos h2] at hst
          simp only [decide_eq_true_eq] at hst
          have := cnt_mono h (k := s.v.toNat) (by omega)
          obtain ⟨sn, si, sv, sg⟩ := s
          simp only at hst this ⊢
          rw [Sy.mk.injEq]
          unfold plN
          rw [this]
          exact ⟨rfl, rfl, by omega, rfl⟩
        · cases hsym
      · rw [if_neg h2]
  show PO.mk x.D (rwC x x.C.length) (rwM x x.C.length) x.R (x.Q.map (rwR x)) (x.S.map (rwS x)) = x
  rw [hC, hM, hQ, hS]
/-! ### the first one is told -/
theorem getD_some {l : List Int} {k : Nat} {v d : Int} (h : l[k]? = some v) : l.getD k d = v := by rw [List.getD_eq_getElem?_getD, h]; rfl
theorem rw_first {x : PO} {f : Nat} (hok : OkP x) (hf : f < x.C.length) (hs : siteB x f = true) (ha : ∀ k, k < f → siteB x k = false) (hm : plN x x.C.length ≤ 2048) :
    validP (rwO x) = some (4, some f) := by
  have hpl : ∀ k, k ≤ f → plN x k = k := fun k hk => by
    unfold plN
    rw [(rw_none (fun j hj => ha j (by omega))).1]; rfl
  have hlenC : (rwO x).C.length = plN x x.C.length := rwC_length x _
  have hlenM : (rwO x).M.length = plN x x.C.length := rwM_length x _
  have hf2 : f + 2 ≤ plN x x.C.length := by
    have h1 := (List.getElem?_eq_some_iff.1 (rwC_site hs hf).2).1
    rw [rwC_length, hpl f (Nat.le_refl _)] at h1
    omega
  have hC : ∀ k, k < f → (rwO x).C.getD k 0 = x.C.getD k 0 := fun k hk => by
    have := rwC_other (ha k hk) (show k < x.C.length by omega)
    rw [hpl k (by omega)] at this
    exact getD_some this
  have hM : ∀ k, k ≤ f → mapN (rwO x) k = mapN x k := fun k hk => by
    by_cases e : k = f
    · subst e
      have := (rwM_site hs hf).1
      rw [hpl k (Nat.le_refl _)] at this
      rw [(siteB_yes hs).1]
      exact getD_some this
    · have := rwM_other (ha k (by omega)) (show k < x.C.length by omega)
      rw [hpl k (by omega)] at this
      exact getD_some this
  have hop : ∀ k, k < f → opN (rwO x) k = opN x k := fun k hk => by
    unfold opN
    rw [hM k (by omega), hC k hk]
  have hword : ∀ k, k < f → wordF (rwO x) k = none := fun k hk => by
    have h0 := hok.word k (by omega)
    have hfirst : firstF (rwO x) k = firstF x k := by
      unfold firstF
      rw [hop k hk, hM (k + 1) (by omega), hlenC]
      have e1 : (k + 1 = plN x x.C.length) = (k + 1 = x.C.length) := by
        apply propext
        constructor
        · intro h; omega
        · intro h; omega
      simp only [e1]
    have hB : opB (rwO x) k = opB x k := by
      unfold opB
      by_cases e : k = 0
      · rw [if_pos e, if_pos e]
      · rw [if_neg e, if_neg e, hop (k - 1) (by omega)]
    unfold wordF at h0 ⊢
    rw [hM k (by omega), hfirst, hB]
    exact h0
  have hat : wordF (rwO x) f = some 4 := by
    have h1 : mapN (rwO x) f = 1 := by rw [hM f (Nat.le_refl _)]; exact (siteB_yes hs).1
    have h2 : (rwO x).C.getD f 0 = 1610612736 := by
      have := (rwC_site hs hf).1
      rw [hpl f (Nat.le_refl _)] at this
      exact getD_some this
    unfold wordF
    rw [if_pos h1]
    unfold firstF opN
    rw [if_pos h1, h2, if_pos (by decide +kernel)]
  have hmany : manyB (rwO x) = false := by
    have h := hok.many
    unfold manyB at h ⊢
    simp only [decide_eq_false_iff_not] at h ⊢
    rw [hlenC]
    simp only [rwO, List.length_map]
    omega
  unfold validP
  rw [if_neg (by simp [hmany]), if_neg (by rw [hlenC, hlenM]; simp)]
  exact scanF_some hat hword (by rw [hlenC]; omega)
theorem si_head {x : PO} {n f : Nat} {r : List Nat} (h : siL x (stL x n) = f :: r) : f < n ∧ siteB x f = true ∧ ∀ k, k < f → siteB x k = false := by
  have hmem : f ∈ siL x (stL x n) := by rw [h]; simp
  have h1 := List.mem_filter.1 hmem
  have h2 := stL_mem h1.1
  refine ⟨h2.1, by unfold siteB; simp [h2.2, h1.2], fun k hk => ?_⟩
  cases e : siteB x k
  · rfl
  · obtain ⟨hx, -⟩ := siL_next (show k < n by omega) (siteB_yes e).1 (siteB_yes e).2
    obtain ⟨r1, hr, hp⟩ := siL_rest x (k + 1) n (by omega)
    obtain ⟨-, he⟩ := siL_next (show k < n by omega) (siteB_yes e).1 (siteB_yes e).2
    rw [he, h] at hr
    -- the first of the list is at most k
    cases hl : siL x (stL x k) with
    | nil =>
      rw [hl] at hr
      simp only [List.nil_append, List.cons_append, List.cons.injEq] at hr
      omega
    | cons g l2 =>
      rw [hl] at hr
      simp only [List.cons_append, List.cons.injEq] at hr
      have hg : g ∈ siL x (stL x k) := by rw [hl]; simp
      have := (stL_mem (List.mem_filter.1 hg).1).1
      omega
end Go.Proofs.YtgahbpfmiibpeaaDoor
/- Package rewrite: placesOf: contracts. -/
namespace Go.Proofs.YtgahbpfmiibpeaaDoor
open Go.RowKit
/-- where the loop stands: the row of places in block g is filled in as far as j -/
structure PLw (W w : World) (gb : Nat) (x : PO) (sv : Value) (L N j : Nat) : Prop where
  g : W.grownBy w none
  st : CsAt w sv L (sisC x (siL x (stL x x.C.length)))
  own : w.ownsRow W.heap.size 3 1 (.slice (some ⟨gb, 0, none⟩) N N) N (fillP x N j)
  ne : sv.ownBlock = none ∨ sv.ownBlock ≠ some gb
  ge : W.heap.size ≤ gb
theorem PLw.step {W w : World} {g : Nat} {x : PO} {sv : Value} {L N j : Nat} (h : PLw W w g x sv L N j) (hj : j < N) : PLw W (w.setCell ⟨g, j, none⟩ (.int .i64 (plN x j : Int))) g x sv L N (j + 1) := by
  obtain ⟨h1, h2⟩ := h.own.stored j (.int .i64 (plN x j : Int))
  rw [fill_set x hj] at h1
  exact ⟨grown_new' (grown_trans (grown_none h.g) h2) (fun k hk => by obtain rfl := Option.some.inj hk; exact h.ge), h.st.kept h2 h.ne, h1, h.ne, h.ge⟩
set_option maxRecDepth 100000 in
set_option maxHeartbeats 8000000 in
theorem places_yes {W : World} {A : Nat → Addr} {V : OV} {x : PO} (h : OAt W V x) (he : ErrC W A) (hf : OFit x) (hv : validP x = none) :
    Calls Tryd.prog 29 #[V.agg] W fun e w' => ∃ v, e = .returned (.tuple #[v, .nilIface]) ∧ w'.ownsRow W.heap.size 3 1 v (x.C.length + 1) ((plL x (x.C.length + 1)).map (Value.int .i64)) ∧ W.grownBy w' none := by
  have hok := valid_ok hv
  have hmany := (many_of hok).2.1
  obtain ⟨d, c, m, r, q, s⟩ := V
  obtain ⟨cp, cc, hcv⟩ := h.c.len'
  simp only at hcv
  have HB0 := hid (RwAt.new W 27 #[d, c, m, r, q, s])
  have HG0 := hid (World.grownBy_alloc W (.cells #[d, c, m, r, q, s] 27) none)
  have HO := hid h
  have HE := hid he
  have HF := hid hf
  have HV := hid hv
  obtain ⟨n, hne⟩ : ∃ n, x.C.length = n := ⟨_, rfl⟩
  have Hne := hid hne
  rw [hne] at hcv hmany ⊢
  subst hcv
  have n0 : (0 : Int) ≤ (n : Int) := by omega
  have n1 : (n : Int) ≤ 2048 := by omega
  have Hn := hid hmany
  obtain ⟨N, hN⟩ : ∃ N, n + 1 = N := ⟨_, rfl⟩
  have HN := hid hN
  have nN : (n : Int) + 1 = (N : Int) := by omega
  have nNw : IntKind.i64.wrap ((n : Int) + 1) = (N : Int) := by rw [IntKind.wrap_i64]; omega
  rw [hN]
  clear h he hf hv hok hne hmany hN
  go_enter Tryd.func29, Tryd.ntmps29
  go_upto_region 1 with (fail)
  obtain ⟨G, hG⟩ : ∃ G, W.heap.size = G := ⟨_, rfl⟩
  rw [hG] at HB0 ⊢
  have HGe := hid hG
  clear hG
  generalize W.alloc (.cells #[d, .slice cp n cc, m, r, q, s] 27) = w1 at HB0 HG0 ⊢
  go_wp2_with (first
    | (refine wpList_load_rw rfl 27 _ rfl rfl HB0.out rfl Tryd.underlying27 info_object ?_)
    | fail)
  refine (sites_yes (V := ⟨d, .slice cp n cc, m, r, q, s⟩) (HO.out.kept0 HG0.out) (HE.out.kept0 HG0.out) HF.out HV.out).mono ?_
  rintro e w2 ⟨sv, rfl, hown, hg⟩
  obtain ⟨sp, sc, rfl⟩ := own_slice hown
  obtain ⟨L, hL⟩ : ∃ L, (siL x (stL x x.C.length)).length = L := ⟨_, rfl⟩
  rw [hL] at hown ⊢
  have HLe := hid hL
  have HS2 := hid hown
  have HG2 := hid (grown_trans HG0.out hg)
  have e1 := (HB0.out.kept0 hg).cell 1 (v := .slice cp n cc) rfl
  have HLb : Hid (L ≤ 2048) := hid (by
    have h1 := siL_length x (stL x x.C.length)
    have h2 := stL_length x x.C.length
    have := Hne.out
    have := Hn.out
    omega)
  have L0 : (0 : Int) ≤ (L : Int) := by omega
  have L1 : (L : Int) ≤ 2048 := by have := HLb.out; omega
  clear hown hg hL HB0 HG0
  obtain ⟨i, hi, hz0, hz1, hz2⟩ := info_int
  have Hi := hid hi
  have Hz0 := hid hz0
  have Hz1 := hid hz1
  have Hz2 := hid hz2
  clear hi hz0 hz1 hz2
  go_wp2_with (first
    | (refine wpList_make_full _ rfl _ _ 31 rfl w2.heap.size 3 i _ 1 Tryd.underlying31 Hi.out Hz0.out Hz1.out .i64 .i64 _ _ N rfl rfl (by first | rfl | omega) (by first | rfl | omega) (by rw [Hz2.out]; have := Hn.out; have := HN.out; omega) (by have := Hn.out; have := HN.out; unfold maxLen; omega) (Nat.le_refl _) ?_
       intro w3 hmk hgr
       have hl1 : (madeCells (Value.int IntKind.i64 0).cells (N * 1)).toList = fillP x N 0 := by
         rw [fill_zero, Nat.mul_one, show (Value.int IntKind.i64 0).cells = #[Value.int IntKind.i64 0] from rfl, toList_madeCells_one]
       rw [hl1] at hmk
       have HP : Hid (PLw W w3 w2.heap.size x (.slice sp L sc) L N 0) := hid ⟨grown_trans HG2.out hgr, (CsAt.own HS2.out).kept0 hgr, own_base hmk HG2.out.size, by
         cases hsp : (Value.slice sp L sc).ownBlock with
         | none => exact .inl rfl
         | some k => exact .inr (fun e => by have := (HS2.out.lt k hsp).2; have := Option.some.inj e; omega), HG2.out.size⟩
       clear hmk hgr hl1)
    | fail)
  obtain ⟨g, hg⟩ : ∃ g, w2.heap.size = g := ⟨_, rfl⟩
  rw [hg] at HP ⊢
  clear hg e1 HS2
  have N1 : (N : Int) ≤ 2049 := by omega
  go_loopw [7, 24] (fun a i wr => ∃ j K : Nat, j ≤ N ∧ i = .int .i64 j ∧ a = .int .i64 K ∧ K ≤ 2048 ∧ (j ≤ n → K = cntN x j) ∧ Hid (PLw W wr g x (.slice sp L sc) L N j)) (fun _ i _ => N - (intOf i).toNat)
  case atStart => exact ⟨0, 0, Nat.zero_le _, rfl, rfl, by omega, fun _ => (cnt_zero x).symm, HP⟩
  case round =>
    obtain ⟨j, K, hj, rfl, rfl, hK, hKe, HR⟩ := hrel
    have j0 : (0 : Int) ≤ (j : Int) := by omega
    by_cases hlt : j < N
    · have jn : (j : Int) < (N : Int) := by omega
      have hjn : j ≤ n := by have := HN.out; omega
      have hKe2 := hKe hjn
      have HKe := hid hKe2
      have Hjn := hid hjn
      have Hlt := hid hlt
      have HK := hid hK
      have K0 : (0 : Int) ≤ (K : Int) := by omega
      have K1 : (K : Int) ≤ 2048 := by omega
      have jKe : (j : Int) + (K : Int) = (plN x j : Int) := by unfold plN; rw [hKe2]; omega
      have fc : wr.cell? ⟨g, j, none⟩ = some (.int .i64 0) := by rw [HR.out.own.cellAt j (by omega), fill_get x hlt]
      have fz := HR.out.own.frozenAt j
      have HR2 := hid (HR.out.step hlt)
      have hnx := pl_next x hjn
      rw [← hKe2, ← Hne.out, HLe.out] at hnx
      obtain ⟨p, hp⟩ : ∃ p, plN x j = p := ⟨_, rfl⟩
      rw [hp] at jKe HR2
      clear hKe hKe2 hlt hjn hK HR hp
      go_upto_region 10 with (fail)
      clear fc fz
      generalize wr.setCell ⟨g, j, none⟩ (.int .i64 (p : Int)) = w4 at HR2 ⊢
      rcases hnx with ⟨hn1, hs1, hat, hc1⟩ | ⟨hat | ⟨pp, hat, hpp⟩, hc1⟩
      · have hKL : K < L := by have := (List.getElem?_eq_some_iff.1 hat).1; have := HLe.out; omega
        obtain ⟨b2, o2, c2, hv2, -, hb2, hc2⟩ := HR2.out.st.at_ (by omega)
        simp only [Value.slice.injEq] at hv2
        obtain ⟨rfl, -, -⟩ := hv2
        have s0 : w4.cell? ⟨b2, o2 + K * 7, none⟩ = some (.int .i64 (j : Int)) := hc2 (K * 7 + 0) _ (by rw [sisC_get x _ K 0 j hat (by decide)]; rfl)
        have KL : (K : Int) < (L : Int) := by omega
        have Hc1 := hid hc1
        have Hn1 := hid hn1
        have Hk2 : Hid (K < 2048) := hid (by have := HLb.out; omega)
        clear hc2 hb2 hat hKL hn1 hs1 hc1
        go_wp2
        go_roundw
        case rel => exact ⟨j + 1, K + 1, Hlt.out, by go_num, by go_num, Hk2.out, fun _ => by rw [Hc1.out, HKe.out], HR2⟩
        case measure => simp [intOf]; have := Hlt.out; omega
      · have KL : ¬ ((K : Int) < (L : Int)) := by omega
        have Hc1 := hid hc1
        clear hat hc1
        go_wp2
        go_roundw
        case rel => exact ⟨j + 1, K, Hlt.out, by go_num, rfl, HK.out, fun h => (Hc1.out (by have := Hne.out; omega)).2.symm, HR2⟩
        case measure => simp [intOf]; have := Hlt.out; omega
      · have hKL : K < L := by have := (List.getElem?_eq_some_iff.1 hat).1; have := HLe.out; omega
        obtain ⟨b2, o2, c2, hv2, -, hb2, hc2⟩ := HR2.out.st.at_ (by omega)
        simp only [Value.slice.injEq] at hv2
        obtain ⟨rfl, -, -⟩ := hv2
        have s0 : w4.cell? ⟨b2, o2 + K * 7, none⟩ = some (.int .i64 (pp : Int)) := hc2 (K * 7 + 0) _ (by rw [sisC_get x _ K 0 pp hat (by decide)]; rfl)
        have KL : (K : Int) < (L : Int) := by omega
        have pj : ((pp : Int) == (j : Int)) = false := by simp only [beq_eq_false_iff_ne]; omega
        have Hc1 := hid hc1
        clear hc2 hb2 hat hKL hc1 hpp
        go_wp2
        go_roundw
        case rel => exact ⟨j + 1, K, Hlt.out, by go_num, rfl, HK.out, fun h => (Hc1.out (by have := Hne.out; omega)).2.symm, HR2⟩
        case measure => simp [intOf]; have := Hlt.out; omega
    · obtain rfl : j = N := by omega
      clear hlt
      have jn : ¬ ((j : Int) < (j : Int)) := by omega
      go_wp2
      refine bodyPost_ret (v := .tuple #[.slice (some ⟨g, 0, none⟩) j j, .nilIface]) (by simp [results, Tryd.results29, go_sem]) rfl ?_
      have h1 := HR.out.own
      rw [fill_all] at h1
      exact ⟨_, rfl, h1, HR.out.g⟩
set_option maxRecDepth 100000 in
set_option maxHeartbeats 4000000 in
theorem places_no {W : World} {A : Nat → Addr} {V : OV} {x : PO} (h : OAt W V x) (he : ErrC W A) (hf : OFit x) (hv : validP x ≠ none) :
    Calls Tryd.prog 29 #[V.agg] W fun e w' => ∃ fv, e = .returned (.tuple #[.slice none 0 0, fv]) ∧ FltAt A w' fv (validP x) ∧ W.grownBy w' none := by
  obtain ⟨d, c, m, r, q, s⟩ := V
  have HB0 := hid (RwAt.new W 27 #[d, c, m, r, q, s])
  have HG0 := hid (World.grownBy_alloc W (.cells #[d, c, m, r, q, s] 27) none)
  have HO := hid h
  have HE := hid he
  have HF := hid hf
  have HV := hid hv
  clear h he hf hv
  go_enter Tryd.func29, Tryd.ntmps29
  go_upto_region 1 with (fail)
  obtain ⟨G, hG⟩ : ∃ G, W.heap.size = G := ⟨_, rfl⟩
  rw [hG] at HB0 ⊢
  clear hG
  generalize W.alloc (.cells #[d, c, m, r, q, s] 27) = w1 at HB0 HG0 ⊢
  go_wp2_with (first
    | (refine wpList_load_rw rfl 27 _ rfl rfl HB0.out rfl Tryd.underlying27 info_object ?_)
    | fail)
  refine (sites_no (V := ⟨d, c, m, r, q, s⟩) (HO.out.kept0 HG0.out) (HE.out.kept0 HG0.out) HF.out HV.out).mono ?_
  rintro e w2 ⟨fv, rfl, hfl, hg⟩
  have HFl := hid hfl
  obtain ⟨t, pv, rfl, heq, hneq⟩ := flt_is_e hfl HV.out
  have HG2 := hid (grown_trans HG0.out hg)
  clear hfl hg
  go_wp2
  refine bodyPost_ret (v := .tuple #[.slice none 0 0, .iface t pv]) (by simp [results, Tryd.results29, go_sem]) rfl ?_
  exact ⟨_, rfl, HFl.out, HG2.out⟩
end Go.Proofs.YtgahbpfmiibpeaaDoor
/- Package rewrite: Do where it doesn't go; Needs: contracts. -/
namespace Go.Proofs.YtgahbpfmiibpeaaDoor
open Go.RowKit
set_option maxRecDepth 100000 in
set_option maxHeartbeats 4000000 in
theorem needs_no {W : World} {A : Nat → Addr} {V : OV} {x : PO} (h : OAt W V x) (he : ErrC W A) (hf : OFit x) (hv : validP x ≠ none) :
    Calls Tryd.prog 10 #[V.agg] W fun e w' => ∃ fv, e = .returned (.tuple #[.int .i64 0, fv]) ∧ FltAt A w' fv (validP x) ∧ W.grownBy w' none := by
  obtain ⟨d, c, m, r, q, s⟩ := V
  have HB0 := hid (RwAt.new W 27 #[d, c, m, r, q, s])
  have HG0 := hid (World.grownBy_alloc W (.cells #[d, c, m, r, q, s] 27) none)
  have HO := hid h
  have HE := hid he
  have HF := hid hf
  have HV := hid hv
  clear h he hf hv
  go_enter Tryd.func10, Tryd.ntmps10
  go_upto_region 1 with (fail)
  obtain ⟨G, hG⟩ : ∃ G, W.heap.size = G := ⟨_, rfl⟩
  rw [hG] at HB0 ⊢
  clear hG
  generalize W.alloc (.cells #[d, c, m, r, q, s] 27) = w1 at HB0 HG0 ⊢
  go_wp2_with (first
    | (refine wpList_load_rw rfl 27 _ rfl rfl HB0.out rfl Tryd.underlying27 info_object ?_)
    | fail)
  refine (places_no (V := ⟨d, c, m, r, q, s⟩) (HO.out.kept0 HG0.out) (HE.out.kept0 HG0.out) HF.out HV.out).mono ?_
  rintro e w2 ⟨fv, rfl, hfl, hg⟩
  have HFl := hid hfl
  obtain ⟨t, pv, rfl, heq, hneq⟩ := flt_is_e hfl HV.out
  have HG2 := hid (grown_trans HG0.out hg)
  clear hfl hg
  go_wp2
  refine bodyPost_ret (v := .tuple #[.int .i64 0, .iface t pv]) (by simp [results, Tryd.results10, go_sem]) rfl ?_
  exact ⟨_, rfl, HFl.out, HG2.out⟩
set_option maxRecDepth 100000 in
set_option maxHeartbeats 4000000 in
theorem needs_yes {W : World} {A : Nat → Addr} {V : OV} {x : PO} (h : OAt W V x) (he : ErrC W A) (hf : OFit x) (hv : validP x = none) :
    Calls Tryd.prog 10 #[V.agg] W fun e w' => e = .returned (.tuple #[.int .i64 (plN x x.C.length), .nilIface]) ∧ W.grownBy w' none := by
  have hok := valid_ok hv
  have hmany := (many_of hok).2.1
  obtain ⟨d, c, m, r, q, s⟩ := V
  obtain ⟨cp, cc, hcv⟩ := h.c.len'
  simp only at hcv
  obtain ⟨n, hne⟩ : ∃ n, x.C.length = n := ⟨_, rfl⟩
  have Hne := hid hne
  rw [hne] at hcv hmany ⊢
  subst hcv
  have n0 : (0 : Int) ≤ (n : Int) := by omega
  have n1 : (n : Int) ≤ 2048 := by omega
  have HB0 := hid (RwAt.new W 27 #[d, .slice cp n cc, m, r, q, s])
  have HG0 := hid (World.grownBy_alloc W (.cells #[d, .slice cp n cc, m, r, q, s] 27) none)
  have HO := hid h
  have HE := hid he
  have HF := hid hf
  have HV := hid hv
  clear h he hf hv hok hne hmany
  go_enter Tryd.func10, Tryd.ntmps10
  go_upto_region 1 with (fail)
  obtain ⟨G, hG⟩ : ∃ G, W.heap.size = G := ⟨_, rfl⟩
  rw [hG] at HB0 ⊢
  clear hG
  generalize W.alloc (.cells #[d, .slice cp n cc, m, r, q, s] 27) = w1 at HB0 HG0 ⊢
  go_wp2_with (first
    | (refine wpList_load_rw rfl 27 _ rfl rfl HB0.out rfl Tryd.underlying27 info_object ?_)
    | fail)
  refine (places_yes (V := ⟨d, .slice cp n cc, m, r, q, s⟩) (HO.out.kept0 HG0.out) (HE.out.kept0 HG0.out) HF.out HV.out).mono ?_
  rintro e w2 ⟨v, rfl, hown, hg⟩
  rw [Hne.out] at hown
  obtain ⟨b, o, c', rfl, -, hb, hc⟩ := (CsAt.own hown).at_ (by omega)
  have ep : w2.cell? ⟨b, o + n, none⟩ = some (.int .i64 (plN x n : Int)) := hc n _ (by rw [List.getElem?_map, plL_get x (Nat.lt_succ_self n)]; rfl)
  have e1 := (HB0.out.kept0 hg).cell 1 (v := .slice cp n cc) rfl
  have HG2 := hid (grown_trans HG0.out hg)
  have nn : (n : Int) < ((n + 1 : Nat) : Int) := by omega
  have nn2 : (n : Int) < (n : Int) + 1 := by omega
  clear hown hg hb hc HB0 HG0
  go_wp2
  refine bodyPost_ret (v := .tuple #[.int .i64 (plN x n), .nilIface]) (by simp [results, Tryd.results10, go_sem]) rfl ?_
  exact ⟨rfl, HG2.out⟩
def zeroO : Value := .agg #[.slice none 0 0, .slice none 0 0, .slice none 0 0, .slice none 0 0, .slice none 0 0, .slice none 0 0]
theorem build_obj0 (w : World) : (Instr.build 27 #[]).run Tryd.prog w = .ok (.agg #[.slice none 0 0, .slice none 0 0, .slice none 0 0, .slice none 0 0, .slice none 0 0, .slice none 0 0]) w := by kernel_rfl
set_option maxRecDepth 100000 in
set_option maxHeartbeats 4000000 in
theorem do_no {W : World} {A : Nat → Addr} {V : OV} {x : PO} (h : OAt W V x) (he : ErrC W A) (hf : OFit x) (hv : validP x ≠ none) :
    Calls Tryd.prog 8 #[V.agg] W fun e w' => ∃ fv, e = .returned (.tuple #[zeroO, .slice none 0 0, fv]) ∧ FltAt A w' fv (validP x) ∧ W.grownBy w' none := by
  obtain ⟨d, c, m, r, q, s⟩ := V
  have Hz := zero_obj
  have hb := build_obj0
  have HB0 := hid ((RwAt.new W 27 #[d, c, m, r, q, s]).alloc (.cells #[.slice none 0 0, .slice none 0 0, .slice none 0 0, .slice none 0 0, .slice none 0 0, .slice none 0 0] 27))
  have HR0 := hid (RwAt.new2 W (.cells #[d, c, m, r, q, s] 27) 27 #[.slice none 0 0, .slice none 0 0, .slice none 0 0, .slice none 0 0, .slice none 0 0, .slice none 0 0])
  have HG0 := hid (grown_trans (World.grownBy_alloc W (.cells #[d, c, m, r, q, s] 27) none) (World.grownBy_alloc _ (.cells #[.slice none 0 0, .slice none 0 0, .slice none 0 0, .slice none 0 0, .slice none 0 0, .slice none 0 0] 27) none))
  have HO := hid h
  have HE := hid he
  have HF := hid hf
  have HV := hid hv
  clear h he hf hv
  go_enter Tryd.func8, Tryd.ntmps8
  go_upto_region 1 with (fail)
  obtain ⟨R, hR⟩ : ∃ R, W.heap.size + 1 = R := ⟨_, rfl⟩
  have HRb : Hid (W.heap.size ≤ R) := hid (by omega)
  obtain ⟨G, hG⟩ : ∃ G, W.heap.size = G := ⟨_, rfl⟩
  rw [hR] at HR0
  rw [hG] at HB0
  generalize (W.alloc (.cells #[d, c, m, r, q, s] 27)).alloc (.cells #[.slice none 0 0, .slice none 0 0, .slice none 0 0, .slice none 0 0, .slice none 0 0, .slice none 0 0] 27) = w1 at HB0 HR0 HG0 ⊢
  try rw [hR]
  try rw [hG]
  clear hR hG Hz
  go_wp2_with (first
    | (refine wpList_load_rw rfl 27 _ rfl rfl HB0.out rfl Tryd.underlying27 info_object ?_)
    | fail)
  refine (places_no (V := ⟨d, c, m, r, q, s⟩) (HO.out.kept0 HG0.out) (HE.out.kept0 HG0.out) HF.out HV.out).mono ?_
  rintro e w2 ⟨fv, rfl, hfl, hg⟩
  have HR2 := hid (HR0.out.kept0 hg)
  have HG2 := hid (grown_trans HG0.out hg)
  have E := hid (HR2.out.row #[.slice none 0 0, .slice none 0 0, .slice none 0 0, .slice none 0 0, .slice none 0 0, .slice none 0 0])
  have EG := hid (grown_setRow HG2.out HRb.out #[.slice none 0 0, .slice none 0 0, .slice none 0 0, .slice none 0 0, .slice none 0 0, .slice none 0 0])
  have hgs : w2.grownBy (w2.setRow R #[.slice none 0 0, .slice none 0 0, .slice none 0 0, .slice none 0 0, .slice none 0 0, .slice none 0 0]) (some R) := ⟨rfl, rfl, rfl, by simp [World.setRow], fun i _ hi => setRow_other w2 R i _ (fun e => hi (by rw [e]))⟩
  have HFl := hid (flt_box hfl HR2.out hgs)
  obtain ⟨t, pv, rfl, heq, hneq⟩ := flt_is_e hfl HV.out
  have z0 := E.out.cell 0 (v := .slice none 0 0) rfl
  have z1 := E.out.cell 1 (v := .slice none 0 0) rfl
  have z2 := E.out.cell 2 (v := .slice none 0 0) rfl
  have z3 := E.out.cell 3 (v := .slice none 0 0) rfl
  have z4 := E.out.cell 4 (v := .slice none 0 0) rfl
  have z5 := E.out.cell 5 (v := .slice none 0 0) rfl
  clear hfl hg hgs HB0 HR0 HG0
  go_wp2_with (first
    | (refine wpList_store_rw rfl 27 _ _ rfl rfl rfl HR2.out info_object rfl (by simp [Value.oneCell']) ?_)
    | fail)
  refine bodyPost_ret (v := .tuple #[zeroO, .slice none 0 0, .iface t pv]) (by simp [results, zeroO, Tryd.results8, z0, z1, z2, z3, z4, z5, go_sem]) rfl ?_
  exact ⟨_, rfl, HFl.out, EG.out⟩
end Go.Proofs.YtgahbpfmiibpeaaDoor
/- The mark in a word: plain facts on bits. -/
namespace Go.Proofs.YtgahbpfmiibpeaaDoor
theorem nat_orM (n : Nat) (h : n < 2147483648) : 2147483648 ||| n = 2147483648 + n := by
  have := Nat.two_pow_add_eq_or_of_lt (i := 31) (b := n) (by omega) 1
  rw [show 2 ^ 31 * 1 = 2147483648 from rfl] at this
  exact this.symm
theorem orM {y : Int} (h0 : 0 ≤ y) (h1 : y < 2147483648) : bits BinOp.or IntKind.u32 2147483648 y = 2147483648 + y := by
  obtain ⟨n, rfl⟩ := Int.eq_ofNat_of_zero_le h0
  rw [show (2147483648 : Int) = ((2147483648 : Nat) : Int) from rfl, u32_or_nat 2147483648 n (by omega) (by omega), nat_orM n (by omega)]
  omega
theorem nat_andM (n : Nat) (h : n < 4294967296) : n &&& 2147483648 = if n < 2147483648 then 0 else 2147483648 := by
  apply Nat.eq_of_testBit_eq
  intro i
  rw [show 2147483648 = 2 ^ 31 from rfl, Nat.testBit_and, Nat.testBit_two_pow]
  split
  · rename_i h2
    by_cases e : 31 = i
    · subst e
      rw [Nat.testBit_lt_two_pow h2]; simp
    · simp [e]
  · rename_i h2
    rw [Nat.testBit_two_pow]
    by_cases e : 31 = i
    · subst e
      obtain ⟨z, rfl⟩ : ∃ z, n = 2 ^ 31 + z := ⟨n - 2 ^ 31, by omega⟩
      rw [Nat.testBit_two_pow_add_eq, Nat.testBit_lt_two_pow (by omega)]; rfl
    · simp [e]
theorem andM {y : Int} (h0 : 0 ≤ y) (h1 : y < 4294967296) : bits BinOp.and IntKind.u32 y 2147483648 = if y < 2147483648 then 0 else 2147483648 := by
  obtain ⟨n, rfl⟩ := Int.eq_ofNat_of_zero_le h0
  rw [show (2147483648 : Int) = ((2147483648 : Nat) : Int) from rfl, u32_and_nat n 2147483648 (by omega) (by omega), nat_andM n (by omega)]
  by_cases h : n < 2147483648
  · rw [if_pos h, if_pos (by omega)]; rfl
  · rw [if_neg h, if_neg (by omega)]
theorem low_and_not (z : Nat) (h : z < 2147483648) : (BitVec.ofNat 32 (2147483648 + z) &&& ~~~(BitVec.ofNat 32 2147483648)).toNat = z := by
  rw [BitVec.toNat_and, BitVec.toNat_not, BitVec.toNat_ofNat, BitVec.toNat_ofNat, show 2 ^ 32 - 1 - 2147483648 % 2 ^ 32 = 2 ^ 31 - 1 by decide, Nat.and_two_pow_sub_one_eq_mod]
  omega
theorem andnotM {y : Int} (h0 : 2147483648 ≤ y) (h1 : y < 4294967296) : bits BinOp.andNot IntKind.u32 y 2147483648 = y - 2147483648 := by
  obtain ⟨z, rfl⟩ : ∃ z : Nat, y = ((2147483648 + z : Nat) : Int) := ⟨(y - 2147483648).toNat, by omega⟩
  show IntKind.u32.wrap ((BitVec.ofInt 32 ((2147483648 + z : Nat) : Int) &&& ~~~BitVec.ofInt 32 ((2147483648 : Nat) : Int)).toNat : Int) = _
  rw [BitVec.ofInt_natCast, BitVec.ofInt_natCast, low_and_not z (by omega)]
  have e : (z : Int) % 2 ^ 32 = z := Int.emod_eq_of_lt (by omega) (by omega)
  simp only [IntKind.wrap, IntKind.bits, IntKind.signed, e]
  simp
  omega
end Go.Proofs.YtgahbpfmiibpeaaDoor
