/- Package relax on plain data: items, where each begins, which go too far, the rounds. -/
namespace Go.Proofs.Ytmhkghkfpkekbaa
structure RIt where
  s : Int
  t : Int
  b : Bool
def okRI (n : Nat) (it : RIt) : Bool := decide (0 ≤ it.s ∧ it.s ≤ 2048) && (!it.b || decide (0 ≤ it.t ∧ it.t ≤ (n : Int)))
def okR (L : List RIt) : Bool := L.all (okRI L.length)
def validR (L : List RIt) : Bool := decide (L.length ≤ 4096) && okR L
def sR : Option RIt → Int
  | some it => it.s
  | none => 0
/-- how much an item takes -/
def szR (L : List RIt) (B : List Bool) (k : Nat) : Int := sR L[k]? + (if B.getD k false then 1 else 0)
def plR (L : List RIt) (B : List Bool) : Nat → Int
  | 0 => 0
  | k + 1 => plR L B k + szR L B k
def plsR (L : List RIt) (B : List Bool) (n : Nat) : List Int := (List.range n).map (plR L B)
def nearR (d : Int) : Bool := decide (-128 ≤ d) && decide (d ≤ 127)
def tooB (L : List RIt) (B : List Bool) (k : Nat) : Bool :=
  match L[k]? with
  | some it => it.b && !(B.getD k false) && !(nearR (plR L B it.t.toNat - plR L B k))
  | none => false
def farR (L : List RIt) (B : List Bool) : Nat → List Int
  | 0 => []
  | k + 1 => farR L B k ++ (if tooB L B k then [(k : Int)] else [])
def nextR (L : List RIt) (B : List Bool) : List Bool := (List.range L.length).map fun k => B.getD k false || tooB L B k
def itR (L : List RIt) : Nat → List Bool
  | 0 => List.replicate L.length false
  | j + 1 => nextR L (itR L j)
section
variable {L L' : List RIt} {B B' : List Bool} {n k : Nat}
theorem nextR_length : (nextR L B).length = L.length := by simp [nextR]
theorem itR_length : ∀ j, (itR L j).length = L.length
  | 0 => by simp [itR]
  | _ + 1 => nextR_length
theorem plsR_length : (plsR L B n).length = n := by simp [plsR]
theorem plsR_get (h : k < n) : (plsR L B n)[k]? = some (plR L B k) := by simp [plsR, h]
theorem nextR_getD (h : k < L.length) : (nextR L B).getD k false = (B.getD k false || tooB L B k) := by
  simp [nextR, List.getD_eq_getElem?_getD, h]
theorem farR_succ_yes (h : tooB L B k = true) : farR L B (k + 1) = farR L B k ++ [(k : Int)] := by simp [farR, h]
theorem farR_succ_no (h : tooB L B k = false) : farR L B (k + 1) = farR L B k := by simp [farR, h]
theorem farR_length {L : List RIt} {B : List Bool} : ∀ n, (farR L B n).length ≤ n
  | 0 => by simp [farR]
  | n + 1 => by
    have := @farR_length L B n
    cases h : tooB L B n
    · rw [farR_succ_no h]; omega
    · rw [farR_succ_yes h, List.length_append, List.length_singleton]; omega
theorem farR_mem {L : List RIt} {B : List Bool} : ∀ {n : Nat} {x : Int}, x ∈ farR L B n ↔ ∃ k : Nat, k < n ∧ x = k ∧ tooB L B k = true
  | 0, x => by simp [farR]
  | n + 1, x => by
    cases h : tooB L B n
    · rw [farR_succ_no h, farR_mem]
      constructor
      · rintro ⟨k, h1, h2, h3⟩; exact ⟨k, by omega, h2, h3⟩
      · rintro ⟨k, h1, h2, h3⟩
        refine ⟨k, ?_, h2, h3⟩
        rcases Nat.lt_succ_iff_lt_or_eq.1 h1 with h4 | rfl
        · exact h4
        · rw [h] at h3; cases h3
    · rw [farR_succ_yes h, List.mem_append, farR_mem, List.mem_singleton]
      constructor
      · rintro (⟨k, h1, h2, h3⟩ | rfl)
        · exact ⟨k, by omega, h2, h3⟩
        · exact ⟨n, by omega, rfl, h⟩
      · rintro ⟨k, h1, h2, h3⟩
        rcases Nat.lt_succ_iff_lt_or_eq.1 h1 with h4 | rfl
        · exact .inl ⟨k, h4, h2, h3⟩
        · exact .inr h2
theorem farR_nil : farR L B n = [] ↔ ∀ k, k < n → tooB L B k = false := by
  constructor
  · intro h k hk
    cases e : tooB L B k with
    | false => rfl
    | true => have := farR_mem.2 ⟨k, hk, rfl, e⟩; rw [h] at this; cases this
  · intro h
    cases e : farR L B n with
    | nil => rfl
    | cons x r =>
      obtain ⟨k, h1, _, h3⟩ := (farR_mem (x := x) (n := n)).1 (by rw [e]; simp)
      rw [h k h1] at h3; cases h3
/-! ### how many rounds -/
def cntP (p : Nat → Bool) : Nat → Nat
  | 0 => 0
  | k + 1 => cntP p k + (if p k then 1 else 0)
theorem cntP_le {p q : Nat → Bool} : ∀ n, (∀ k, k < n → p k = true → q k = true) → cntP p n ≤ cntP q n
  | 0, _ => Nat.le_refl _
  | n + 1, h => by
    have h1 := cntP_le n (fun k hk => h k (by omega)) (p := p) (q := q)
    have h2 := h n (by omega)
    unfold cntP
    cases hp : p n <;> cases hq : q n <;> simp_all <;> omega
theorem cntP_lt {p q : Nat → Bool} : ∀ n, (∀ k, k < n → p k = true → q k = true) → (∃ k, k < n ∧ q k = true ∧ p k = false) → cntP p n < cntP q n
  | 0, _, ⟨k, h, _⟩ => by omega
  | n + 1, h, ⟨k, hk, h1, h2⟩ => by
    have hle := cntP_le n (fun k hk => h k (by omega)) (p := p) (q := q)
    by_cases e : k = n
    · subst e; unfold cntP; rw [h1, h2]; simp; omega
    · have hlt := cntP_lt n (fun k hk => h k (by omega)) ⟨k, by omega, h1, h2⟩ (p := p) (q := q)
      have h3 := h n (by omega)
      unfold cntP
      cases hp : p n <;> cases hq : q n <;> simp_all <;> omega
theorem cntP_bound (p : Nat → Bool) : ∀ n, cntP p n ≤ n
  | 0 => Nat.le_refl _
  | n + 1 => by have := cntP_bound p n; unfold cntP; split <;> omega
def isBr (L : List RIt) (k : Nat) : Bool := match L[k]? with | some it => it.b | none => false
theorem far_br (h : tooB L B k = true) : isBr L k = true ∧ B.getD k false = false := by
  unfold tooB at h; unfold isBr
  split at h
  · simp only [Bool.and_eq_true, Bool.not_eq_true'] at h; rename_i e; exact ⟨h.1.1, h.1.2⟩
  · cases h
theorem itR_getD_lt {j : Nat} (h : (itR L j).getD k false = true) : k < L.length := by
  by_cases hk : k < L.length
  · exact hk
  · rw [List.getD_eq_getElem?_getD, List.getElem?_eq_none (by rw [itR_length]; omega)] at h; cases h
theorem itR_zero_getD : (itR L 0).getD k false = false := by
  unfold itR; rw [List.getD_eq_getElem?_getD, List.getElem?_replicate]; split <;> rfl
theorem itR_br : ∀ j, (itR L j).getD k false = true → isBr L k = true
  | 0, h => by rw [itR_zero_getD] at h; cases h
  | j + 1, h => by
    have hk := itR_getD_lt h
    rw [itR, nextR_getD hk, Bool.or_eq_true] at h
    rcases h with h | h
    · exact itR_br j h
    · exact (far_br h).1
theorem itR_count : ∀ j, (∀ i, i < j → farR L (itR L i) L.length ≠ []) → j ≤ cntP (fun k => (itR L j).getD k false) L.length
  | 0, _ => Nat.zero_le _
  | j + 1, h => by
    have h1 := itR_count j (fun i hi => h i (by omega))
    have h2 := h j (by omega)
    have h3 : cntP (fun k => (itR L j).getD k false) L.length < cntP (fun k => (itR L (j + 1)).getD k false) L.length := by
      refine cntP_lt _ (fun k hk hp => ?_) ?_
      · rw [itR, nextR_getD hk]; simp only [hp, Bool.true_or]
      · obtain ⟨x, r, hx⟩ := List.exists_cons_of_ne_nil h2
        obtain ⟨k, hk, _, hf⟩ := (farR_mem (x := x) (n := L.length)).1 (by rw [hx]; simp)
        exact ⟨k, hk, by rw [itR, nextR_getD hk, hf]; simp, (far_br hf).2⟩
    omega
/-- the number of rounds -/
theorem rounds_ex (L : List RIt) : ∃ K, K ≤ cntP (isBr L) L.length ∧ farR L (itR L K) L.length = [] ∧ ∀ i, i < K → farR L (itR L i) L.length ≠ [] := by
  have least : ∀ m : Nat, (∃ K, K < m ∧ farR L (itR L K) L.length = [] ∧ ∀ i, i < K → farR L (itR L i) L.length ≠ []) ∨ ∀ i, i < m → farR L (itR L i) L.length ≠ [] := by
    intro m
    induction m with
    | zero => exact .inr (fun i hi => by omega)
    | succ m ih =>
      rcases ih with ⟨K, h1, h2⟩ | h
      · exact .inl ⟨K, by omega, h2⟩
      · by_cases e : farR L (itR L m) L.length = []
        · exact .inl ⟨m, by omega, e, h⟩
        · refine .inr (fun i hi => ?_)
          rcases Nat.lt_succ_iff_lt_or_eq.1 hi with h1 | rfl
          · exact h i h1
          · exact e
  rcases least (cntP (isBr L) L.length + 1) with ⟨K, h1, h2⟩ | h
  · exact ⟨K, by omega, h2⟩
  · have h1 := itR_count _ h
    have h2 := cntP_le (p := fun k => (itR L (cntP (isBr L) L.length + 1)).getD k false) (q := isBr L) L.length (fun k _ hp => itR_br _ hp)
    omega
/-- so many rounds, and then all fit -/
def RndR (L : List RIt) (K : Nat) : Prop := farR L (itR L K) L.length = [] ∧ ∀ i, i < K → farR L (itR L i) L.length ≠ []
theorem rnd_unique {K K' : Nat} (h : RndR L K) (h' : RndR L K') : K = K' := by
  rcases Nat.lt_trichotomy K K' with e | e | e
  · exact absurd h.1 (h'.2 _ e)
  · exact e
  · exact absurd h'.1 (h.2 _ e)
theorem rnd_bound {K : Nat} (h : RndR L K) : K ≤ L.length := by
  obtain ⟨K', h1, h2⟩ := rounds_ex L
  rw [rnd_unique h h2]
  exact Nat.le_trans h1 (cntP_bound _ _)
theorem rnd_branches {K : Nat} (h : RndR L K) : K ≤ cntP (isBr L) L.length := by
  obtain ⟨K', h1, h2⟩ := rounds_ex L
  rw [rnd_unique h h2]
  exact h1
/-! ### places grow -/
theorem szR_le (hs : ∀ k : Nat, sR L[k]? ≤ sR L'[k]?) (hB : ∀ k, B.getD k false = true → B'.getD k false = true) : szR L B k ≤ szR L' B' k := by
  unfold szR
  have h1 := hs k
  have h2 := hB k
  have h3 : (if B.getD k false = true then (1 : Int) else 0) ≤ (if B'.getD k false = true then 1 else 0) := by
    by_cases e : B.getD k false = true
    · rw [if_pos e, if_pos (h2 e)]; exact Int.le_refl _
    · rw [if_neg e]; split <;> decide
  omega
theorem szR_nonneg (h : okR L = true) : 0 ≤ szR L B k := by
  unfold szR
  have h1 : (0 : Int) ≤ sR L[k]? := by
    cases e : L[k]? with
    | none => exact Int.le_refl _
    | some it =>
      have := List.all_eq_true.1 h it (List.mem_of_getElem? e)
      simp only [okRI, Bool.and_eq_true, decide_eq_true_eq] at this
      show 0 ≤ it.s
      omega
  split <;> omega
theorem szR_small (h : okR L = true) : szR L B k ≤ 2049 := by
  unfold szR
  have h1 : sR L[k]? ≤ 2048 := by
    cases e : L[k]? with
    | none => show (0 : Int) ≤ 2048; omega
    | some it =>
      have := List.all_eq_true.1 h it (List.mem_of_getElem? e)
      simp only [okRI, Bool.and_eq_true, decide_eq_true_eq] at this
      show it.s ≤ 2048
      omega
  split <;> omega
theorem plR_succ (k : Nat) : plR L B (k + 1) = plR L B k + szR L B k := rfl
theorem plR_bd {L : List RIt} {B : List Bool} (h : okR L = true) : ∀ k : Nat, 0 ≤ plR L B k ∧ plR L B k ≤ 2049 * k
  | 0 => by simp [plR]
  | k + 1 => by
    have h1 := @plR_bd L B h k
    have h2 := szR_nonneg h (B := B) (k := k)
    have h3 := szR_small h (B := B) (k := k)
    rw [plR_succ]
    omega
theorem plR_mono (h : okR L = true) {i j : Nat} (hij : i ≤ j) : plR L B i ≤ plR L B j := by
  obtain ⟨d, rfl⟩ := Nat.exists_eq_add_of_le hij
  induction d with
  | zero => exact Int.le_refl _
  | succ d ih =>
    have h1 := ih (by omega)
    have h2 := szR_nonneg h (B := B) (k := i + d)
    rw [show i + (d + 1) = i + d + 1 from rfl, plR_succ]
    omega
theorem plR_diff (hs : ∀ k : Nat, sR L[k]? ≤ sR L'[k]?) (hB : ∀ k, B.getD k false = true → B'.getD k false = true) {i j : Nat} (hij : i ≤ j) : plR L B j - plR L B i ≤ plR L' B' j - plR L' B' i := by
  obtain ⟨d, rfl⟩ := Nat.exists_eq_add_of_le hij
  induction d with
  | zero => simp
  | succ d ih =>
    have h1 := ih (by omega)
    have h2 := szR_le hs hB (k := i + d)
    rw [show i + (d + 1) = i + d + 1 from rfl, plR_succ, plR_succ]
    omega
/-- no smaller, to the same places -/
structure LeR (L L' : List RIt) : Prop where
  len : L.length = L'.length
  ok : okR L = true
  s : ∀ k : Nat, sR L[k]? ≤ sR L'[k]?
  tb : ∀ (k : Nat) (it it' : RIt), L[k]? = some it → L'[k]? = some it' → it.b = it'.b ∧ (it.b = true → it.t = it'.t)
theorem LeR.refl (h : okR L = true) : LeR L L := ⟨rfl, h, fun _ => Int.le_refl _, fun k it it' h1 h2 => by rw [h1] at h2; cases h2; exact ⟨rfl, fun _ => rfl⟩⟩
theorem far_le (h : LeR L L') (hB : ∀ k, B.getD k false = true → B'.getD k false = true) (hf : tooB L B k = true) (hn : B'.getD k false = false) : tooB L' B' k = true := by
  unfold tooB at hf ⊢
  cases e : L[k]? with
  | none => rw [e] at hf; cases hf
  | some it =>
    have hk : k < L'.length := by rw [← h.len]; exact (List.getElem?_eq_some_iff.1 e).1
    have e' : L'[k]? = some L'[k] := List.getElem?_eq_getElem hk
    obtain ⟨hb, ht⟩ := h.tb k it _ e e'
    rw [e] at hf
    rw [e', hn]
    simp only [Bool.and_eq_true, Bool.not_eq_true'] at hf ⊢
    have hb1 := hf.1.1
    rw [← hb, hb1]
    have ht := ht hb1
    refine ⟨⟨rfl, trivial⟩, ?_⟩
    have h3 := hf.2
    simp only [nearR] at h3 ⊢
    rw [← ht]
    generalize it.t.toNat = t at *
    rcases Nat.le_total k t with hkt | hkt
    · have d1 := plR_diff h.s hB hkt
      have d2 := plR_mono h.ok hkt (B := B)
      simp only [Bool.and_eq_false_iff, decide_eq_false_iff_not] at h3 ⊢
      omega
    · have d1 := plR_diff h.s hB hkt
      have d2 := plR_mono h.ok hkt (B := B)
      simp only [Bool.and_eq_false_iff, decide_eq_false_iff_not] at h3 ⊢
      omega
/-- whatever fits is long wherever a round makes it so -/
theorem least_in (h : LeR L L') (hf : farR L' B' L'.length = []) : ∀ j k, (itR L j).getD k false = true → B'.getD k false = true
  | 0, k, hk => by rw [itR_zero_getD] at hk; cases hk
  | j + 1, k, hk => by
    have hl := itR_getD_lt hk
    rw [itR, nextR_getD hl, Bool.or_eq_true] at hk
    rcases hk with hk | hk
    · exact least_in h hf j k hk
    · cases e : B'.getD k false with
      | true => rfl
      | false =>
        have := far_le h (least_in h hf j) hk e
        rw [farR_nil.1 hf k (by rw [← h.len]; exact hl)] at this
        cases this
/-- without branches nothing is long -/
theorem none_far (h : ∀ k, isBr L k = false) : RndR L 0 :=
  ⟨farR_nil.2 (fun k _ => by
    cases e : tooB L (itR L 0) k with
    | false => rfl
    | true => have := (far_br e).1; rw [h k] at this; cases this), fun i hi => absurd hi (Nat.not_lt_zero i)⟩
end
end Go.Proofs.Ytmhkghkfpkekbaa
