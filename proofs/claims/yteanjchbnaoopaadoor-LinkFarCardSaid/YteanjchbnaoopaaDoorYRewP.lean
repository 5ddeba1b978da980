/- What is rewritten (package rewrite), as plain data: where each word stands, the code, the map, the object. -/
import Derived.Test.YteanjchbnaoopaaDoorYIsaP
import Derived.BigGuardPart
import Derived.WalkKit
import Derived.WalkSpells
import Derived.WalkLawsBesides
import Derived.Handy
import Derived.RegionTactic
import Derived.Deep.QuietTactic
import Derived.BigQuiet
import Derived.IntWalk
import Derived.Outline
import Derived.ChangeKeysEq
import Derived.Deep.WholeRow
import Derived.OwnWalk
import Derived.Laws.CopyOwn
import Derived.Deep.RegionHeld3
import Derived.LoopTactic
import Derived.LaidEql
import Derived.Stop.LaidErr
import Derived.Laws.ResultCell
namespace Go.Proofs.YteanjchbnaoopaaDoor
open Go.RowKit
def cntN (x : PO) (k : Nat) : Nat := (siL x (stL x k)).length
/-- where word k stands then -/
def plN (x : PO) (k : Nat) : Nat := k + cntN x k
def plL (x : PO) (n : Nat) : List Int := (List.range n).map fun k => (plN x k : Int)
theorem plL_length (x : PO) (n : Nat) : (plL x n).length = n := by simp [plL]
theorem plL_succ (x : PO) (n : Nat) : plL x (n + 1) = plL x n ++ [(plN x n : Int)] := by
  unfold plL
  rw [List.range_succ, List.map_append]; rfl
/-- the places, so far filled in -/
def fillP (x : PO) (N j : Nat) : List Value := (plL x j).map (Value.int .i64) ++ List.replicate (N - j) (.int .i64 0)
theorem fill_set (x : PO) {N j : Nat} (h : j < N) : (fillP x N j).set j (.int .i64 (plN x j : Int)) = fillP x N (j + 1) := by
  unfold fillP
  obtain ⟨m, hm⟩ : ∃ m, N - j = m + 1 := ⟨N - j - 1, by omega⟩
  have e : j = ((plL x j).map (Value.int .i64)).length + 0 := by simp [plL_length]
  rw [hm, show N - (j + 1) = m by omega, plL_succ, List.map_append, List.append_assoc, List.replicate_succ]
  conv => lhs; arg 2; rw [e]
  rw [List.set_append_right _ _ (by omega)]
  simp
/-! ### where nothing is to be rewritten -/
/-! ### the first one is told -/
theorem getD_some {l : List Int} {k : Nat} {v d : Int} (h : l[k]? = some v) : l.getD k d = v := by rw [List.getD_eq_getElem?_getD, h]; rfl
end Go.Proofs.YteanjchbnaoopaaDoor
namespace Go.Proofs.YteanjchbnaoopaaDoor
structure RIt where
  s : Int
  t : Int
  b : Bool
def okRI (n : Nat) (it : RIt) : Bool := decide (0 ≤ it.s ∧ it.s ≤ 2048) && (!it.b || decide (0 ≤ it.t ∧ it.t ≤ (n : Int)))
def okR (L : List RIt) : Bool := L.all (okRI L.length)
def validR (L : List RIt) : Bool := decide (L.length ≤ 4096) && okR L
def sR : Option RIt → Int
  | some it => it.s
  | none => 0
/-- how much an item takes -/
def szR (L : List RIt) (B : List Bool) (k : Nat) : Int := sR L[k]? + (if B.getD k false then 1 else 0)
def plR (L : List RIt) (B : List Bool) : Nat → Int
  | 0 => 0
  | k + 1 => plR L B k + szR L B k
def plsR (L : List RIt) (B : List Bool) (n : Nat) : List Int := (List.range n).map (plR L B)
def nearR (d : Int) : Bool := decide (-128 ≤ d) && decide (d ≤ 127)
def tooB (L : List RIt) (B : List Bool) (k : Nat) : Bool :=
  match L[k]? with
  | some it => it.b && !(B.getD k false) && !(nearR (plR L B it.t.toNat - plR L B k))
  | none => false
def farR (L : List RIt) (B : List Bool) : Nat → List Int
  | 0 => []
  | k + 1 => farR L B k ++ (if tooB L B k then [(k : Int)] else [])
def nextR (L : List RIt) (B : List Bool) : List Bool := (List.range L.length).map fun k => B.getD k false || tooB L B k
def itR (L : List RIt) : Nat → List Bool
  | 0 => List.replicate L.length false
  | j + 1 => nextR L (itR L j)
section
variable {L L' : List RIt} {B B' : List Bool} {n k : Nat}
theorem nextR_length : (nextR L B).length = L.length := by simp [nextR]
theorem itR_length : ∀ j, (itR L j).length = L.length
  | 0 => by simp [itR]
  | _ + 1 => nextR_length
theorem plsR_length : (plsR L B n).length = n := by simp [plsR]
theorem plsR_get (h : k < n) : (plsR L B n)[k]? = some (plR L B k) := by simp [plsR, h]
theorem nextR_getD (h : k < L.length) : (nextR L B).getD k false = (B.getD k false || tooB L B k) := by
  simp [nextR, List.getD_eq_getElem?_getD, h]
theorem farR_succ_yes (h : tooB L B k = true) : farR L B (k + 1) = farR L B k ++ [(k : Int)] := by simp [farR, h]
theorem farR_succ_no (h : tooB L B k = false) : farR L B (k + 1) = farR L B k := by simp [farR, h]
theorem farR_length {L : List RIt} {B : List Bool} : ∀ n, (farR L B n).length ≤ n
  | 0 => by simp [farR]
  | n + 1 => by
    have := @farR_length L B n
    cases h : tooB L B n
    · rw [farR_succ_no h]; omega
    · rw [farR_succ_yes h, List.length_append, List.length_singleton]; omega
theorem farR_mem {L : List RIt} {B : List Bool} : ∀ {n : Nat} {x : Int}, x ∈ farR L B n ↔ ∃ k : Nat, k < n ∧ x = k ∧ tooB L B k = true
  | 0, x => by simp [farR]
  | n + 1, x => by
    cases h : tooB L B n
    · rw [farR_succ_no h, farR_mem]
      constructor
      · rintro ⟨k, h1, h2, h3⟩; exact ⟨k, by omega, h2, h3⟩
      · rintro ⟨k, h1, h2, h3⟩
        refine ⟨k, ?_, h2, h3⟩
        rcases Nat.lt_succ_iff_lt_or_eq.1 h1 with h4 | rfl
        · exact h4
        · rw [h] at h3; cases h3
    · rw [farR_succ_yes h, List.mem_append, farR_mem, List.mem_singleton]
      constructor
      · rintro (⟨k, h1, h2, h3⟩ | rfl)
        · exact ⟨k, by omega, h2, h3⟩
        · exact ⟨n, by omega, rfl, h⟩
      · rintro ⟨k, h1, h2, h3⟩
        rcases Nat.lt_succ_iff_lt_or_eq.1 h1 with h4 | rfl
        · exact .inl ⟨k, h4, h2, h3⟩
        · exact .inr h2
theorem farR_nil : farR L B n = [] ↔ ∀ k, k < n → tooB L B k = false := by
  constructor
  · intro h k hk
    cases e : tooB L B k with
    | false => rfl
    | true => have := farR_mem.2 ⟨k, hk, rfl, e⟩; rw [h] at this; cases this
  · intro h
    cases e : farR L B n with
    | nil => rfl
    | cons x r =>
      obtain ⟨k, h1, _, h3⟩ := (farR_mem (x := x) (n := n)).1 (by rw [e]; simp)
      rw [h k h1] at h3; cases h3
/-! ### how many rounds -/
def cntP (p : Nat → Bool) : Nat → Nat
  | 0 => 0
  | k + 1 => cntP p k + (if p k then 1 else 0)
theorem cntP_le {p q : Nat → Bool} : ∀ n, (∀ k, k < n → p k = true → q k = true) → cntP p n ≤ cntP q n
  | 0, _ => Nat.le_refl _
  | n + 1, h => by
    have h1 := cntP_le n (fun k hk => h k (by omega)) (p := p) (q := q)
    have h2 := h n (by omega)
    unfold cntP
    cases hp : p n <;> cases hq : q n <;> simp_all <;> omega
theorem cntP_lt {p q : Nat → Bool} : ∀ n, (∀ k, k < n → p k = true → q k = true) → (∃ k, k < n ∧ q k = true ∧ p k = false) → cntP p n < cntP q n
  | 0, _, ⟨k, h, _⟩ => by omega
  | n + 1, h, ⟨k, hk, h1, h2⟩ => by
    have hle := cntP_le n (fun k hk => h k (by omega)) (p := p) (q := q)
    by_cases e : k = n
    · subst e; unfold cntP; rw [h1, h2]; simp; omega
    · have hlt := cntP_lt n (fun k hk => h k (by omega)) ⟨k, by omega, h1, h2⟩ (p := p) (q := q)
      have h3 := h n (by omega)
      unfold cntP
      cases hp : p n <;> cases hq : q n <;> simp_all <;> omega
theorem cntP_bound (p : Nat → Bool) : ∀ n, cntP p n ≤ n
  | 0 => Nat.le_refl _
  | n + 1 => by have := cntP_bound p n; unfold cntP; split <;> omega
def isBr (L : List RIt) (k : Nat) : Bool := match L[k]? with | some it => it.b | none => false
theorem far_br (h : tooB L B k = true) : isBr L k = true ∧ B.getD k false = false := by
  unfold tooB at h; unfold isBr
  split at h
  · simp only [Bool.and_eq_true, Bool.not_eq_true'] at h; rename_i e; exact ⟨h.1.1, h.1.2⟩
  · cases h
theorem itR_getD_lt {j : Nat} (h : (itR L j).getD k false = true) : k < L.length := by
  by_cases hk : k < L.length
  · exact hk
  · rw [List.getD_eq_getElem?_getD, List.getElem?_eq_none (by rw [itR_length]; omega)] at h; cases h
theorem itR_zero_getD : (itR L 0).getD k false = false := by
  unfold itR; rw [List.getD_eq_getElem?_getD, List.getElem?_replicate]; split <;> rfl
theorem itR_br : ∀ j, (itR L j).getD k false = true → isBr L k = true
  | 0, h => by rw [itR_zero_getD] at h; cases h
  | j + 1, h => by
    have hk := itR_getD_lt h
    rw [itR, nextR_getD hk, Bool.or_eq_true] at h
    rcases h with h | h
    · exact itR_br j h
    · exact (far_br h).1
theorem itR_count : ∀ j, (∀ i, i < j → farR L (itR L i) L.length ≠ []) → j ≤ cntP (fun k => (itR L j).getD k false) L.length
  | 0, _ => Nat.zero_le _
  | j + 1, h => by
    have h1 := itR_count j (fun i hi => h i (by omega))
    have h2 := h j (by omega)
    have h3 : cntP (fun k => (itR L j).getD k false) L.length < cntP (fun k => (itR L (j + 1)).getD k false) L.length := by
      refine cntP_lt _ (fun k hk hp => ?_) ?_
      · rw [itR, nextR_getD hk]; simp only [hp, Bool.true_or]
      · obtain ⟨x, r, hx⟩ := List.exists_cons_of_ne_nil h2
        obtain ⟨k, hk, _, hf⟩ := (farR_mem (x := x) (n := L.length)).1 (by rw [hx]; simp)
        exact ⟨k, hk, by rw [itR, nextR_getD hk, hf]; simp, (far_br hf).2⟩
    omega
/-- the number of rounds -/
theorem rounds_ex (L : List RIt) : ∃ K, K ≤ cntP (isBr L) L.length ∧ farR L (itR L K) L.length = [] ∧ ∀ i, i < K → farR L (itR L i) L.length ≠ [] := by
  have least : ∀ m : Nat, (∃ K, K < m ∧ farR L (itR L K) L.length = [] ∧ ∀ i, i < K → farR L (itR L i) L.length ≠ []) ∨ ∀ i, i < m → farR L (itR L i) L.length ≠ [] := by
    intro m
    induction m with
    | zero => exact .inr (fun i hi => by omega)
    | succ m ih =>
      rcases ih with ⟨K, h1, h2⟩ | h
      · exact .inl ⟨K, by omega, h2⟩
      · by_cases e : farR L (itR L m) L.length = []
        · exact .inl ⟨m, by omega, e, h⟩
        · refine .inr (fun i hi => ?_)
          rcases Nat.lt_succ_iff_lt_or_eq.1 hi with h1 | rfl
          · exact h i h1
          · exact e
  rcases least (cntP (isBr L) L.length + 1) with ⟨K, h1, h2⟩ | h
  · exact ⟨K, by omega, h2⟩
  · have h1 := itR_count _ h
    have h2 := cntP_le (p := fun k => (itR L (cntP (isBr L) L.length + 1)).getD k false) (q := isBr L) L.length (fun k _ hp => itR_br _ hp)
    omega
/-- so many rounds, and then all fit -/
def RndR (L : List RIt) (K : Nat) : Prop := farR L (itR L K) L.length = [] ∧ ∀ i, i < K → farR L (itR L i) L.length ≠ []
theorem rnd_unique {K K' : Nat} (h : RndR L K) (h' : RndR L K') : K = K' := by
  rcases Nat.lt_trichotomy K K' with e | e | e
  · exact absurd h.1 (h'.2 _ e)
  · exact e
  · exact absurd h'.1 (h.2 _ e)
theorem rnd_bound {K : Nat} (h : RndR L K) : K ≤ L.length := by
  obtain ⟨K', h1, h2⟩ := rounds_ex L
  rw [rnd_unique h h2]
  exact Nat.le_trans h1 (cntP_bound _ _)
/-! ### places grow -/
theorem szR_nonneg (h : okR L = true) : 0 ≤ szR L B k := by
  unfold szR
  have h1 : (0 : Int) ≤ sR L[k]? := by
    cases e : L[k]? with
    | none => exact Int.le_refl _
    | some it =>
      have := List.all_eq_true.1 h it (List.mem_of_getElem? e)
      simp only [okRI, Bool.and_eq_true, decide_eq_true_eq] at this
      show 0 ≤ it.s
      omega
  split <;> omega
theorem szR_small (h : okR L = true) : szR L B k ≤ 2049 := by
  unfold szR
  have h1 : sR L[k]? ≤ 2048 := by
    cases e : L[k]? with
    | none => show (0 : Int) ≤ 2048; omega
    | some it =>
      have := List.all_eq_true.1 h it (List.mem_of_getElem? e)
      simp only [okRI, Bool.and_eq_true, decide_eq_true_eq] at this
      show it.s ≤ 2048
      omega
  split <;> omega
theorem plR_succ (k : Nat) : plR L B (k + 1) = plR L B k + szR L B k := rfl
theorem plR_bd {L : List RIt} {B : List Bool} (h : okR L = true) : ∀ k : Nat, 0 ≤ plR L B k ∧ plR L B k ≤ 2049 * k
  | 0 => by simp [plR]
  | k + 1 => by
    have h1 := @plR_bd L B h k
    have h2 := szR_nonneg h (B := B) (k := k)
    have h3 := szR_small h (B := B) (k := k)
    rw [plR_succ]
    omega
theorem plR_mono (h : okR L = true) {i j : Nat} (hij : i ≤ j) : plR L B i ≤ plR L B j := by
  obtain ⟨d, rfl⟩ := Nat.exists_eq_add_of_le hij
  induction d with
  | zero => exact Int.le_refl _
  | succ d ih =>
    have h1 := ih (by omega)
    have h2 := szR_nonneg h (B := B) (k := i + d)
    rw [show i + (d + 1) = i + d + 1 from rfl, plR_succ]
    omega
/-- no smaller, to the same places -/
structure LeR (L L' : List RIt) : Prop where
  len : L.length = L'.length
  ok : okR L = true
  s : ∀ k : Nat, sR L[k]? ≤ sR L'[k]?
  tb : ∀ (k : Nat) (it it' : RIt), L[k]? = some it → L'[k]? = some it' → it.b = it'.b ∧ (it.b = true → it.t = it'.t)
theorem LeR.refl (h : okR L = true) : LeR L L := ⟨rfl, h, fun _ => Int.le_refl _, fun k it it' h1 h2 => by rw [h1] at h2; cases h2; exact ⟨rfl, fun _ => rfl⟩⟩
end
end Go.Proofs.YteanjchbnaoopaaDoor
namespace Go.Proofs.YteanjchbnaoopaaDoor
/-- a word, the lowest byte first -/
def w4 (n : Int) : List Int := [n % 256, n / 256 % 256, n / 65536 % 256, n / 16777216 % 256]
def lensI (x : PO) : List Int := [x.D.length, x.C.length, x.R.length, x.Q.length, x.S.length]
end Go.Proofs.YteanjchbnaoopaaDoor
namespace Go.Proofs.YteanjchbnaoopaaDoor
open Go.RowKit
def wordV (op a b c imm : Int) : Int := if insB op a b c imm = true then wrdI op a b c else 0
theorem wordV_yes {op a b c imm : Int} (h : insB op a b c imm = true) : wordV op a b c imm = wrdI op a b c := by unfold wordV; rw [if_pos h]
theorem wordV_no {op a b c imm : Int} (h : insB op a b c imm = false) : wordV op a b c imm = 0 := by unfold wordV; rw [if_neg (by simp [h])]
theorem word_any (op a b c imm : Int) (w : World) :
    Calls Tryd.prog 51 #[.agg #[.int .i64 op, .int .i64 a, .int .i64 b, .int .i64 c, .int .u32 imm]] w fun e w' => e = .returned (.tuple #[.int .u32 (wordV op a b c imm), .bool (insB op a b c imm)]) ∧ Below w.heap.size w w' := by
  cases h : insB op a b c imm
  · rw [wordV_no h]; exact word_no op a b c imm w h
  · rw [wordV_yes h]; exact word_yes op a b c imm w h
set_option maxHeartbeats 400000 in
theorem rclass_any (op : Int) (w : World) :
    Calls Tryd.prog 31 #[.int .i64 op] w fun e w' => e = .returned (.int .i64 (clsI op)) ∧ w = w' := by
  go_enter Tryd.func31, Tryd.ntmps31
  go_wp2
  all_goals
    go_ret
    refine ⟨ret_i ?_, rfl⟩
    try simp only [beq_iff_eq, beq_eq_false_iff_ne, ne_eq] at *
    unfold clsI
    repeat' split
    all_goals omega
def rA (op : Int) : Bool := decide (¬ (op = 1 ∨ op = 34 ∨ op = 42 ∨ op = 64 ∨ op = 65 ∨ op = 19 ∨ op = 22 ∨ op = 96 ∨ op = 16))
def rB (op : Int) : Bool := decide (op = 2 ∨ op = 37 ∨ op = 38 ∨ op = 41 ∨ (3 ≤ op ∧ op ≤ 13) ∨ op = 24)
def rC (op : Int) : Bool := decide (op = 16 ∨ op = 17 ∨ op = 18 ∨ (3 ≤ op ∧ op ≤ 13) ∨ op = 24)
def rN (op : Int) : Bool := decide (op = 16 ∨ op = 17 ∨ op = 18 ∨ op = 12 ∨ op = 13)
theorem rA_has {op : Int} (h : clsI op ≠ 0) : hasA op = if rA op = true then 1 else 0 := by
  unfold rA hasA; unfold clsI at h; simp only [decide_eq_true_eq]
  repeat' split at h
  all_goals (repeat' split) <;> omega
theorem rB_has (op : Int) : hasB op = if rB op = true then 1 else 0 := by
  unfold rB hasB; simp only [decide_eq_true_eq]
theorem rC_has (op : Int) : hasC op = if rC op = true then (if rN op = true then 2 else 1) else 0 := by
  unfold rC rN hasC; simp only [decide_eq_true_eq]
  (repeat' split) <;> omega
theorem ret_4b {a b c d a' b' c' d' : Bool} (h : a = a') (h1 : b = b') (h2 : c = c') (h3 : d = d') :
    Ending.returned (.tuple #[.bool a, .bool b, .bool c, .bool d]) = .returned (.tuple #[.bool a', .bool b', .bool c', .bool d']) := by rw [h, h1, h2, h3]
set_option maxHeartbeats 1000000 in
theorem uses_any (op : Int) (w : World) :
    Calls Tryd.prog 30 #[.int .i64 op] w fun e w' => e = .returned (.tuple #[.bool (rA op), .bool (rB op), .bool (rC op), .bool (rN op)]) ∧ w = w' := by
  go_enter Tryd.func30, Tryd.ntmps30
  go_wp2
  all_goals
    refine bodyPost_ret (by simp [results, Tryd.results30, go_sem]; try rfl) rfl ?_
    refine ⟨ret_4b ?_ ?_ ?_ ?_, rfl⟩
    all_goals simp only [beq_iff_eq, beq_eq_false_iff_ne, ne_eq] at *
    all_goals first | unfold rA | unfold rB | unfold rC | unfold rN
    all_goals simp only [true_eq_decide_iff, false_eq_decide_iff]
    all_goals omega
end Go.Proofs.YteanjchbnaoopaaDoor
namespace Go.Proofs.YteanjchbnaoopaaDoor
open Go.RowKit
theorem i64_and255 (n : Int) : bits .and .i64 n 255 = n % 256 := by
  have q : (BitVec.ofInt 64 255).toNat = 2 ^ 8 - 1 := by decide
  have key : (BitVec.ofInt 64 n &&& BitVec.ofInt 64 255).toNat = (n % ((2 ^ 64 : Nat) : Int)).toNat % 2 ^ 8 := by
    rw [BitVec.toNat_and, BitVec.toNat_ofInt, q, Nat.and_two_pow_sub_one_eq_mod]
  show IntKind.i64.wrap ((BitVec.ofInt 64 n &&& BitVec.ofInt 64 255).toNat : Nat) = n % 256
  rw [key, IntKind.wrap_i64]
  omega
end Go.Proofs.YteanjchbnaoopaaDoor
namespace Go.Proofs.YteanjchbnaoopaaDoor
open Go.RowKit
set_option maxHeartbeats 1000000 in
theorem rtwo_any (op : Int) (w : World) :
    Calls Tryd.prog 20 #[.int .i64 op] w fun e w' => e = .returned (.bool (twoB op)) ∧ w = w' := by
  go_enter Tryd.func20, Tryd.ntmps20
  go_wp2
  all_goals
    go_ret
    refine ⟨ret_b ?_, rfl⟩
    rw [Bool.eq_iff_iff]
    unfold twoB
    simp only [beq_iff_eq, decide_eq_true_eq] at *
    first | omega | (simp_all; done) | (simp_all; omega)
def regB (n : Int) (has : Bool) : Bool := decide (n = 0) || has && decide (0 < n) && decide (n < 16)
set_option maxHeartbeats 1000000 in
theorem reg_any (n : Int) (has : Bool) (w : World) :
    Calls Tryd.prog 32 #[.int .i64 n, .bool has] w fun e w' => e = .returned (.bool (regB n has)) ∧ w = w' := by
  by_cases h0 : n = 0
  · subst h0
    go_enter Tryd.func32, Tryd.ntmps32
    go_wp2
    go_ret
    exact ⟨ret_b (by simp [regB]), rfl⟩
  · have e0 : (n == 0) = false := by simpa using h0
    have H0 := hid h0
    clear h0
    cases has
    · go_enter Tryd.func32, Tryd.ntmps32
      go_wp2
      go_ret
      exact ⟨ret_b (by simp [regB, H0.out]), rfl⟩
    · by_cases h1 : 0 < n
      · go_enter Tryd.func32, Tryd.ntmps32
        go_wp2
        go_ret
        exact ⟨ret_b (by simp [regB, H0.out, h1]), rfl⟩
      · go_enter Tryd.func32, Tryd.ntmps32
        go_wp2
        go_ret
        exact ⟨ret_b (by simp [regB, H0.out]; try omega), rfl⟩
set_option maxHeartbeats 1000000 in
theorem rdisp_any (c : Int) (w : World) :
    Calls Tryd.prog 10 #[.int .i64 c] w fun e w' => e = .returned (.int .i64 ((c + 128) % 256 - 128)) ∧ w = w' := by
  have E := i64_and255 c
  go_enter Tryd.func10, Tryd.ntmps10
  go_wp2
  all_goals
    go_ret
    exact ⟨ret_i (by omega), rfl⟩
theorem alw_reg (x : Bool) (n : Int) : alwB (if x = true then 1 else 0) n = regB n x := by
  unfold alwB regB
  cases x
  · simp
  · rw [Bool.eq_iff_iff]; simp; omega
theorem ins_ref (op a b c imm : Int) : insB op a b c imm = (decide (clsI op ≠ 0) && regB a (rA op) && regB b (rB op) && (twoB op || decide (imm = 0)) && (if rN op = true then decide (0 ≤ c ∧ c ≤ 255) else regB c (rC op))) := by
  unfold insB
  by_cases h : clsI op = 0
  · simp [h]
  · rw [rA_has h, rB_has, alw_reg, alw_reg]
    have hC : alwB (hasC op) c = (if rN op = true then decide (0 ≤ c ∧ c ≤ 255) else regB c (rC op)) := by
      rw [rC_has]
      cases hn : rN op
      · simp only [Bool.false_eq_true, if_false]
        exact alw_reg _ _
      · have hc : rC op = true := by
          unfold rN at hn; have := of_decide_eq_true hn
          unfold rC; exact decide_eq_true (by omega)
        rw [hc]; unfold alwB; simp
    rw [hC]
    cases regB a (rA op) <;> cases regB b (rB op) <;> cases twoB op <;> simp [h, Bool.and_comm]
end Go.Proofs.YteanjchbnaoopaaDoor
namespace Go.Proofs.YteanjchbnaoopaaDoor
open Go.RowKit
theorem rins_yes {op a b c imm : Int} (h : insB op a b c imm = true) :
    (clsI op != 0) = true ∧ regB a (rA op) = true ∧ regB b (rB op) = true ∧ (twoB op = true ∨ twoB op = false ∧ (imm == 0) = true) ∧ (rN op = true ∨ rN op = false ∧ regB c (rC op) = true) := by
  rw [ins_ref] at h
  simp only [Bool.and_eq_true, Bool.or_eq_true, decide_eq_true_eq] at h
  obtain ⟨⟨⟨⟨h1, h2⟩, h3⟩, h4⟩, h5⟩ := h
  refine ⟨by simpa using h1, h2, h3, ?_, ?_⟩
  · cases ht : twoB op
    · right; simp [ht] at h4; simp [h4]
    · left; rfl
  · cases hn : rN op
    · right; simp [hn] at h5; simp [h5]
    · left; rfl
theorem rins_no {op a b c imm : Int} (h : insB op a b c imm = false) :
    ((clsI op != 0) = false ∧ rN op = rN op) ∨
    ((clsI op != 0) = true ∧ regB a (rA op) = false) ∨
    ((clsI op != 0) = true ∧ regB a (rA op) = true ∧ regB b (rB op) = false) ∨
    ((clsI op != 0) = true ∧ regB a (rA op) = true ∧ regB b (rB op) = true ∧ twoB op = false ∧ (imm == 0) = false) ∨
    ((clsI op != 0) = true ∧ regB a (rA op) = true ∧ regB b (rB op) = true ∧ twoB op = true ∧ rN op = true ∧ c < 0) ∨
    ((clsI op != 0) = true ∧ regB a (rA op) = true ∧ regB b (rB op) = true ∧ twoB op = true ∧ rN op = true ∧ 0 ≤ c ∧ decide (c ≤ 255) = false) ∨
    ((clsI op != 0) = true ∧ regB a (rA op) = true ∧ regB b (rB op) = true ∧ twoB op = true ∧ rN op = false ∧ regB c (rC op) = false) ∨
    ((clsI op != 0) = true ∧ regB a (rA op) = true ∧ regB b (rB op) = true ∧ twoB op = false ∧ (imm == 0) = true ∧ rN op = true ∧ c < 0) ∨
    ((clsI op != 0) = true ∧ regB a (rA op) = true ∧ regB b (rB op) = true ∧ twoB op = false ∧ (imm == 0) = true ∧ rN op = true ∧ 0 ≤ c ∧ decide (c ≤ 255) = false) ∨
    ((clsI op != 0) = true ∧ regB a (rA op) = true ∧ regB b (rB op) = true ∧ twoB op = false ∧ (imm == 0) = true ∧ rN op = false ∧ regB c (rC op) = false) := by
  rw [ins_ref] at h
  by_cases h1 : clsI op = 0
  · left; simp [h1]
  · right
    have e1 : (clsI op != 0) = true := by simpa using h1
    cases h2 : regB a (rA op)
    · left; simp [e1]
    · right
      cases h3 : regB b (rB op)
      · left; simp [e1]
      · right
        cases ht : twoB op
        · by_cases hi : imm = 0
          · right; right; right; right
            cases hn : rN op
            · right; right
              simp [h1, h2, h3, ht, hi, hn] at h; simp [e1, hi, h]
            · simp [h1, h2, h3, ht, hi, hn] at h
              by_cases hc : c < 0
              · left; simp [e1, hi, hc]
              · right; left; simp [e1, hi]; omega
          · left; simp [e1, hi]
        · right
          cases hn : rN op
          · right; right; left
            simp [h1, h2, h3, ht, hn] at h; simp [e1, h]
          · simp [h1, h2, h3, ht, hn] at h
            by_cases hc : c < 0
            · left; simp [e1, hc]
            · right; left; simp [e1]; omega
set_option maxHeartbeats 2000000 in
theorem rword_yes (op a b c imm : Int) (w : World) (h : insB op a b c imm = true) :
    Calls Tryd.prog 21 #[.agg #[.int .i64 op, .int .i64 a, .int .i64 b, .int .i64 c, .int .u32 imm]] w fun e w' => e = .returned (.tuple #[.int .u32 (wrdI op a b c), .bool true]) ∧ Below w.heap.size w w' := by
  obtain ⟨⟨o1, o2⟩, ⟨a1, a2⟩, ⟨b1, b2⟩, ⟨c1, c2⟩⟩ := ins_bd h
  have H : Hid (bits BinOp.or IntKind.u32 (bits BinOp.or IntKind.u32 (bits BinOp.or IntKind.u32 (op * 16777216) (a * 65536)) (b * 256)) c = wrdI op a b c) := wrd_or op a b c ⟨by omega, by omega⟩ ⟨a1, a2⟩ ⟨b1, b2⟩ ⟨c1, c2⟩
  obtain ⟨h1, h2, h3, h4, h5⟩ := rins_yes h
  clear h
  rcases h4 with h4 | ⟨h4, h6⟩ <;> rcases h5 with h5 | ⟨h5, h7⟩
  all_goals
    go_enter Tryd.func21, Tryd.ntmps21
    go_wp2_with (first | (go_at_call 30; refine (uses_any _ _).mono ?_; rintro e w' ⟨rfl, rfl⟩) | (go_at_call 31; refine (rclass_any _ _).mono ?_; rintro e w' ⟨rfl, rfl⟩) | (go_at_call 32; refine (reg_any _ _ _).mono ?_; rintro e w' ⟨rfl, rfl⟩) | (go_at_call 20; refine (rtwo_any _ _).mono ?_; rintro e w' ⟨rfl, rfl⟩))
    go_ret2
    exact ⟨ret_wb H.out, by go_grown⟩
set_option maxHeartbeats 4000000 in
theorem rword_no (op a b c imm : Int) (w : World) (h : insB op a b c imm = false) :
    Calls Tryd.prog 21 #[.agg #[.int .i64 op, .int .i64 a, .int .i64 b, .int .i64 c, .int .u32 imm]] w fun e w' => e = .returned (.tuple #[.int .u32 0, .bool false]) ∧ Below w.heap.size w w' := by
  have h' := rins_no h
  clear h
  rcases h' with ⟨h1, _⟩ | ⟨h1, h2⟩ | ⟨h1, h2, h3⟩ | ⟨h1, h2, h3, h4, h5⟩ | ⟨h1, h2, h3, h4, h5, h6⟩ | ⟨h1, h2, h3, h4, h5, h6, h7⟩ | ⟨h1, h2, h3, h4, h5, h6⟩ | ⟨h1, h2, h3, h4, h5, h6, h7⟩ | ⟨h1, h2, h3, h4, h5, h6, h7, h8⟩ | ⟨h1, h2, h3, h4, h5, h6, h7⟩
  all_goals
    go_enter Tryd.func21, Tryd.ntmps21
    go_wp2_with (first | (go_at_call 30; refine (uses_any _ _).mono ?_; rintro e w' ⟨rfl, rfl⟩) | (go_at_call 31; refine (rclass_any _ _).mono ?_; rintro e w' ⟨rfl, rfl⟩) | (go_at_call 32; refine (reg_any _ _ _).mono ?_; rintro e w' ⟨rfl, rfl⟩) | (go_at_call 20; refine (rtwo_any _ _).mono ?_; rintro e w' ⟨rfl, rfl⟩))
    all_goals
      go_ret2
      exact ⟨rfl, by go_grown⟩
theorem rword_any (op a b c imm : Int) (w : World) :
    Calls Tryd.prog 21 #[.agg #[.int .i64 op, .int .i64 a, .int .i64 b, .int .i64 c, .int .u32 imm]] w fun e w' => e = .returned (.tuple #[.int .u32 (wordV op a b c imm), .bool (insB op a b c imm)]) ∧ Below w.heap.size w w' := by
  cases h : insB op a b c imm
  · rw [wordV_no h]; exact rword_no op a b c imm w h
  · rw [wordV_yes h]; exact rword_yes op a b c imm w h
set_option maxHeartbeats 1000000 in
theorem rof_yes (x imm : Int) (w : World) (hx0 : 0 ≤ x) (hx1 : x < 4294967296) (h : insB (x / 16777216) (x / 65536 % 256) (x / 256 % 256) (x % 256) (wantImm (x / 16777216) imm) = true) :
    Calls Tryd.prog 9 #[.int .u32 x, .int .u32 imm] w fun e w' => e = .returned (.tuple #[.agg #[.int .i64 (x / 16777216), .int .i64 (x / 65536 % 256), .int .i64 (x / 256 % 256), .int .i64 (x % 256), .int .u32 (wantImm (x / 16777216) imm)], .bool true]) ∧ Below w.heap.size w w' := by
  have E1 := and_255 (x / 65536) (by omega) (by omega)
  have E2 := and_255 (x / 256) (by omega) (by omega)
  have E3 := and_255 x (by omega) (by omega)
  cases ht : twoB (x / 16777216)
  · have hw : Hid (wantImm (x / 16777216) imm = 0) := wantImm_no ht
    rw [wantImm_no ht] at h
    go_enter Tryd.func9, Tryd.ntmps9
    go_wp2_with (first | (go_at_call 20; refine (rtwo_any _ _).mono ?_; rintro e w' ⟨rfl, rfl⟩) | (go_at_call 21; refine (rword_any _ _ _ _ _ _).mono ?_; rintro e w' ⟨rfl, hb⟩; obtain ⟨hc, hf⟩ := bcell hb; have hz1 : w.heap.size + 1 < w'.heap.size := (by have := hb.size; simp only [World.size_alloc] at this; omega); have hz : w.heap.size < w'.heap.size := (by omega); have hB : Below w.heap.size w w' := (by refine Below.trans ?_ (hb.mono ?_) <;> go_grown); have k0 : w'.cell? ⟨w.heap.size, 0, none⟩ = some (.int .i64 0) := ((hc _ _ (by simp only [World.size_alloc]; omega)).trans (by simp [go_sem])); have k1 : w'.cell? ⟨w.heap.size, 1, none⟩ = some (.int .i64 0) := ((hc _ _ (by simp only [World.size_alloc]; omega)).trans (by simp [go_sem])); have k2 : w'.cell? ⟨w.heap.size, 2, none⟩ = some (.int .i64 0) := ((hc _ _ (by simp only [World.size_alloc]; omega)).trans (by simp [go_sem])); have k3 : w'.cell? ⟨w.heap.size, 3, none⟩ = some (.int .i64 0) := ((hc _ _ (by simp only [World.size_alloc]; omega)).trans (by simp [go_sem])); have k4 : w'.cell? ⟨w.heap.size, 4, none⟩ = some (.int .u32 0) := ((hc _ _ (by simp only [World.size_alloc]; omega)).trans (by simp [go_sem]))))
    refine bodyPost_ret (v := .tuple #[.agg #[.int .i64 (x / 16777216), .int .i64 (x / 65536 % 256), .int .i64 (x / 256 % 256), .int .i64 (x % 256), .int .u32 0], .bool true]) (by simp [results, Tryd.results9, k0, k1, k2, k3, k4, go_sem]) rfl ?_
    exact ⟨ret_of rfl rfl rfl rfl hw.out.symm, by go_grown⟩
  · have hw : Hid (wantImm (x / 16777216) imm = imm) := wantImm_yes ht
    rw [wantImm_yes ht] at h
    go_enter Tryd.func9, Tryd.ntmps9
    go_wp2_with (first | (go_at_call 20; refine (rtwo_any _ _).mono ?_; rintro e w' ⟨rfl, rfl⟩) | (go_at_call 21; refine (rword_any _ _ _ _ _ _).mono ?_; rintro e w' ⟨rfl, hb⟩; obtain ⟨hc, hf⟩ := bcell hb; have hz1 : w.heap.size + 1 < w'.heap.size := (by have := hb.size; simp only [World.size_alloc] at this; omega); have hz : w.heap.size < w'.heap.size := (by omega); have hB : Below w.heap.size w w' := (by refine Below.trans ?_ (hb.mono ?_) <;> go_grown); have k0 : w'.cell? ⟨w.heap.size, 0, none⟩ = some (.int .i64 0) := ((hc _ _ (by simp only [World.size_alloc]; omega)).trans (by simp [go_sem])); have k1 : w'.cell? ⟨w.heap.size, 1, none⟩ = some (.int .i64 0) := ((hc _ _ (by simp only [World.size_alloc]; omega)).trans (by simp [go_sem])); have k2 : w'.cell? ⟨w.heap.size, 2, none⟩ = some (.int .i64 0) := ((hc _ _ (by simp only [World.size_alloc]; omega)).trans (by simp [go_sem])); have k3 : w'.cell? ⟨w.heap.size, 3, none⟩ = some (.int .i64 0) := ((hc _ _ (by simp only [World.size_alloc]; omega)).trans (by simp [go_sem])); have k4 : w'.cell? ⟨w.heap.size, 4, none⟩ = some (.int .u32 0) := ((hc _ _ (by simp only [World.size_alloc]; omega)).trans (by simp [go_sem]))))
    refine bodyPost_ret (v := .tuple #[.agg #[.int .i64 (x / 16777216), .int .i64 (x / 65536 % 256), .int .i64 (x / 256 % 256), .int .i64 (x % 256), .int .u32 imm], .bool true]) (by simp [results, Tryd.results9, k0, k1, k2, k3, k4, go_sem]) rfl ?_
    exact ⟨ret_of rfl rfl rfl rfl hw.out.symm, by go_grown⟩
set_option maxHeartbeats 1000000 in
theorem rof_no (x imm : Int) (w : World) (hx0 : 0 ≤ x) (hx1 : x < 4294967296) (h : insB (x / 16777216) (x / 65536 % 256) (x / 256 % 256) (x % 256) (wantImm (x / 16777216) imm) = false) :
    Calls Tryd.prog 9 #[.int .u32 x, .int .u32 imm] w fun e w' => e = .returned (.tuple #[.agg #[.int .i64 0, .int .i64 0, .int .i64 0, .int .i64 0, .int .u32 0], .bool false]) ∧ Below w.heap.size w w' := by
  have E1 := and_255 (x / 65536) (by omega) (by omega)
  have E2 := and_255 (x / 256) (by omega) (by omega)
  have E3 := and_255 x (by omega) (by omega)
  cases ht : twoB (x / 16777216)
  · have hw : Hid (wantImm (x / 16777216) imm = 0) := wantImm_no ht
    rw [wantImm_no ht] at h
    go_enter Tryd.func9, Tryd.ntmps9
    go_wp2_with (first | (go_at_call 20; refine (rtwo_any _ _).mono ?_; rintro e w' ⟨rfl, rfl⟩) | (go_at_call 21; refine (rword_any _ _ _ _ _ _).mono ?_; rintro e w' ⟨rfl, hb⟩; obtain ⟨hc, hf⟩ := bcell hb; have hz1 : w.heap.size + 1 < w'.heap.size := (by have := hb.size; simp only [World.size_alloc] at this; omega); have hz : w.heap.size < w'.heap.size := (by omega); have hB : Below w.heap.size w w' := (by refine Below.trans ?_ (hb.mono ?_) <;> go_grown); have k0 : w'.cell? ⟨w.heap.size, 0, none⟩ = some (.int .i64 0) := ((hc _ _ (by simp only [World.size_alloc]; omega)).trans (by simp [go_sem])); have k1 : w'.cell? ⟨w.heap.size, 1, none⟩ = some (.int .i64 0) := ((hc _ _ (by simp only [World.size_alloc]; omega)).trans (by simp [go_sem])); have k2 : w'.cell? ⟨w.heap.size, 2, none⟩ = some (.int .i64 0) := ((hc _ _ (by simp only [World.size_alloc]; omega)).trans (by simp [go_sem])); have k3 : w'.cell? ⟨w.heap.size, 3, none⟩ = some (.int .i64 0) := ((hc _ _ (by simp only [World.size_alloc]; omega)).trans (by simp [go_sem])); have k4 : w'.cell? ⟨w.heap.size, 4, none⟩ = some (.int .u32 0) := ((hc _ _ (by simp only [World.size_alloc]; omega)).trans (by simp [go_sem]))))
    refine bodyPost_ret (v := .tuple #[.agg #[.int .i64 0, .int .i64 0, .int .i64 0, .int .i64 0, .int .u32 0], .bool false]) (by simp [results, Tryd.results9, k0, k1, k2, k3, k4, go_sem]) rfl ?_
    exact ⟨ret_of rfl rfl rfl rfl rfl, by go_grown⟩
  · have hw : Hid (wantImm (x / 16777216) imm = imm) := wantImm_yes ht
    rw [wantImm_yes ht] at h
    go_enter Tryd.func9, Tryd.ntmps9
    go_wp2_with (first | (go_at_call 20; refine (rtwo_any _ _).mono ?_; rintro e w' ⟨rfl, rfl⟩) | (go_at_call 21; refine (rword_any _ _ _ _ _ _).mono ?_; rintro e w' ⟨rfl, hb⟩; obtain ⟨hc, hf⟩ := bcell hb; have hz1 : w.heap.size + 1 < w'.heap.size := (by have := hb.size; simp only [World.size_alloc] at this; omega); have hz : w.heap.size < w'.heap.size := (by omega); have hB : Below w.heap.size w w' := (by refine Below.trans ?_ (hb.mono ?_) <;> go_grown); have k0 : w'.cell? ⟨w.heap.size, 0, none⟩ = some (.int .i64 0) := ((hc _ _ (by simp only [World.size_alloc]; omega)).trans (by simp [go_sem])); have k1 : w'.cell? ⟨w.heap.size, 1, none⟩ = some (.int .i64 0) := ((hc _ _ (by simp only [World.size_alloc]; omega)).trans (by simp [go_sem])); have k2 : w'.cell? ⟨w.heap.size, 2, none⟩ = some (.int .i64 0) := ((hc _ _ (by simp only [World.size_alloc]; omega)).trans (by simp [go_sem])); have k3 : w'.cell? ⟨w.heap.size, 3, none⟩ = some (.int .i64 0) := ((hc _ _ (by simp only [World.size_alloc]; omega)).trans (by simp [go_sem])); have k4 : w'.cell? ⟨w.heap.size, 4, none⟩ = some (.int .u32 0) := ((hc _ _ (by simp only [World.size_alloc]; omega)).trans (by simp [go_sem]))))
    refine bodyPost_ret (v := .tuple #[.agg #[.int .i64 0, .int .i64 0, .int .i64 0, .int .i64 0, .int .u32 0], .bool false]) (by simp [results, Tryd.results9, k0, k1, k2, k3, k4, go_sem]) rfl ?_
    exact ⟨ret_of rfl rfl rfl rfl rfl, by go_grown⟩
end Go.Proofs.YteanjchbnaoopaaDoor
namespace Go.Proofs.YteanjchbnaoopaaDoor
open Go.RowKit
section
variable {m b n c : Nat} {xs : List Int} {w : World}
end
theorem toList_madeZero (z : Value) (k n : Nat) (hn : 0 < n) : madeCells (Array.replicate n z) k = Array.replicate k z := by
  apply Array.ext
  · simp [madeCells]
  · intro i h1 h2
    have : i % n < n := Nat.mod_lt _ hn
    simp [madeCells, this]
end Go.Proofs.YteanjchbnaoopaaDoor
namespace Go.Proofs.YteanjchbnaoopaaDoor
open Go.RowKit
section
variable {m b n c : Nat} {xs : List Int} {w : World}
theorem SlAt.len {k : IntKind} {v : Value} {ls : List Int} (h : SlAt w k v ls) : ∃ p c', v = .slice p ls.length c' := by
  rcases h with ⟨⟨p, c, rfl⟩, rfl⟩ | ⟨b, o, c, rfl, _⟩
  · exact ⟨_, _, rfl⟩
  · exact ⟨_, _, rfl⟩
end
end Go.Proofs.YteanjchbnaoopaaDoor
namespace Go.Proofs.YteanjchbnaoopaaDoor
open Go.RowKit
/-- a number from 0 to below a bound -/
def numB (n : Int) (k : Nat) : Nat := (n % (k : Int)).toNat
theorem numB_lt (n : Int) {k : Nat} (hk : 0 < k) : numB n k < k := by unfold numB; have := Int.emod_lt_of_pos n (show (0 : Int) < k by omega); have := Int.emod_nonneg n (show (k : Int) ≠ 0 by omega); omega
theorem number_up (n : Int) (k : Nat) (hk : 0 < k) (hk2 : (k : Int) ≤ 9223372036854775807) (h0 : 0 ≤ n) (h1 : n ≤ 9223372036854775807) (w : World) :
    Calls Tryd.prog 11 #[.int .i64 n, .int .i64 k] w fun e w' => e = .returned (.int .i64 (numB n k)) ∧ w = w' := by
  have hn : ((numB n k : Nat) : Int) = n % (k : Int) := by
    unfold numB
    have := Int.emod_nonneg n (show (k : Int) ≠ 0 by omega)
    omega
  have Hn := hid hn
  have hz : (0 : Int) < (k : Int) := by omega
  have hm := Int.emod_nonneg n (show (k : Int) ≠ 0 by omega)
  have hm2 := Int.emod_lt_of_pos n hz
  clear hn
  go_enter Tryd.func11, Tryd.ntmps11
  go_wp2
  go_ret
  exact ⟨ret_i Hn.out.symm, rfl⟩
theorem tmod_down {n : Int} {k : Nat} (hk : 0 < k) (h : n < 0) : -(k : Int) < n.tmod k ∧ n.tmod k ≤ 0 ∧ n % (k : Int) = if n.tmod k < 0 then n.tmod k + k else n.tmod k := by
  obtain ⟨a, rfl⟩ : ∃ a, n = -a := ⟨-n, by omega⟩
  have hz : (0 : Int) < (k : Int) := by omega
  have h1 := Int.emod_nonneg a (show (k : Int) ≠ 0 by omega)
  have h2 := Int.emod_lt_of_pos a hz
  have h3 := Int.mul_ediv_add_emod a k
  rw [Int.neg_tmod, Int.tmod_eq_emod_of_nonneg (by omega)]
  refine ⟨by omega, by omega, ?_⟩
  split
  · refine ((Int.ediv_emod_unique hz (q := -(a / k) - 1)).2 ⟨?_, by omega, by omega⟩).2
    rw [Int.mul_sub, Int.mul_neg]
    omega
  · refine ((Int.ediv_emod_unique hz (q := -(a / k))).2 ⟨?_, by omega, by omega⟩).2
    rw [Int.mul_neg]
    omega
theorem number_down (n : Int) (k : Nat) (hk : 0 < k) (hk2 : (k : Int) ≤ 9223372036854775807) (h0 : n < 0) (_h1 : -9223372036854775808 ≤ n) (w : World) :
    Calls Tryd.prog 11 #[.int .i64 n, .int .i64 k] w fun e w' => e = .returned (.int .i64 (numB n k)) ∧ w = w' := by
  have hn : ((numB n k : Nat) : Int) = n % (k : Int) := by
    unfold numB
    have := Int.emod_nonneg n (show (k : Int) ≠ 0 by omega)
    omega
  obtain ⟨t1, t2, ht⟩ := tmod_down hk h0
  rw [ht] at hn
  have Hn := hid hn
  have hz : (0 : Int) < (k : Int) := by omega
  clear hn ht
  by_cases hs : n.tmod k < 0
  · have Hs := hid hs
    go_enter Tryd.func11, Tryd.ntmps11
    go_wp2
    go_ret
    exact ⟨ret_i (by rw [Hn.out, if_pos Hs.out]), rfl⟩
  · have Hs := hid hs
    have hs2 : 0 ≤ n.tmod k := by omega
    clear hs
    go_enter Tryd.func11, Tryd.ntmps11
    go_wp2
    go_ret
    exact ⟨ret_i (by rw [Hn.out, if_neg (by omega)]), rfl⟩
theorem number_any (n : Int) (k : Nat) (hk : 0 < k) (hk2 : (k : Int) ≤ 9223372036854775807) (h0 : -9223372036854775808 ≤ n) (h1 : n ≤ 9223372036854775807) (w : World) :
    Calls Tryd.prog 11 #[.int .i64 n, .int .i64 k] w fun e w' => e = .returned (.int .i64 (numB n k)) ∧ w = w' := by
  by_cases h : 0 ≤ n
  · exact number_up n k hk hk2 h h1 w
  · exact number_down n k hk hk2 (by omega) h0 w
end Go.Proofs.YteanjchbnaoopaaDoor
namespace Go.Proofs.YteanjchbnaoopaaDoor
open Go.RowKit
section
variable {m b n c : Nat} {xs : List Int} {w : World}
theorem number_of (x a : Int) (k r : Nat) (ha : a = (k : Int)) (hr : numB x k = r) (hk : 0 < k) (hk2 : (k : Int) ≤ 9223372036854775807) (h0 : -9223372036854775808 ≤ x) (h1 : x ≤ 9223372036854775807) :
    Calls Tryd.prog 11 #[.int .i64 x, .int .i64 a] w fun e w' => e = .returned (.int .i64 r) ∧ w = w' := by
  subst ha; subst hr
  exact number_any x k hk hk2 h0 h1 w
end
theorem SlAt.frame {w : World} {g : Nat} {l : List Int} {t : TypeId} {fr : Nat × Nat} (hl : l.length = 16) (h : w.heap[g]? = some (.cells (wA l) t fr)) (c : Nat) : SlAt w .u32 (.slice (some ⟨g, 0, none⟩) 16 c) l := by
  have := SlAt.whole (k := .u32) (c := c) (xs := l) h
  rwa [hl] at this
end Go.Proofs.YteanjchbnaoopaaDoor
namespace Go.Proofs.YteanjchbnaoopaaDoor
open Go.RowKit Go.ChangeShapes
def errV (a : Addr) : Value := .iface 165 (.pointer (some a))
/-! ### out of what the row lists -/
section
variable {P : Program} {W : World}
theorem laid_sents {nm : String} {ti tp te ts : TypeId} {ms : Array (String × TypeId)} {f : Field}
    (hi : P.underlying ti = some (.interface ms)) (hrow : ∀ u, P.typeName? 3 u = some nm → u = tp)
    (hp : P.underlying tp = some (.pointer te)) (he : P.underlying te = some (.struct #[f])) (hft : f.type = ts) (hfo : f.offset = 0) (hs : P.underlying ts = some .string) (hc : P.cellsOf te = 1) (hcs : P.cellsOf ts = 1) :
    ∀ (l : List (String × List UInt8)) (ps : List MemPlace), DataW.LaidVars P W (l.map fun x => (x.1, .iface nm (.ptr (.agg [.lit (.string x.2)])))) ps →
      (∀ b off, MemPlace.cell b off ∈ ps → (∃ c t, W.heap[b]? = some (.cells c t (0, 0))) ∧ ∀ u v, W.cell? ⟨b, off, none⟩ = some (.iface u v) → Value.okWide P W .any 0 u v) → ps.Nodup →
      (∀ x ∈ l, (P.globalNamed x.1).bind (fun g => (P.globals[g]?).map (·.type)) = some ti) →
      ∃ al : List Addr, al.length = l.length ∧ al.Nodup ∧ (∀ a ∈ al, MemPlace.cell a.block a.off ∈ ps) ∧ ∀ (i : Nat) (x : String × List UInt8), l[i]? = some x → ∃ a, al[i]? = some a ∧ ∃ g, P.globalNamed x.1 = some g ∧ W.cell? ⟨g, 0, none⟩ = some (.iface tp (.pointer (some a)))
  | [], _, _, _, _, _ => ⟨[], rfl, List.nodup_nil, by simp, by simp⟩
  | (n, text) :: l, ps, h, hrows, hnd, hty => by
    obtain ⟨g, t, cs, fuel, p, q, hg, ht, hv, hd, hq, rfl⟩ := h
    have htt : t = ti := by
      have := hty (n, text) (by simp)
      simp only [hg, Option.bind_some, ht, Option.some.injEq] at this
      exact this
    subst htt
    rw [List.nodup_append] at hnd
    obtain ⟨_, hq2, hdis⟩ := hnd
    obtain ⟨al, hl, hn, hin, hall⟩ := laid_sents hi hrow hp he hft hfo hs hc hcs l q hq (fun b off hm => hrows b off (List.mem_append_right _ hm)) hq2 (fun x hx => hty x (by simp [hx]))
    obtain ⟨cl⟩ := cs
    have ok0 : ∀ u v, cl = [.iface u v] → Value.okWide P W .any 0 u v := fun u v e => by
      subst e
      exact (hrows g 0 (by simp [MemPlace.row])).2 u v (by simpa using World.var?_cell hg hv 0)
    obtain ⟨a, s, rfl, _, _, _, rfl⟩ := errorString_of_trod hi hrow hp he hft hfo hs hc hcs hd ok0
    have ha : MemPlace.cell a.block a.off ∈ MemPlace.row (⟨g, 0, none⟩ : Addr) 1 ++ MemPlace.row a 1 := by simp [MemPlace.row]
    refine ⟨a :: al, by simp [hl], List.nodup_cons.2 ⟨fun hm => ?_, hn⟩, fun b hb => ?_, fun i x hx => ?_⟩
    · exact hdis _ (by simpa using ha) _ (hin a hm) rfl
    · rcases List.mem_cons.1 hb with rfl | hb
      · exact List.mem_append_left _ (by simpa using ha)
      · exact List.mem_append_right _ (hin b hb)
    · cases i with
      | zero =>
        simp only [List.getElem?_cons_zero, Option.some.injEq] at hx
        subst hx
        exact ⟨a, rfl, g, hg, by simpa using World.var?_cell hg hv 0⟩
      | succ i =>
        simp only [List.getElem?_cons_succ] at hx ⊢
        exact hall i x hx
end
end Go.Proofs.YteanjchbnaoopaaDoor
namespace Go.Proofs.YteanjchbnaoopaaDoor
open Go.RowKit
/-! ### cells in a slice -/
/-- the slice value v has n elements, whose cells are these -/
def CsAt (w : World) (v : Value) (n : Nat) (cs : List Value) : Prop :=
  ((∃ p c, v = .slice p 0 c) ∧ n = 0 ∧ cs = []) ∨
  ∃ b o c, v = .slice (some ⟨b, o, none⟩) n c ∧ n ≤ c ∧ b < w.heap.size ∧ ∀ j u, cs[j]? = some u → w.cell? ⟨b, o + j, none⟩ = some u
section
variable {w w1 : World} {v : Value} {n : Nat} {cs : List Value}
theorem CsAt.kept0 (h : CsAt w v n cs) (hg : w.grownBy w1 none) : CsAt w1 v n cs := by
  rcases h with h | ⟨b, o, c, rfl, hn, hb, hc⟩
  · exact .inl h
  · refine .inr ⟨b, o, c, rfl, hn, Nat.lt_of_lt_of_le hb hg.size, fun j x hx => ?_⟩
    rw [grown_cell hg hb (by simp)]
    exact hc j x hx
theorem CsAt.len (h : CsAt w v n cs) : ∃ p c, v = .slice p n c := by
  rcases h with ⟨⟨p, c, rfl⟩, rfl, rfl⟩ | ⟨b, o, c, rfl, _⟩
  · exact ⟨_, _, rfl⟩
  · exact ⟨_, _, rfl⟩
theorem CsAt.own {base : Nat} {t : TypeId} {size : Nat} (h : w.ownsRow base t size v n cs) : CsAt w v n cs := by
  obtain ⟨hl, h⟩ := h
  rcases h with ⟨rfl, h0⟩ | ⟨g, cap, cur, rfl, _, hg, hcl, _, _, ht⟩
  · subst h0
    exact .inl ⟨⟨_, _, rfl⟩, rfl, List.eq_nil_of_length_eq_zero (by omega)⟩
  · refine .inr ⟨g, 0, cap, rfl, hcl, (Array.getElem?_eq_some_iff.1 hg).1, fun j u hu => ?_⟩
    rw [cell_of_row w g _ _ t _ hg, Nat.zero_add]
    have := congrArg (·[j]?) ht
    simp only [List.getElem?_take, hu] at this
    have hj : j < cs.length := (List.getElem?_eq_some_iff.1 hu).1
    rw [hl] at hj
    rw [if_pos hj] at this
    simpa using this
theorem CsAt.at_ (h : CsAt w v n cs) (hn : 0 < n) : ∃ b o c, v = .slice (some ⟨b, o, none⟩) n c ∧ n ≤ c ∧ b < w.heap.size ∧ ∀ j u, cs[j]? = some u → w.cell? ⟨b, o + j, none⟩ = some u := by
  rcases h with ⟨_, h0, _⟩ | h
  · omega
  · exact h
theorem SlAt.at_ {k : IntKind} {xs : List Int} (h : SlAt w k v xs) (hn : 0 < xs.length) : ∃ b o c, v = .slice (some ⟨b, o, none⟩) xs.length c ∧ b < w.heap.size ∧ ∀ j x, xs[j]? = some x → w.cell? ⟨b, o + j, none⟩ = some (.int k x) := by
  rcases h with ⟨_, rfl⟩ | h
  · simp at hn
  · exact h
theorem SlAt.len' {k : IntKind} {ls : List Int} (h : SlAt w k v ls) : ∃ p c', v = .slice p ls.length c' := by
  rcases h with ⟨⟨p, c, rfl⟩, rfl⟩ | ⟨b, o, c, rfl, _⟩
  · exact ⟨_, _, rfl⟩
  · exact ⟨_, _, rfl⟩
end
/-! ### relocations and symbols -/
def rlC (r : Rl) : List Value := [.int .i64 r.a, .int .i64 r.k, .int .i64 r.s, .int .i64 r.d]
def syC (s : Sy) : List Value := [.string s.n, .int .i64 s.i, .int .i64 s.v, .bool s.g]
def rlsC : List Rl → List Value
  | [] => []
  | r :: l => rlC r ++ rlsC l
def sysC : List Sy → List Value
  | [] => []
  | r :: l => syC r ++ sysC l
theorem rlsC_length : ∀ l : List Rl, (rlsC l).length = l.length * 4
  | [] => rfl
  | s :: r => by rw [rlsC, List.length_append, rlsC_length r, List.length_cons]; simp [rlC]; omega
theorem rlsC_append : ∀ l m : List Rl, rlsC (l ++ m) = rlsC l ++ rlsC m
  | [], _ => rfl
  | s :: r, m => by rw [List.cons_append, rlsC, rlsC_append r m, rlsC, List.append_assoc]
theorem sysC_append : ∀ l m : List Sy, sysC (l ++ m) = sysC l ++ sysC m
  | [], _ => rfl
  | s :: r, m => by rw [List.cons_append, sysC, sysC_append r m, sysC, List.append_assoc]
theorem rlsC_get : ∀ (l : List Rl) (k j : Nat) (s : Rl), l[k]? = some s → j < 4 → (rlsC l)[k * 4 + j]? = (rlC s)[j]?
  | [], _, _, _, h, _ => by simp at h
  | x :: r, 0, j, s, h, hj => by
    obtain rfl : x = s := by simpa using h
    rw [rlsC, Nat.zero_mul, Nat.zero_add, List.getElem?_append_left (by simpa [rlC] using hj)]
  | x :: r, k + 1, j, s, h, hj => by
    have := rlsC_get r k j s (by simpa using h) hj
    rw [rlsC, List.getElem?_append_right (by simp [rlC]; omega)]
    rw [← this]
    congr 1
    simp [rlC]; omega
theorem sysC_get : ∀ (l : List Sy) (k j : Nat) (s : Sy), l[k]? = some s → j < 4 → (sysC l)[k * 4 + j]? = (syC s)[j]?
  | [], _, _, _, h, _ => by simp at h
  | x :: r, 0, j, s, h, hj => by
    obtain rfl : x = s := by simpa using h
    rw [sysC, Nat.zero_mul, Nat.zero_add, List.getElem?_append_left (by simpa [syC] using hj)]
  | x :: r, k + 1, j, s, h, hj => by
    have := sysC_get r k j s (by simpa using h) hj
    rw [sysC, List.getElem?_append_right (by simp [syC]; omega)]
    rw [← this]
    congr 1
    simp [syC]; omega
theorem rlsC_one (l : List Rl) : ∀ v ∈ rlsC l, v.oneCell' = true := by
  induction l with
  | nil => simp [rlsC]
  | cons s r ih =>
    intro v hv
    rw [rlsC, List.mem_append] at hv
    rcases hv with hv | hv
    · simp only [rlC, List.mem_cons, List.not_mem_nil, or_false] at hv
      rcases hv with rfl | rfl | rfl | rfl <;> rfl
    · exact ih v hv
abbrev RlAt (w : World) (v : Value) (l : List Rl) : Prop := CsAt w v l.length (rlsC l)
abbrev SyAt (w : World) (v : Value) (l : List Sy) : Prop := CsAt w v l.length (sysC l)
/-! ### objects -/
/-- the six slices of an object -/
structure OV where
  d : Value
  c : Value
  m : Value
  r : Value
  q : Value
  s : Value
def OV.cells (V : OV) : Array Value := #[V.d, V.c, V.m, V.r, V.q, V.s]
abbrev OV.agg (V : OV) : Value := .agg #[V.d, V.c, V.m, V.r, V.q, V.s]
/-- this value is this object -/
structure OAt (w : World) (V : OV) (x : PO) : Prop where
  d : SlAt w .u32 V.d x.D
  c : SlAt w .u32 V.c x.C
  m : SlAt w .u8 V.m x.M
  r : RlAt w V.r x.R
  q : RlAt w V.q x.Q
  s : SyAt w V.s x.S
theorem OAt.kept0 {w w1 : World} {V : OV} {x : PO} (h : OAt w V x) (hg : w.grownBy w1 none) : OAt w1 V x :=
  ⟨h.d.kept0 hg, h.c.kept0 hg, h.m.kept0 hg, h.r.kept0 hg, h.q.kept0 hg, h.s.kept0 hg⟩
/-- its numbers are as wide as they may be -/
structure OFit (x : PO) : Prop where
  d : ∀ n ∈ x.D, 0 ≤ n ∧ n < 4294967296
  c : ∀ n ∈ x.C, 0 ≤ n ∧ n < 4294967296
  m : ∀ n ∈ x.M, 0 ≤ n ∧ n < 256
  l : x.D.length ≤ maxLen ∧ x.C.length ≤ maxLen ∧ x.M.length ≤ maxLen ∧ x.R.length ≤ maxLen ∧ x.Q.length ≤ maxLen ∧ x.S.length ≤ maxLen
theorem info_object : (Tryd.prog.info? 52).map (·.size) = some 6 := by kernel_rfl
theorem info_object' : (Tryd.prog.info? 142).map (·.size) = some 6 := by kernel_rfl
theorem info_rel : (Tryd.prog.info? 76).map (·.size) = some 4 := by kernel_rfl
theorem info_sym : (Tryd.prog.info? 74).map (·.size) = some 4 := by kernel_rfl
/-- nothing is wrong, or this error -/
def evV (A : Nat → Addr) : Option Nat → Value
  | none => .nilIface
  | some c => errV (A c)
/-- the errors of what is wrong lie in their variables -/
structure ErrC (w : World) (A : Nat → Addr) : Prop where
  c1 : w.cell? ⟨3, 0, none⟩ = some (errV (A 1))
  c2 : w.cell? ⟨5, 0, none⟩ = some (errV (A 2))
  c3 : w.cell? ⟨0, 0, none⟩ = some (errV (A 3))
  c4 : w.cell? ⟨6, 0, none⟩ = some (errV (A 4))
  c5 : w.cell? ⟨2, 0, none⟩ = some (errV (A 5))
  c6 : w.cell? ⟨1, 0, none⟩ = some (errV (A 6))
  c8 : w.cell? ⟨4, 0, none⟩ = some (errV (A 8))
theorem ErrC.kept0 {w w1 : World} {A : Nat → Addr} (h : ErrC w A) (hg : w.grownBy w1 none) : ErrC w1 A := by
  have k : ∀ {g : Nat} {v : Value}, w.cell? ⟨g, 0, none⟩ = some v → w1.cell? ⟨g, 0, none⟩ = some v := fun hc => by
    rw [grown_cell hg (World.block_lt_of_cell? w _ hc) (by simp)]; exact hc
  exact ⟨k h.c1, k h.c2, k h.c3, k h.c4, k h.c5, k h.c6, k h.c8⟩
end Go.Proofs.YteanjchbnaoopaaDoor
namespace Go.Proofs.YteanjchbnaoopaaDoor
open Go.RowKit
theorem wantImm_zero (op : Int) : wantImm op 0 = 0 := by unfold wantImm; split <;> rfl
/-- behind Of: the operation -/
def OpAt (w : World) (n : Int) (e : Ending) (w' : World) : Prop :=
  ∃ a b c d : Int, ∃ t : Bool, e = .returned (.tuple #[.agg #[.int .i64 n, .int .i64 a, .int .i64 b, .int .i64 c, .int .u32 d], .bool t]) ∧ w.grownBy w' none
theorem of_op (x : Int) (w : World) (h : 0 ≤ x ∧ x < 4294967296) : Calls Tryd.prog 50 #[.int .u32 x, .int .u32 0] w (OpAt w (opW x)) := by
  unfold opW
  by_cases hi : insB (x / 16777216) (x / 65536 % 256) (x / 256 % 256) (x % 256) 0 = true
  · rw [if_pos hi]
    refine (of_yes x 0 w h.1 h.2 (by rw [wantImm_zero]; exact hi)).mono ?_
    rintro e w' ⟨rfl, hb⟩
    exact ⟨_, _, _, _, _, rfl, below_is_grown hb⟩
  · rw [if_neg hi]
    refine (of_no x 0 w h.1 h.2 (by rw [wantImm_zero]; simpa using hi)).mono ?_
    rintro e w' ⟨rfl, hb⟩
    exact ⟨_, _, _, _, _, rfl, below_is_grown hb⟩
section
variable {w : World} {V : OV} {x : PO}
theorem op_neg (h : OAt w V x) (k : Int) (hk : k < 0) : Calls Tryd.prog 81 #[V.agg, .int .i64 k] w fun e w' => e = .returned (.int .i64 0) ∧ w.grownBy w' none := by
  obtain ⟨d, c, m, r, q, s⟩ := V
  have HG := hid (World.grownBy_alloc w (.cells #[d, c, m, r, q, s] 142) none)
  clear h
  go_enter Tryd.func81, Tryd.ntmps81
  go_wp2
  go_ret
  exact ⟨rfl, HG.out⟩
theorem op_none (h : OAt w V x) (k : Nat) {y : Int} (hy : x.M[k]? = some y) (h1 : y ≠ 1) : Calls Tryd.prog 81 #[V.agg, .int .i64 k] w fun e w' => e = .returned (.int .i64 0) ∧ w.grownBy w' none := by
  obtain ⟨d, c, m, r, q, s⟩ := V
  have hk := (List.getElem?_eq_some_iff.1 hy).1
  have HG := hid (World.grownBy_alloc w (.cells #[d, c, m, r, q, s] 142) none)
  have H := hid (h.kept0 HG.out)
  have HB := hid (RwAt.new w 142 #[d, c, m, r, q, s])
  obtain ⟨b, o, cp, hm, _, hc⟩ := H.out.m.at_ (by omega)
  obtain rfl : m = _ := hm
  have ek := hc k y hy
  clear hc h
  have k0 : (0 : Int) ≤ (k : Int) := by omega
  have kn : (k : Int) < (x.M.length : Int) := by omega
  have hz : (y != 1) = true := by simpa using h1
  go_enter Tryd.func81, Tryd.ntmps81
  go_upto_region 1 with (fail)
  generalize w.alloc (.cells #[d, c, .slice (some ⟨b, o, none⟩) x.M.length cp, r, q, s] 142) = w1 at HG H HB ek ⊢
  have e2 := HB.out.cell 2 rfl
  go_wp2
  go_ret
  exact ⟨rfl, HG.out⟩
set_option maxHeartbeats 1000000 in
theorem op_yes (h : OAt w V x) (hf : OFit x) (hl : x.M.length = x.C.length) (k : Nat) (hy : x.M[k]? = some 1) : Calls Tryd.prog 81 #[V.agg, .int .i64 k] w fun e w' => e = .returned (.int .i64 (opW (x.C.getD k 0))) ∧ w.grownBy w' none := by
  obtain ⟨d, c, m, r, q, s⟩ := V
  have hk := (List.getElem?_eq_some_iff.1 hy).1
  have HG := hid (World.grownBy_alloc w (.cells #[d, c, m, r, q, s] 142) none)
  have H := hid (h.kept0 HG.out)
  have HB := hid (RwAt.new w 142 #[d, c, m, r, q, s])
  obtain ⟨z, hz⟩ : ∃ z, x.C[k]? = some z := ⟨_, List.getElem?_eq_getElem (by omega)⟩
  have hzd : x.C.getD k 0 = z := by rw [List.getD_eq_getElem?_getD, hz]; rfl
  rw [hzd]
  have HF := hid (hf.c z (List.mem_of_getElem? hz))
  obtain ⟨b, o, cp, hm, _, hc⟩ := H.out.m.at_ (by omega)
  obtain rfl : m = _ := hm
  have ek := hc k 1 hy
  obtain ⟨b2, o2, cp2, hm2, _, hc2⟩ := H.out.c.at_ (by omega)
  obtain rfl : c = _ := hm2
  have ez := hc2 k z hz
  clear hc hc2 h hf hzd
  have k0 : (0 : Int) ≤ (k : Int) := by omega
  have kn : (k : Int) < (x.M.length : Int) := by omega
  have kn2 : (k : Int) < (x.C.length : Int) := by omega
  clear hl
  go_enter Tryd.func81, Tryd.ntmps81
  go_upto_region 1 with (fail)
  generalize w.alloc (.cells #[d, .slice (some ⟨b2, o2, none⟩) x.C.length cp2, .slice (some ⟨b, o, none⟩) x.M.length cp, r, q, s] 142) = w1 at HG H HB ek ez ⊢
  have e2 := HB.out.cell 2 rfl
  have e1 := HB.out.cell 1 rfl
  go_wp2_with fail
  refine (of_op z w1 HF.out).mono ?_
  rintro e w2 ⟨a', b', c', d', t', rfl, hg⟩
  have HG2 := hid (grown_trans HG.out hg)
  clear hg
  obtain ⟨n, Hn⟩ : ∃ n, Hid (opW z = n) := ⟨_, hid rfl⟩
  rw [Hn.out]
  have HB2 := hid (RwAt.new w2 36 (inC n a' b' c' d'))
  go_wp2
  go_ret
  refine ⟨ret_i Hn.out.symm, ?_⟩
  first | exact grown_alloc HG2.out _ | exact grown_setRow (grown_alloc HG2.out _) HG2.out.size _ | trace_state
end
theorem branches_any (op : Int) (w : World) : Calls Tryd.prog 88 #[.int .i64 op] w fun e w' => e = .returned (.bool (brB op)) ∧ w = w' := by
  go_enter Tryd.func88, Tryd.ntmps88
  go_wp2
  all_goals
    go_ret
    refine ⟨ret_b ?_, rfl⟩
    unfold brB
    first | (simp only [true_eq_decide_iff]; omega) | (rw [Bool.eq_iff_iff]; simp only [beq_iff_eq, decide_eq_true_eq]; omega)
theorem far_any (op : Int) (w : World) : Calls Tryd.prog 90 #[.int .i64 op] w fun e w' => e = .returned (.bool (farB op)) ∧ w = w' := by
  go_enter Tryd.func90, Tryd.ntmps90
  go_wp2
  all_goals
    go_ret
    refine ⟨ret_b ?_, rfl⟩
    unfold farB
    first | (simp only [true_eq_decide_iff]; omega) | (rw [Bool.eq_iff_iff]; simp only [beq_iff_eq, decide_eq_true_eq]; omega)
end Go.Proofs.YteanjchbnaoopaaDoor
