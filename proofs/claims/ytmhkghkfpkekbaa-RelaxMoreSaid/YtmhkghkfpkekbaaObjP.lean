/- Objects (package obj) as plain data: which may be, their bytes, what bytes are; no program is named here. -/
import Derived.Test.YtmhkghkfpkekbaaIsaP
namespace Go.Proofs.Ytmhkghkfpkekbaa
/-- a relocation: where, its kind, its symbol, so many words more -/
structure Rl where
  a : Int
  k : Int
  s : Int
  d : Int
deriving DecidableEq
structure Sy where
  n : ByteArray
  i : Int
  v : Int
  g : Bool
deriving DecidableEq
structure PO where
  D : List Int
  C : List Int
  M : List Int
  R : List Rl
  Q : List Rl
  S : List Sy
deriving DecidableEq
def rl0 : Rl := ⟨0, 0, 0, 0⟩
def sy0 : Sy := ⟨⟨#[]⟩, 0, 0, false⟩
/-! ### which may be -/
def opW (w : Int) : Int := if insB (w / 16777216) (w / 65536 % 256) (w / 256 % 256) (w % 256) 0 = true then w / 16777216 else 0
def mapN (x : PO) (k : Nat) : Int := x.M.getD k 0
def opN (x : PO) (k : Nat) : Int := if mapN x k = 1 then opW (x.C.getD k 0) else 0
/-- the operation ahead of word k -/
def opB (x : PO) (k : Nat) : Int := if k = 0 then 0 else opN x (k - 1)
def brB (op : Int) : Bool := decide (op = 16 ∨ op = 17 ∨ op = 18)
def farB (op : Int) : Bool := decide (op = 19 ∨ op = 20 ∨ op = 21 ∨ op = 22)
def manyB (x : PO) : Bool := decide (2048 < x.D.length ∨ 2048 < x.C.length ∨ 1024 < x.R.length ∨ 1024 < x.Q.length ∨ 256 < x.S.length)
def firstF (x : PO) (k : Nat) : Option Nat :=
  if opN x k = 0 ∨ clsI (opN x k) = 4 then some 4
  else if twoB (opN x k) = true ∧ (k + 1 = x.C.length ∨ mapN x (k + 1) ≠ 0) then some 8 else none
def wordF (x : PO) (k : Nat) : Option Nat :=
  if mapN x k = 1 then firstF x k
  else if mapN x k = 0 then (if twoB (opB x k) = true then none else some 8)
  else if mapN x k = 2 then none else some 8
def symN (x : PO) (k : Nat) : Sy := x.S.getD k sy0
def standsB (x : PO) (s : Sy) : Bool :=
  if s.i = 1 then decide (0 ≤ s.v ∧ (s.v < x.D.length ∨ s.v < 1))
  else if s.i = 2 then decide (0 ≤ s.v ∧ s.v < x.C.length ∧ mapN x s.v.toNat = 1)
  else if s.i = 3 then decide (s.v = 0 ∧ s.g = true) else false
def twiceB (x : PO) (k : Nat) : Bool := (x.S.take k).any fun s => decide (s.n = (symN x k).n)
def symF (x : PO) (k : Nat) : Option Nat :=
  if (symN x k).n.size = 0 ∨ 32 < (symN x k).n.size then some 2
  else if twiceB x k = true then some 5 else if standsB x (symN x k) = true then none else some 2
def rlN (l : List Rl) (k : Nat) : Rl := l.getD k rl0
def inB (x : PO) (l : List Rl) (k : Nat) (n : Int) : Bool :=
  decide ((k = 0 ∨ (rlN l (k - 1)).a < (rlN l k).a) ∧ 0 ≤ (rlN l k).a ∧ (rlN l k).a < n ∧ 0 ≤ (rlN l k).s ∧ (rlN l k).s < x.S.length ∧ -65536 ≤ (rlN l k).d ∧ (rlN l k).d ≤ 65536)
def toB (x : PO) (r : Rl) : Bool := decide ((symN x r.s.toNat).i = 1)
def outB (x : PO) (r : Rl) : Bool := decide (r.d ≠ 0) && !toB x r
def dataF (x : PO) (k : Nat) : Option Nat :=
  if inB x x.R k x.D.length = false ∨ (rlN x.R k).k ≠ 1 then some 2
  else if outB x (rlN x.R k) = true then some 1 else none
def repB (x : PO) (r : Rl) : Bool :=
  if r.k = 2 then brB (opN x r.a.toNat) && !toB x r
  else if mapN x r.a.toNat = 2 then true
  else decide (opB x r.a.toNat = 14) || decide (opB x r.a.toNat = 15) || (farB (opB x r.a.toNat) && !toB x r)
def codeF (x : PO) (k : Nat) : Option Nat :=
  if inB x x.Q k x.C.length = false ∨ ((rlN x.Q k).k ≠ 1 ∧ (rlN x.Q k).k ≠ 2) then some 2
  else if repB x (rlN x.Q k) = false ∨ outB x (rlN x.Q k) = true then some 1 else none
def hasRB (x : PO) (k : Int) : Bool := x.Q.any fun r => decide (r.a = k)
def unrF (x : PO) (k : Nat) : Option Nat :=
  if (brB (opN x k) = true ∧ hasRB x k = false) ∨ ((opN x k = 15 ∨ farB (opN x k) = true) ∧ hasRB x (k + 1 : Nat) = false) then some 6 else none
/-- the first of n that is wrong -/
def scanP (f : Nat → Option Nat) : Nat → Option (Nat × Nat)
  | 0 => none
  | n + 1 => match scanP f n with
    | some y => some y
    | none => (f n).map fun c => (c, n)
abbrev Fl := Option (Nat × Option Nat)
def scanF (f : Nat → Option Nat) (n : Nat) (rest : Fl) : Fl :=
  match scanP f n with
  | some (c, k) => some (c, some k)
  | none => rest
def validP (x : PO) : Fl :=
  if manyB x = true then some (3, none) else if x.M.length ≠ x.C.length then some (8, none)
  else scanF (wordF x) x.C.length (scanF (symF x) x.S.length (scanF (dataF x) x.R.length (scanF (codeF x) x.Q.length (scanF (unrF x) x.C.length none))))
theorem scanP_none {f : Nat → Option Nat} : ∀ {n : Nat}, (∀ k, k < n → f k = none) → scanP f n = none
  | 0, _ => rfl
  | n + 1, h => by
    rw [scanP, scanP_none (fun k hk => h k (by omega)), h n (by omega)]
    rfl
theorem scanP_some {f : Nat → Option Nat} {c k : Nat} (hc : f k = some c) (h : ∀ j, j < k → f j = none) : ∀ {n : Nat}, k < n → scanP f n = some (c, k)
  | 0, hk => absurd hk (by omega)
  | n + 1, hk => by
    rw [scanP]
    by_cases e : k = n
    · subst e
      rw [scanP_none h, hc]
      rfl
    · rw [scanP_some hc h (by omega)]
theorem scanP_all {f : Nat → Option Nat} : ∀ {n : Nat}, scanP f n = none → ∀ k, k < n → f k = none
  | 0, _, k, hk => absurd hk (by omega)
  | n + 1, h, k, hk => by
    rw [scanP] at h
    cases hs : scanP f n with
    | some y => simp [hs] at h
    | none =>
      simp only [hs, Option.map_eq_none_iff] at h
      by_cases e : k = n
      · rw [e]; exact h
      · exact scanP_all hs k (by omega)
theorem scanF_none {f : Nat → Option Nat} {n : Nat} {r : Fl} (h : ∀ k, k < n → f k = none) : scanF f n r = r := by unfold scanF; rw [scanP_none h]
theorem scanF_some {f : Nat → Option Nat} {n c k : Nat} {r : Fl} (hc : f k = some c) (h : ∀ j, j < k → f j = none) (hk : k < n) : scanF f n r = some (c, some k) := by unfold scanF; rw [scanP_some hc h hk]
theorem scanF_ok {f : Nat → Option Nat} {n : Nat} {r : Fl} (h : scanF f n r = none) : (∀ k, k < n → f k = none) ∧ r = none := by
  unfold scanF at h
  cases hs : scanP f n with
  | some y => simp [hs] at h
  | none => rw [hs] at h; exact ⟨scanP_all hs, h⟩
/-- what is known of one that may be -/
structure OkP (x : PO) : Prop where
  many : manyB x = false
  len : x.M.length = x.C.length
  word : ∀ k, k < x.C.length → wordF x k = none
  sym : ∀ k, k < x.S.length → symF x k = none
  dat : ∀ k, k < x.R.length → dataF x k = none
  cod : ∀ k, k < x.Q.length → codeF x k = none
  unr : ∀ k, k < x.C.length → unrF x k = none
theorem valid_ok {x : PO} (h : validP x = none) : OkP x := by
  unfold validP at h
  by_cases h0 : manyB x = true
  · rw [if_pos h0] at h; cases h
  · rw [if_neg h0] at h
    by_cases h1 : x.M.length ≠ x.C.length
    · rw [if_pos h1] at h; cases h
    · rw [if_neg h1] at h
      obtain ⟨a, h⟩ := scanF_ok h
      obtain ⟨b, h⟩ := scanF_ok h
      obtain ⟨c, h⟩ := scanF_ok h
      obtain ⟨d, h⟩ := scanF_ok h
      obtain ⟨e, _⟩ := scanF_ok h
      exact ⟨by simpa using h0, by simpa using h1, a, b, c, d, e⟩
/-- the codes of what may be wrong -/
theorem code_of {x : PO} {c : Nat} {p : Option Nat} (h : validP x = some (c, p)) : c = 1 ∨ c = 2 ∨ c = 3 ∨ c = 4 ∨ c = 5 ∨ c = 6 ∨ c = 8 := by
  have step : ∀ {f : Nat → Option Nat} {n : Nat} {r : Fl}, scanF f n r = some (c, p) → (∃ k, f k = some c) ∨ r = some (c, p) := by
    intro f n r h
    unfold scanF at h
    cases hs : scanP f n with
    | none => rw [hs] at h; exact .inr h
    | some y =>
      obtain ⟨a, b⟩ := y
      rw [hs] at h
      obtain ⟨rfl, _⟩ : a = c ∧ some b = p := by simpa using h
      left
      clear h
      induction n with
      | zero => simp [scanP] at hs
      | succ n ih =>
        rw [scanP] at hs
        cases ht : scanP f n with
        | some y => rw [ht] at hs; simp only [Option.some.injEq] at hs; subst hs; exact ih ht
        | none =>
          rw [ht] at hs
          simp only [Option.map_eq_some_iff, Prod.mk.injEq] at hs
          obtain ⟨z, hz, rfl, _⟩ := hs
          exact ⟨_, hz⟩
  unfold validP at h
  split at h
  · simp at h; omega
  split at h
  · simp at h; omega
  rcases step h with ⟨k, hk⟩ | h
  · unfold wordF firstF at hk
    repeat' split at hk
    all_goals first | (cases hk; done) | (simp at hk; omega)
  rcases step h with ⟨k, hk⟩ | h
  · unfold symF at hk
    repeat' split at hk
    all_goals first | (cases hk; done) | (simp at hk; omega)
  rcases step h with ⟨k, hk⟩ | h
  · unfold dataF at hk
    repeat' split at hk
    all_goals first | (cases hk; done) | (simp at hk; omega)
  rcases step h with ⟨k, hk⟩ | h
  · unfold codeF at hk
    repeat' split at hk
    all_goals first | (cases hk; done) | (simp at hk; omega)
  rcases step h with ⟨k, hk⟩ | h
  · unfold unrF at hk
    repeat' split at hk
    all_goals first | (cases hk; done) | (simp at hk; omega)
  cases h
end Go.Proofs.Ytmhkghkfpkekbaa
