/- A memory (package mem): what is known of it in a world; how that is carried on. -/
import Derived.Test.YtpkgckjlhjcdmaaBase
import Derived.Laws.MakeOwn
import Derived.Deep.MidRow
import Derived.Deep.Draws
namespace Go.Proofs.Ytpkgckjlhjcdmaa
open Go.RowKit
/-! ### numbers in a slice -/
/-- the slice value v reads as these numbers -/
def SlAt (w : World) (k : IntKind) (v : Value) (xs : List Int) : Prop :=
  ((∃ p c, v = .slice p 0 c) ∧ xs = []) ∨
  ∃ b o c, v = .slice (some ⟨b, o, none⟩) xs.length c ∧ b < w.heap.size ∧ ∀ j x, xs[j]? = some x → w.cell? ⟨b, o + j, none⟩ = some (.int k x)
theorem SlAt.kept {w w1 : World} {k : IntKind} {v : Value} {xs : List Int} {r : Option Nat} (h : SlAt w k v xs) (hg : w.grownBy w1 r) (hr : v.ownBlock = none ∨ v.ownBlock ≠ r) : SlAt w1 k v xs := by
  rcases h with h | ⟨b, o, c, rfl, hb, hc⟩
  · exact .inl h
  · refine .inr ⟨b, o, c, rfl, Nat.lt_of_lt_of_le hb hg.size, fun j x hx => ?_⟩
    rw [grown_cell hg hb (by simpa [Value.ownBlock] using hr)]
    exact hc j x hx
theorem SlAt.kept0 {w w1 : World} {k : IntKind} {v : Value} {xs : List Int} (h : SlAt w k v xs) (hg : w.grownBy w1 none) : SlAt w1 k v xs :=
  h.kept hg (by cases v.ownBlock <;> simp)
/-- a block of numbers, known whole -/
theorem SlAt.whole {w : World} {k : IntKind} {b c : Nat} {t : TypeId} {xs : List Int} {fr : Nat × Nat} (h : w.heap[b]? = some (.cells (xs.map (Value.int k)).toArray t fr)) : SlAt w k (.slice (some ⟨b, 0, none⟩) xs.length c) xs := by
  refine .inr ⟨b, 0, c, rfl, (Array.getElem?_eq_some_iff.1 h).1, fun j x hx => ?_⟩
  rw [cell_of_row w b _ _ t fr h]
  simp [hx]
theorem SlAt.own {w : World} {k : IntKind} {base : Nat} {t : TypeId} {v : Value} {n : Nat} {xs : List Int} (h : w.ownsRow base t 1 v n (xs.map (Value.int k))) : SlAt w k v xs := by
  obtain ⟨hl, h⟩ := h
  have hl : xs.length = n := by simpa using hl
  rcases h with ⟨rfl, h0⟩ | ⟨g, cap, cur, rfl, _, hg, _, _, _, ht⟩
  · exact .inl ⟨⟨_, _, rfl⟩, List.eq_nil_of_length_eq_zero (by omega)⟩
  · refine .inr ⟨g, 0, cap, by rw [hl], (Array.getElem?_eq_some_iff.1 hg).1, fun j x hx => ?_⟩
    rw [cell_of_row w g _ _ t _ hg, Nat.zero_add]
    have hj : j < xs.length := (List.getElem?_eq_some_iff.1 hx).1
    have := congrArg (·[j]?) ht
    simp only [Nat.mul_one, List.getElem?_take, List.getElem?_map, hx] at this
    rw [if_pos (by omega)] at this
    simpa using this

/-! ### a memory -/
section
variable {w w1 : World} {m b n c : Nat} {xs : List Int}
/-- frame f of these words -/
def frameOf (xs : List Int) (f : Nat) : List Int := (xs.drop (f * 16)).take 16
theorem frameOf_length (hl : xs.length = n * 16) {f : Nat} (hf : f < n) : (frameOf xs f).length = 16 := by
  unfold frameOf; simp only [List.length_take, List.length_drop]; omega
/-- these words with those from o on made these -/
def setMany (xs : List Int) (o : Nat) : List Int → List Int
  | [] => xs
  | x :: r => setMany (xs.set o x) (o + 1) r
theorem setMany_length : ∀ (l : List Int) (xs : List Int) (o : Nat), (setMany xs o l).length = xs.length
  | [], _, _ => rfl
  | x :: r, xs, o => by rw [setMany, setMany_length r]; simp
theorem setMany_get : ∀ (l : List Int) (xs : List Int) (o k : Nat), o + l.length ≤ xs.length → (setMany xs o l)[k]? = if o ≤ k ∧ k < o + l.length then l[k - o]? else xs[k]?
  | [], xs, o, k, _ => by simp [setMany]; intro h1 h2; omega
  | x :: r, xs, o, k, h => by
    simp only [List.length_cons] at h
    rw [setMany, setMany_get r _ _ _ (by simp; omega)]
    simp only [List.length_cons]
    by_cases e : k = o
    · subst e
      rw [if_neg (by omega), if_pos (by omega), List.getElem?_set_self (by omega)]
      simp
    · by_cases h1 : o ≤ k ∧ k < o + (r.length + 1)
      · rw [if_pos (by omega), if_pos h1]
        obtain ⟨d, rfl⟩ : ∃ d, k = o + 1 + d := ⟨k - (o + 1), by omega⟩
        rw [show o + 1 + d - o = d + 1 by omega, show o + 1 + d - (o + 1) = d by omega]
        rfl
      · rw [if_neg (by omega), if_neg h1, List.getElem?_set_ne (by omega)]
theorem grown_setCells {b : Nat} : ∀ (vs : List Value) (o : Nat) {w w1 : World}, w.grownBy w1 (some b) → w.grownBy (w1.setCells b o vs) (some b)
  | [], _, _, _, h => h
  | v :: r, o, _, _, h => grown_setCells r (o + 1) (grown_setCell h o v)
end
end Go.Proofs.Ytpkgckjlhjcdmaa
