/- A memory (package mem): what is known of it in a world; how that is carried on. -/
import Derived.Test.YthjbbkhnfemikaaDoorBase
import Derived.Laws.MakeOwn
import Derived.Deep.MidRow
import Derived.Deep.Draws
namespace Go.Proofs.YthjbbkhnfemikaaDoor
open Go.RowKit
/-! ### what a step leaves alone -/
section
variable {w w1 w2 : World}
theorem grown_refl (w : World) (r : Option Nat) : w.grownBy w r := ⟨rfl, rfl, rfl, Nat.le_refl _, fun _ _ _ => rfl⟩
theorem grown_trans {r : Option Nat} (h : w.grownBy w1 r) (k : w1.grownBy w2 r) : w.grownBy w2 r :=
  ⟨k.os.trans h.os, k.tape.trans h.tape, k.output.trans h.output, Nat.le_trans h.size k.size, fun i hi hr => (k.block i (Nat.lt_of_lt_of_le hi h.size) hr).trans (h.block i hi hr)⟩
theorem grown_none {r : Option Nat} (h : w.grownBy w1 none) : w.grownBy w1 r := ⟨h.os, h.tape, h.output, h.size, fun i hi _ => h.block i hi (by simp)⟩
theorem grown_drew {r : Option Nat} (h : w.grownBy w1 r) : w.grownBy w1.drew r := ⟨h.os, h.tape, h.output, h.size, h.block⟩
theorem grown_drewN {r : Option Nat} (h : w.grownBy w1 r) (n : Nat) : w.grownBy (w1.drewN n) r := ⟨h.os, h.tape, h.output, h.size, h.block⟩
theorem grown_alloc {r : Option Nat} (h : w.grownBy w1 r) (o : Obj) : w.grownBy (w1.alloc o) r := grown_trans h (World.grownBy_alloc _ _ _)
theorem grown_setCell {b : Nat} (h : w.grownBy w1 (some b)) (k : Nat) (v : Value) : w.grownBy (w1.setCell ⟨b, k, none⟩ v) (some b) :=
  grown_trans h ⟨rfl, rfl, rfl, by simp, fun i _ hi => heap_setCell_other _ _ _ _ (by simpa using hi)⟩
/-- what was written is new -/
theorem grown_new {b : Nat} (h : w.grownBy w1 (some b)) (hb : w.heap.size ≤ b) : w.grownBy w1 none :=
  ⟨h.os, h.tape, h.output, h.size, fun i hi _ => h.block i hi (by simp; omega)⟩
theorem grown_new' {r : Option Nat} (h : w.grownBy w1 r) (hb : ∀ k, r = some k → w.heap.size ≤ k) : w.grownBy w1 none :=
  ⟨h.os, h.tape, h.output, h.size, fun i hi _ => h.block i hi (fun e => by have := hb i e.symm; omega)⟩
theorem below_grown {B : Nat} {a : World} {r : Option Nat} (h : Below B a w) (hg : w.grownBy w1 r) (hB : B ≤ w.heap.size) (hr : ∀ k, r = some k → B ≤ k) : Below B a w1 := h.grown hg hB hr
theorem grown_below (h : w.grownBy w1 none) : Below w.heap.size w w1 := (Below.refl _ _).grown h (Nat.le_refl _) (by simp)
theorem below_is_grown (h : Below w.heap.size w w1) : w.grownBy w1 none := ⟨h.os, h.tape, h.output, h.size, fun i hi _ => h.block i hi⟩
theorem grown_cell {r : Option Nat} {p : Addr} (h : w.grownBy w1 r) (hp : p.block < w.heap.size) (hr : some p.block ≠ r) : w1.cell? p = w.cell? p := World.cell?_of_block (h.block _ hp hr)
end

/-! ### numbers in a slice -/
/-- the slice value v reads as these numbers -/
def SlAt (w : World) (k : IntKind) (v : Value) (xs : List Int) : Prop :=
  ((∃ p c, v = .slice p 0 c) ∧ xs = []) ∨
  ∃ b o c, v = .slice (some ⟨b, o, none⟩) xs.length c ∧ b < w.heap.size ∧ ∀ j x, xs[j]? = some x → w.cell? ⟨b, o + j, none⟩ = some (.int k x)
theorem SlAt.kept {w w1 : World} {k : IntKind} {v : Value} {xs : List Int} {r : Option Nat} (h : SlAt w k v xs) (hg : w.grownBy w1 r) (hr : v.ownBlock = none ∨ v.ownBlock ≠ r) : SlAt w1 k v xs := by
  rcases h with h | ⟨b, o, c, rfl, hb, hc⟩
  · exact .inl h
  · refine .inr ⟨b, o, c, rfl, Nat.lt_of_lt_of_le hb hg.size, fun j x hx => ?_⟩
    rw [grown_cell hg hb (by simpa [Value.ownBlock] using hr)]
    exact hc j x hx
theorem SlAt.kept0 {w w1 : World} {k : IntKind} {v : Value} {xs : List Int} (h : SlAt w k v xs) (hg : w.grownBy w1 none) : SlAt w1 k v xs :=
  h.kept hg (by cases v.ownBlock <;> simp)
/-- a block of numbers, known whole -/
theorem SlAt.whole {w : World} {k : IntKind} {b c : Nat} {t : TypeId} {xs : List Int} {fr : Nat × Nat} (h : w.heap[b]? = some (.cells (xs.map (Value.int k)).toArray t fr)) : SlAt w k (.slice (some ⟨b, 0, none⟩) xs.length c) xs := by
  refine .inr ⟨b, 0, c, rfl, (Array.getElem?_eq_some_iff.1 h).1, fun j x hx => ?_⟩
  rw [cell_of_row w b _ _ t fr h]
  simp [hx]
theorem SlAt.own {w : World} {k : IntKind} {base : Nat} {t : TypeId} {v : Value} {n : Nat} {xs : List Int} (h : w.ownsRow base t 1 v n (xs.map (Value.int k))) : SlAt w k v xs := by
  obtain ⟨hl, h⟩ := h
  have hl : xs.length = n := by simpa using hl
  rcases h with ⟨rfl, h0⟩ | ⟨g, cap, cur, rfl, _, hg, _, _, _, ht⟩
  · exact .inl ⟨⟨_, _, rfl⟩, List.eq_nil_of_length_eq_zero (by omega)⟩
  · refine .inr ⟨g, 0, cap, by rw [hl], (Array.getElem?_eq_some_iff.1 hg).1, fun j x hx => ?_⟩
    rw [cell_of_row w g _ _ t _ hg, Nat.zero_add]
    have hj : j < xs.length := (List.getElem?_eq_some_iff.1 hx).1
    have := congrArg (·[j]?) ht
    simp only [Nat.mul_one, List.getElem?_take, List.getElem?_map, hx] at this
    rw [if_pos (by omega)] at this
    simpa using this

/-! ### a memory -/
/-- at block m the memory: n frames in block b, of capacity c; its words -/
structure MemAt (w : World) (m b n c : Nat) (xs : List Int) : Prop where
  hm : w.heap[m]? = some (.cells #[.slice (some ⟨b, 0, none⟩) n c] 61 (0, 0))
  hb : ∃ cur : Array Value, w.heap[b]? = some (.cells cur 66 (0, 0)) ∧ cur.size = c * 16 ∧ ∀ (k : Nat) (x : Int), xs[k]? = some x → cur[k]? = some (.int .u32 x)
  len : xs.length = n * 16
  nc : n ≤ c
  cm : c ≤ maxLen
  n1 : 1 ≤ n
  n2 : n ≤ 1024
  ne : m ≠ b
section
variable {w w1 : World} {m b n c : Nat} {xs : List Int}
theorem MemAt.mlt (h : MemAt w m b n c xs) : m < w.heap.size := (Array.getElem?_eq_some_iff.1 h.hm).1
theorem MemAt.blt (h : MemAt w m b n c xs) : b < w.heap.size := by
  obtain ⟨cur, hb, _⟩ := h.hb
  exact (Array.getElem?_eq_some_iff.1 hb).1
theorem MemAt.mcell (h : MemAt w m b n c xs) : w.cell? ⟨m, 0, none⟩ = some (.slice (some ⟨b, 0, none⟩) n c) := by
  rw [cell_of_row w m 0 _ _ _ h.hm]; rfl
theorem MemAt.cell (h : MemAt w m b n c xs) {k : Nat} {x : Int} (hx : xs[k]? = some x) : w.cell? ⟨b, k, none⟩ = some (.int .u32 x) := by
  obtain ⟨cur, hb, _, ht⟩ := h.hb
  rw [cell_of_row w b _ _ _ _ hb]
  exact ht k x hx
theorem MemAt.free (h : MemAt w m b n c xs) (k : Nat) : w.frozen? ⟨b, k, none⟩ = false := by
  obtain ⟨cur, hb, _⟩ := h.hb
  exact frozen_of_row w b k cur _ hb
theorem MemAt.kept {r : Option Nat} (h : MemAt w m b n c xs) (hg : w.grownBy w1 r) (hm : some m ≠ r) (hb : some b ≠ r) : MemAt w1 m b n c xs := by
  obtain ⟨cur, hb', hs, ht⟩ := h.hb
  exact { h with hm := (hg.block _ h.mlt hm).trans h.hm, hb := ⟨cur, (hg.block _ h.blt hb).trans hb', hs, ht⟩ }
theorem MemAt.kept0 (h : MemAt w m b n c xs) (hg : w.grownBy w1 none) : MemAt w1 m b n c xs := h.kept hg (by simp) (by simp)
theorem MemAt.set (h : MemAt w m b n c xs) {k : Nat} (hk : k < n * 16) (x : Int) : MemAt (w.setCell ⟨b, k, none⟩ (.int .u32 x)) m b n c (xs.set k x) := by
  obtain ⟨cur, hb', hs, ht⟩ := h.hb
  have hn := h.nc
  have hl := h.len
  refine { h with hm := ?_, hb := ⟨cur.setIfInBounds k (.int .u32 x), heap_setCell_same w b k cur _ _ hb', by simpa using hs, fun j y hy => ?_⟩, len := by simpa using h.len }
  · rw [heap_setCell_other _ _ _ _ h.ne]; exact h.hm
  · rw [Array.getElem?_setIfInBounds]
    rw [List.getElem?_set] at hy
    split
    · rename_i e
      subst e
      rw [if_pos rfl, if_pos (by omega)] at hy
      rw [if_pos (by omega)]
      rw [← Option.some.inj hy]
    · rename_i e
      rw [if_neg e] at hy
      exact ht j y hy
/-- frame f of these words -/
def frameOf (xs : List Int) (f : Nat) : List Int := (xs.drop (f * 16)).take 16
theorem frameOf_length (hl : xs.length = n * 16) {f : Nat} (hf : f < n) : (frameOf xs f).length = 16 := by
  unfold frameOf; simp only [List.length_take, List.length_drop]; omega
theorem MemAt.range (h : MemAt w m b n c xs) (f : Nat) : w.rangeAt b (f * 16) ((frameOf xs f).map (Value.int .u32)) := fun j v hv => by
  unfold frameOf at hv
  simp only [List.getElem?_map, List.getElem?_take, List.getElem?_drop, Option.map_eq_some_iff] at hv
  obtain ⟨x, hx, rfl⟩ := hv
  split at hx
  · exact h.cell hx
  · cases hx
theorem MemAt.there (h : MemAt w m b n c xs) {f : Nat} (hf : f < n) : w.there b (f * 16) 16 := fun j hj => by
  refine ⟨?_, h.free _⟩
  have hl := h.len
  have : f * 16 + j < xs.length := by omega
  rw [h.cell (List.getElem?_eq_getElem this)]; rfl
/-- these words with those from o on made these -/
def setMany (xs : List Int) (o : Nat) : List Int → List Int
  | [] => xs
  | x :: r => setMany (xs.set o x) (o + 1) r
theorem setMany_length : ∀ (l : List Int) (xs : List Int) (o : Nat), (setMany xs o l).length = xs.length
  | [], _, _ => rfl
  | x :: r, xs, o => by rw [setMany, setMany_length r]; simp
theorem setMany_get : ∀ (l : List Int) (xs : List Int) (o k : Nat), o + l.length ≤ xs.length → (setMany xs o l)[k]? = if o ≤ k ∧ k < o + l.length then l[k - o]? else xs[k]?
  | [], xs, o, k, _ => by simp [setMany]; intro h1 h2; omega
  | x :: r, xs, o, k, h => by
    simp only [List.length_cons] at h
    rw [setMany, setMany_get r _ _ _ (by simp; omega)]
    simp only [List.length_cons]
    by_cases e : k = o
    · subst e
      rw [if_neg (by omega), if_pos (by omega), List.getElem?_set_self (by omega)]
      simp
    · by_cases h1 : o ≤ k ∧ k < o + (r.length + 1)
      · rw [if_pos (by omega), if_pos h1]
        obtain ⟨d, rfl⟩ : ∃ d, k = o + 1 + d := ⟨k - (o + 1), by omega⟩
        rw [show o + 1 + d - o = d + 1 by omega, show o + 1 + d - (o + 1) = d by omega]
        rfl
      · rw [if_neg (by omega), if_neg h1, List.getElem?_set_ne (by omega)]
theorem MemAt.fill : ∀ (l : List Int) (o : Nat) (w : World) (xs : List Int), MemAt w m b n c xs → o + l.length ≤ n * 16 → MemAt (w.setCells b o (l.map (Value.int .u32))) m b n c (setMany xs o l)
  | [], _, _, _, h, _ => h
  | x :: r, o, w, xs, h, hl => by
    simp only [List.length_cons] at hl
    exact MemAt.fill r (o + 1) _ _ (h.set (by omega) x) (by omega)
theorem grown_setCells {b : Nat} : ∀ (vs : List Value) (o : Nat) {w w1 : World}, w.grownBy w1 (some b) → w.grownBy (w1.setCells b o vs) (some b)
  | [], _, _, _, h => h
  | v :: r, o, _, _, h => grown_setCells r (o + 1) (grown_setCell h o v)
end
end Go.Proofs.YthjbbkhnfemikaaDoor
