/- What package mem's call Differ does: a contract. (Made by genDiffer.py.) -/
import Derived.Test.YtmhkghkfpkekbaaMem6
namespace Go.Proofs.Ytmhkghkfpkekbaa
open Go.RowKit
/-- the frames in which two memories differ -/
def diffB (n n' : Nat) (xs ys : List Int) (f : Nat) : Bool := !(decide (f < n)) || (!(decide (f < n')) || !(decide (frameOf xs f = frameOf ys f)))
def diffs (n n' : Nat) (xs ys : List Int) (k : Nat) : List Int := ((List.range k).filter (diffB n n' xs ys)).map Int.ofNat
theorem diffs_yes {n n' : Nat} {xs ys : List Int} {k : Nat} (h : diffB n n' xs ys k = true) : diffs n n' xs ys (k + 1) = diffs n n' xs ys k ++ [(k : Int)] := by
  unfold diffs
  rw [List.range_succ, List.filter_append, List.map_append]
  simp [h]
theorem diffs_no {n n' : Nat} {xs ys : List Int} {k : Nat} (h : diffB n n' xs ys k = false) : diffs n n' xs ys (k + 1) = diffs n n' xs ys k := by
  unfold diffs
  rw [List.range_succ, List.filter_append, List.map_append]
  simp [h]
theorem diffs_length (n n' : Nat) (xs ys : List Int) (k : Nat) : (diffs n n' xs ys k).length ≤ k := by
  unfold diffs
  rw [List.length_map]
  exact Nat.le_trans (List.length_filter_le _ _) (by simp)
def DiffAt (w : World) (ls : List Int) (e : Ending) (w' : World) : Prop := ∃ v, e = .returned v ∧ SlAt w' .i64 v ls ∧ w.grownBy w' none
/-- what a round's head knows -/
structure DRel (w : World) (n n' : Nat) (xs ys : List Int) (v : Value) (k : Nat) (wr : World) : Prop where
  own : wr.ownsRow w.heap.size 3 1 v (diffs n n' xs ys k).length ((diffs n n' xs ys k).map (Value.int .i64))
  grown : w.grownBy wr none
theorem own_append {w : World} {base : Nat} {v : Value} {l : List Int} {k : Int} (h : w.ownsRow base 3 1 v (l.length + 1) (l.map (Value.int .i64) ++ [Value.int .i64 k])) : w.ownsRow base 3 1 v (l ++ [k]).length ((l ++ [k]).map (Value.int .i64)) := by
  simpa using h
theorem own_kept0 {w w1 : World} {base : Nat} {e : TypeId} {size : Nat} {v : Value} {n : Nat} {xs : List Value} (h : w.ownsRow base e size v n xs) (hg : w.grownBy w1 none) : w1.ownsRow base e size v n xs :=
  h.kept hg (by cases v.ownBlock <;> simp)
theorem one_new (W : World) (v : Value) (t : TypeId) : ∀ j u, [v][j]? = some u → (W.alloc (.cells #[v] t)).cell? ((⟨W.heap.size, 0, none⟩ : Addr).add j) = some u := by
  intro j u hj
  match j, hj with
  | 0, hj => simp at hj; subst hj; simp [Addr.add]



end Go.Proofs.Ytmhkghkfpkekbaa
