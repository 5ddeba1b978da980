/- Many plain instructions in a row: the object that they make, its items. On plain data. -/
import Derived.Test.YteanjchbnaoopaaDoorYMakeX
import Derived.Test.YteanjchbnaoopaaDoorYLnk17
namespace Go.Proofs.YteanjchbnaoopaaDoor
/-- a plain line: an instruction of one word, no label, no symbol -/
def opL (o a : Int) : Lx := ⟨o, a, 0, 0, 0, ByteArray.empty, ByteArray.empty, false⟩
def atL (n : ByteArray) : Lx := ⟨0, 0, 0, 0, 0, n, ByteArray.empty, false⟩
theorem lxD_op (x : PO) {o a : Int} (h : twoB o = false) : lxD x (opL o a) = ⟨x.D, x.C ++ [wordV o a 0 0 0], x.M ++ [1], x.R, x.Q, x.S⟩ := by
  unfold lxD opL
  simp [h, relX, wrdX]
theorem lxs_ops (x : PO) {o a : Int} (h : twoB o = false) (n : Nat) : (List.replicate n (opL o a)).foldl lxD x = ⟨x.D, x.C ++ List.replicate n (wordV o a 0 0 0), x.M ++ List.replicate n 1, x.R, x.Q, x.S⟩ := by
  induction n generalizing x with
  | zero => simp
  | succ n ih => rw [List.replicate_succ, List.foldl_cons, lxD_op x h, ih]; simp [List.replicate_succ]
/-- words that each are an item: the items -/
theorem itN_ones (n k : Nat) (h : k ≤ n) : itN (List.replicate n 1) k = k := by
  unfold itN
  rw [List.take_replicate, List.filter_replicate]
  simp; omega
theorem itOf_ones (n k : Nat) (h : k < n) : itOf (List.replicate n 1) k = k := by unfold itOf; rw [itN_ones n (k + 1) h]; rfl
theorem itW_ones (n k : Nat) (h : k ≤ n) : itW (List.replicate n 1) k = List.replicate k ⟨1, 0, false⟩ := by
  induction k with
  | zero => rfl
  | succ k ih =>
    unfold itW
    rw [if_neg (by rw [List.getD_eq_getElem?_getD, List.getElem?_replicate, if_pos (by omega)]; decide), ih (by omega), List.replicate_succ']
/-- where items of one word stand -/
theorem plR_ones {L : List RIt} {B : List Bool} {n : Nat} (h : ∀ i, i < n → sR L[i]? = 1) (hb : ∀ i, i < n → B.getD i false = false) : ∀ k, k ≤ n → plR L B k = (k : Int)
  | 0, _ => rfl
  | k + 1, hk => by
    unfold plR szR
    rw [plR_ones h hb k (by omega), h k (by omega), hb k (by omega)]
    simp
/-- the same, one of them long -/
theorem plR_long {L : List RIt} {B : List Bool} {n j : Nat} (h : ∀ i, i < n → sR L[i]? = 1) (hj : B.getD j false = true) (hb : ∀ i, i < n → i ≠ j → B.getD i false = false) : ∀ k, k ≤ n → plR L B k = (k : Int) + (if j < k then 1 else 0)
  | 0, _ => rfl
  | k + 1, hk => by
    unfold plR szR
    rw [plR_long h hj hb k (by omega), h k (by omega)]
    by_cases e : k = j
    · subst e
      rw [hj, if_neg (by omega), if_pos rfl, if_pos (by omega)]
      omega
    · rw [hb k (by omega) e]
      by_cases e2 : j < k
      · rw [if_pos e2, if_neg (by decide), if_pos (by omega)]; omega
      · rw [if_neg e2, if_neg (by decide), if_neg (by omega)]; omega
theorem farR_none {L : List RIt} {B : List Bool} : ∀ n, (∀ k, k < n → tooB L B k = false) → farR L B n = []
  | 0, _ => rfl
  | n + 1, h => by rw [farR_succ_no (h n (by omega)), farR_none n fun k hk => h k (by omega)]
/-- no item goes too far at first: no round -/
theorem rnd_zero {L : List RIt} {K : Nat} (h : RndR L K) (h0 : ∀ k, k < L.length → tooB L (itR L 0) k = false) : K = 0 :=
  rnd_unique h ⟨farR_none _ h0, fun i hi => absurd hi (by omega)⟩
theorem tooB_plain {L : List RIt} {B : List Bool} {k : Nat} (h : ∀ it, L[k]? = some it → it.b = false) : tooB L B k = false := by
  unfold tooB
  cases hk : L[k]? with
  | none => rfl
  | some it => simp [h it hk]
/-- the first item, a branch, goes too far at first; then it is long, and no item goes too far -/
theorem rnd_one {L : List RIt} {K : Nat} (h : RndR L K) {j : Nat} (hj : j < L.length) (h0 : tooB L (itR L 0) j = true) (h1 : ∀ k, k < L.length → tooB L (itR L 1) k = false) : K = 1 :=
  rnd_unique h ⟨farR_none _ h1, fun i hi => by
    obtain rfl : i = 0 := by omega
    intro e
    have := (farR_mem (L := L) (B := itR L 0) (n := L.length) (x := (j : Int))).2 ⟨j, hj, rfl, h0⟩
    rw [e] at this
    exact absurd this (by simp)⟩
end Go.Proofs.YteanjchbnaoopaaDoor
