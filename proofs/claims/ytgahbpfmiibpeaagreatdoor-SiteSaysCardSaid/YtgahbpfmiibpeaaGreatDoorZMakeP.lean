/- Lines of a kernel (facademake) as plain data: labels "main", words of tables, instructions; the object that they make. -/
import Derived.Test.YtgahbpfmiibpeaaGreatDoorZObjQ
namespace Go.Proofs.YtgahbpfmiibpeaaGreatDoor
inductive Lne where
  | lab
  | tab (m : Int)
  | op (o a b c m : Int)
def lneC : Lne → Array Value
  | .lab => #[.int .i64 0, .int .i64 0, .int .i64 0, .int .i64 0, .int .u32 0, .string nmMain, .string ByteArray.empty, .bool false]
  | .tab m => #[.int .i64 0, .int .i64 0, .int .i64 0, .int .i64 0, .int .u32 m, .string ByteArray.empty, .string ByteArray.empty, .bool true]
  | .op o a b c m => #[.int .i64 o, .int .i64 a, .int .i64 b, .int .i64 c, .int .u32 m, .string ByteArray.empty, .string ByteArray.empty, .bool false]
theorem lneC_size (l : Lne) : (lneC l).toList.length = 8 := by cases l <;> rfl
def lnesC : List Lne → List Value
  | [] => []
  | l :: r => (lneC l).toList ++ lnesC r
theorem lnesC_length : ∀ ls, (lnesC ls).length = ls.length * 8
  | [] => rfl
  | l :: r => by rw [lnesC, List.length_append, lnesC_length r, lneC_size, List.length_cons]; omega
theorem lnesC_append : ∀ l m : List Lne, lnesC (l ++ m) = lnesC l ++ lnesC m
  | [], _ => rfl
  | s :: r, m => by rw [List.cons_append, lnesC, lnesC_append r m, lnesC, List.append_assoc]
theorem lnesC_get : ∀ (ls : List Lne) (k i : Nat) (l : Lne), ls[k]? = some l → i < 8 → (lnesC ls)[k * 8 + i]? = (lneC l).toList[i]?
  | [], _, _, _, h, _ => by simp at h
  | x :: r, 0, i, l, h, hi => by
    obtain rfl : x = l := by simpa using h
    rw [lnesC, Nat.zero_mul, Nat.zero_add, List.getElem?_append_left (by rw [lneC_size]; exact hi)]
  | x :: r, k + 1, i, l, h, hi => by
    have h1 := lneC_size x
    have := lnesC_get r k i l (by simpa using h) hi
    rw [lnesC, List.getElem?_append_right (by omega), ← this]
    congr 1
    omega
theorem lnesC_one (ls : List Lne) : ∀ v ∈ lnesC ls, v.oneCell' = true := by
  induction ls with
  | nil => simp [lnesC]
  | cons l r ih =>
    intro v hv
    rw [lnesC, List.mem_append] at hv
    rcases hv with hv | hv
    · cases l <;> (simp only [lneC, List.mem_cons, List.not_mem_nil, or_false] at hv; rcases hv with rfl | rfl | rfl | rfl | rfl | rfl | rfl | rfl <;> rfl)
    · exact ih v hv
/-- an object, and a line more -/
def lneD (x : PO) : Lne → PO
  | .lab => ⟨x.D, x.C, x.M, x.R, x.Q, [⟨nmMain, 2, x.C.length, true⟩]⟩
  | .tab m => ⟨x.D, x.C ++ [m], x.M ++ [2], x.R, x.Q, x.S⟩
  | .op o a b c m => if twoB o = true then ⟨x.D, (x.C ++ [wordV o a b c m]) ++ [m], (x.M ++ [1]) ++ [0], x.R, x.Q, x.S⟩ else ⟨x.D, x.C ++ [wordV o a b c m], x.M ++ [1], x.R, x.Q, x.S⟩
def objL (D : List Int) (ls : List Lne) : PO := ls.foldl lneD ⟨D, [], [], [], [], []⟩
theorem objL_zero (D : List Int) (ls : List Lne) : objL D (ls.take 0) = ⟨D, [], [], [], [], []⟩ := rfl
theorem objL_succ (D : List Int) {ls : List Lne} {k : Nat} {l : Lne} (h : ls[k]? = some l) : objL D (ls.take (k + 1)) = lneD (objL D (ls.take k)) l := by
  unfold objL
  rw [List.take_add_one, h, List.foldl_append]
  rfl
theorem objL_snoc (D : List Int) (ls : List Lne) (l : Lne) : objL D (ls ++ [l]) = lneD (objL D ls) l := by
  unfold objL
  rw [List.foldl_append]
  rfl
theorem lneD_two {x : PO} {o a b c m : Int} (h : twoB o = true) : lneD x (.op o a b c m) = ⟨x.D, (x.C ++ [wordV o a b c m]) ++ [m], (x.M ++ [1]) ++ [0], x.R, x.Q, x.S⟩ := if_pos h
theorem lneD_one {x : PO} {o a b c m : Int} (h : twoB o = false) : lneD x (.op o a b c m) = ⟨x.D, x.C ++ [wordV o a b c m], x.M ++ [1], x.R, x.Q, x.S⟩ := if_neg (by simp [h])
theorem lneD_is (x : PO) (l : Lne) : (lneD x l).D = x.D ∧ (lneD x l).R = x.R ∧ (lneD x l).Q = x.Q ∧ (lneD x l).C.length ≤ x.C.length + 2 ∧ (lneD x l).M.length + x.C.length = (lneD x l).C.length + x.M.length := by
  cases l with
  | lab => exact ⟨rfl, rfl, rfl, by simp [lneD], by simp only [lneD]; omega⟩
  | tab m => exact ⟨rfl, rfl, rfl, by simp [lneD], by simp [lneD]; omega⟩
  | op o a b c m =>
    cases h : twoB o
    · rw [lneD_one h]
      exact ⟨rfl, rfl, rfl, by simp, by simp; omega⟩
    · rw [lneD_two h]
      exact ⟨rfl, rfl, rfl, by simp, by simp; omega⟩
theorem foldD (ls : List Lne) : ∀ x : PO, (ls.foldl lneD x).D = x.D ∧ (ls.foldl lneD x).R = x.R ∧ (ls.foldl lneD x).Q = x.Q ∧ (ls.foldl lneD x).C.length ≤ x.C.length + 2 * ls.length ∧ (ls.foldl lneD x).M.length + x.C.length = (ls.foldl lneD x).C.length + x.M.length := by
  induction ls with
  | nil => intro x; exact ⟨rfl, rfl, rfl, by simp, by simp only [List.foldl_nil]; omega⟩
  | cons l r ih =>
    intro x
    obtain ⟨a, b, c, d, e⟩ := ih (lneD x l)
    obtain ⟨a', b', c', d', e'⟩ := lneD_is x l
    rw [List.foldl_cons, List.length_cons]
    exact ⟨a.trans a', b.trans b', c.trans c', by omega, by omega⟩
theorem objL_R (D : List Int) (ls : List Lne) : (objL D ls).R = [] := (foldD ls _).2.1
theorem objL_Q (D : List Int) (ls : List Lne) : (objL D ls).Q = [] := (foldD ls _).2.2.1
theorem objL_D (D : List Int) (ls : List Lne) : (objL D ls).D = D := (foldD ls _).1
theorem objL_C (D : List Int) (ls : List Lne) : (objL D ls).C.length ≤ 2 * ls.length := by have := (foldD ls ⟨D, [], [], [], [], []⟩).2.2.2.1; simpa [objL] using this
theorem objL_M (D : List Int) (ls : List Lne) : (objL D ls).M.length = (objL D ls).C.length := by have := (foldD ls ⟨D, [], [], [], [], []⟩).2.2.2.2; simpa [objL] using this
/-- lines that may be: their instructions are, and "main" stands once -/
structure GoodL (ls : List Lne) : Prop where
  ins : ∀ (k : Nat) (o a b c m : Int), ls[k]? = some (Lne.op o a b c m) → insB o a b c m = true
  one : ∀ k : Nat, ls[k]? = some Lne.lab → (objL [] (ls.take k)).S = []
theorem foldS (ls : List Lne) : ∀ x y : PO, x.S = y.S → x.C.length = y.C.length → (ls.foldl lneD x).S = (ls.foldl lneD y).S := by
  induction ls with
  | nil => intro x y h _; exact h
  | cons l r ih =>
    intro x y h hc
    rw [List.foldl_cons, List.foldl_cons]
    apply ih
    · cases l with
      | lab => simp only [lneD, hc]
      | tab m => exact h
      | op o a b c m => cases ht : twoB o <;> (first | rw [lneD_two ht, lneD_two ht] | rw [lneD_one ht, lneD_one ht]) <;> exact h
    · cases l with
      | lab => exact hc
      | tab m => simp [lneD, hc]
      | op o a b c m => cases ht : twoB o <;> (first | rw [lneD_two ht, lneD_two ht] | rw [lneD_one ht, lneD_one ht]) <;> simp [hc]
theorem objL_S (D : List Int) (ls : List Lne) : (objL D ls).S = (objL [] ls).S := foldS ls _ _ rfl rfl
end Go.Proofs.YtgahbpfmiibpeaaGreatDoor
