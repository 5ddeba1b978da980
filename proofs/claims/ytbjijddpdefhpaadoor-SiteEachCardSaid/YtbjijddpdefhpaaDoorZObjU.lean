/- Lists that are read (package obj): words, relocations, symbols: contracts. (Made by gobju.py.) -/
import Derived.Test.YtbjijddpdefhpaaDoorZObjT
import Derived.Test.YtbjijddpdefhpaaDoorZGMem
import Derived.Laws.BytesArg
namespace Go.Proofs.YtbjijddpdefhpaaDoor
open Go.RowKit
theorem grown_over {w0 w1 w2 : World} {r : Option Nat} {K : Nat} (h : w0.grownBy w1 r) (hg : w1.grownBy w2 (some K)) (hK : w0.heap.size ≤ K) : w0.grownBy w2 r :=
  ⟨hg.os.trans h.os, hg.tape.trans h.tape, hg.output.trans h.output, Nat.le_trans h.size hg.size, fun i hi hr => (hg.block i (Nat.lt_of_lt_of_le hi h.size) (fun e => by have := Option.some.inj e; omega)).trans (h.block i hi hr)⟩
theorem rlsC_set : ∀ (l : List Rl) (k j : Nat) (v : Value) (r r' : Rl), l[k]? = some r → j < 4 → (rlC r).set j v = rlC r' → (rlsC l).set (k * 4 + j) v = rlsC (l.set k r')
  | [], _, _, _, _, _, h, _, _ => by simp at h
  | x :: l, 0, j, v, r, r', h, hj, hr => by
    obtain rfl : x = r := by simpa using h
    rw [rlsC, List.set_append_left _ _ (by simpa [rlC] using hj), Nat.zero_mul, Nat.zero_add, hr]
    rfl
  | x :: l, k + 1, j, v, r, r', h, hj, hr => by
    rw [rlsC, List.set_append_right _ _ (by simp [rlC]; omega)]
    rw [show (k + 1) * 4 + j - (rlC x).length = k * 4 + j by simp [rlC]; omega, rlsC_set l k j v r r' (by simpa using h) hj hr]
    rfl
theorem sysC_set : ∀ (l : List Sy) (k j : Nat) (v : Value) (r r' : Sy), l[k]? = some r → j < 4 → (syC r).set j v = syC r' → (sysC l).set (k * 4 + j) v = sysC (l.set k r')
  | [], _, _, _, _, _, h, _, _ => by simp at h
  | x :: l, 0, j, v, r, r', h, hj, hr => by
    obtain rfl : x = r := by simpa using h
    rw [sysC, List.set_append_left _ _ (by simpa [syC] using hj), Nat.zero_mul, Nat.zero_add, hr]
    rfl
  | x :: l, k + 1, j, v, r, r', h, hj, hr => by
    rw [sysC, List.set_append_right _ _ (by simp [syC]; omega)]
    rw [show (k + 1) * 4 + j - (syC x).length = k * 4 + j by simp [syC]; omega, sysC_set l k j v r r' (by simpa using h) hj hr]
    rfl
section
variable {w0 w w1 : World} {K : Nat} {T : TypeId} {cs : List Value} {R : Nat} {A : Nat → Addr} {b o c : Nat} {s : RS}
end
/-- so many read, the others as they were made -/
def part {α : Type} (f : RS → α × RS) (z : α) (n k : Nat) (s : RS) : List α := (manyS f k s).1 ++ List.replicate (n - k) z
theorem part_zero {α : Type} (f : RS → α × RS) (z : α) (n : Nat) (s : RS) : part f z n 0 s = List.replicate n z := by simp [part, manyS]
theorem part_all {α : Type} (f : RS → α × RS) (z : α) (n : Nat) (s : RS) : part f z n n s = (manyS f n s).1 := by simp [part]
theorem part_get {α : Type} (f : RS → α × RS) (z : α) {n k : Nat} (s : RS) (h : k < n) : (part f z n k s)[k]? = some z := by
  unfold part
  rw [List.getElem?_append_right (by rw [manyS_len]; exact Nat.le_refl _), manyS_len, Nat.sub_self, List.getElem?_replicate, if_pos (by omega)]
theorem part_length {α : Type} (f : RS → α × RS) (z : α) {n k : Nat} (s : RS) (h : k ≤ n) : (part f z n k s).length = n := by
  unfold part; rw [List.length_append, manyS_len, List.length_replicate]; omega
theorem part_set {α : Type} (f : RS → α × RS) (z : α) {n k : Nat} (s : RS) (h : k < n) : (part f z n k s).set k (f (manyS f k s).2).1 = part f z n (k + 1) s := by
  unfold part
  rw [List.set_append_right _ _ (by rw [manyS_len]; exact Nat.le_refl _), manyS_len, Nat.sub_self]
  obtain ⟨d, hd⟩ : ∃ d, n - k = d + 1 := ⟨n - k - 1, by omega⟩
  rw [hd, show n - (k + 1) = d by omega, List.replicate_succ, List.set_cons_zero, manyS, List.append_assoc]
  rfl
theorem intsC_get {k : IntKind} {l : List Int} {j : Nat} {x : Int} (h : l[j]? = some x) : (l.map (Value.int k))[j]? = some (.int k x) := by rw [List.getElem?_map, h]; rfl
theorem made_u32 (n : Nat) : madeCells (Value.int .u32 0).cells (n * 1) = ((List.replicate n (0 : Int)).map (Value.int .u32)).toArray := by
  rw [show (Value.int .u32 0).cells = Array.replicate 1 (.int .u32 0) from rfl, toList_madeZero _ _ 1 (by omega), Nat.mul_one]
  simp
theorem made_four {z0 z1 z2 z3 : Value} {α : Type} (C : List α → List Value) (z : α) (hnil : C [] = []) (hcons : ∀ a l, C (a :: l) = [z0, z1, z2, z3] ++ C l ∨ a ≠ z) (n : Nat) : madeCells #[z0, z1, z2, z3] (n * 4) = (C (List.replicate n z)).toArray := by
  apply Array.ext'
  have key : ∀ n : Nat, (C (List.replicate n z)).length = n * 4 ∧ ∀ j, j < n * 4 → (C (List.replicate n z))[j]? = [z0, z1, z2, z3][j % 4]? := by
    intro n
    induction n with
    | zero => exact ⟨by simp [hnil], fun j hj => by omega⟩
    | succ n ih =>
      have hc : C (List.replicate (n + 1) z) = [z0, z1, z2, z3] ++ C (List.replicate n z) := by
        rw [List.replicate_succ]
        rcases hcons z (List.replicate n z) with h | h
        · exact h
        · exact absurd rfl h
      rw [hc]
      refine ⟨by simp [ih.1]; omega, fun j hj => ?_⟩
      by_cases h4 : j < 4
      · rw [List.getElem?_append_left (by simpa using h4), Nat.mod_eq_of_lt h4]
      · rw [List.getElem?_append_right (by simp; omega)]
        have := ih.2 (j - 4) (by omega)
        simp only [List.length_cons, List.length_nil]
        rw [show (0 + 1 + 1 + 1 + 1) = 4 from rfl, this]
        congr 1; omega
  apply List.ext_getElem?
  intro j
  by_cases hj : j < n * 4
  · rw [(key n).2 j hj]
    have hj' : j < (madeCells #[z0, z1, z2, z3] (n * 4)).toList.length := by simp [madeCells]; omega
    rw [List.getElem?_eq_getElem hj', List.getElem?_eq_getElem (by simp; omega)]
    have hm : j % 4 = 0 ∨ j % 4 = 1 ∨ j % 4 = 2 ∨ j % 4 = 3 := by omega
    simp only [madeCells, Array.getElem_toList, Array.getElem_map, Array.getElem_range]
    rcases hm with h | h | h | h <;> simp [h]
  · rw [List.getElem?_eq_none (by simp [madeCells]; omega), List.getElem?_eq_none (by rw [(key n).1]; omega)]
theorem made_rl (n : Nat) : madeCells (Value.agg #[.int .i64 0, .int .i64 0, .int .i64 0, .int .i64 0]).cells (n * 4) = (rlsC (List.replicate n rl0)).toArray :=
  made_four rlsC rl0 rfl (fun a l => by by_cases h : a = rl0; (left; subst h; rfl); exact .inr h) n
theorem made_sy (n : Nat) : madeCells (Value.agg #[.string ⟨#[]⟩, .int .i64 0, .int .i64 0, .bool false]).cells (n * 4) = (sysC (List.replicate n sy0)).toArray :=
  made_four sysC sy0 rfl (fun a l => by by_cases h : a = sy0; (left; subst h; rfl); exact .inr h) n
theorem wrap_sgn {x : Int} (h0 : 0 ≤ x) (h1 : x < 4294967296) : IntKind.i32.wrap x = sgn x := by
  rw [IntKind.wrap_i32]; unfold sgn; split <;> omega
end Go.Proofs.YtbjijddpdefhpaaDoor
