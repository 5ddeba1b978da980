/- The document's own memory (facaderef1.Mem): what is known of it; its calls: contracts. -/
import Derived.Test.YthjbbkhnfemikaaDoorMemF
namespace Go.Proofs.YthjbbkhnfemikaaDoor
open Go.RowKit
/-- at block m the document's memory: N words in block b -/
structure RefAt (w : World) (m b N : Nat) (xs : List Int) : Prop where
  hm : w.heap[m]? = some (.cells #[.slice (some ⟨b, 0, none⟩) N N] 63 (0, 0))
  hb : w.heap[b]? = some (.cells (wA xs) 28 (0, 0))
  len : xs.length = N
  small : N ≤ 16384
  ne : m ≠ b
section
variable {w w1 : World} {m b N : Nat} {xs : List Int}
theorem RefAt.mlt (h : RefAt w m b N xs) : m < w.heap.size := (Array.getElem?_eq_some_iff.1 h.hm).1
theorem RefAt.blt (h : RefAt w m b N xs) : b < w.heap.size := (Array.getElem?_eq_some_iff.1 h.hb).1
theorem RefAt.mcell (h : RefAt w m b N xs) : w.cell? ⟨m, 0, none⟩ = some (.slice (some ⟨b, 0, none⟩) N N) := by
  rw [cell_of_row w m 0 _ _ _ h.hm]; rfl
theorem RefAt.cell (h : RefAt w m b N xs) {k : Nat} {x : Int} (hx : xs[k]? = some x) : w.cell? ⟨b, k, none⟩ = some (.int .u32 x) := by
  rw [cell_of_row w b _ _ _ _ h.hb, wA_get, hx]; rfl
theorem RefAt.free (h : RefAt w m b N xs) (k : Nat) : w.frozen? ⟨b, k, none⟩ = false := frozen_of_row w b k _ _ h.hb
theorem RefAt.kept {r : Option Nat} (h : RefAt w m b N xs) (hg : w.grownBy w1 r) (hm : some m ≠ r) (hb : some b ≠ r) : RefAt w1 m b N xs :=
  { h with hm := (hg.block _ h.mlt hm).trans h.hm, hb := (hg.block _ h.blt hb).trans h.hb }
theorem RefAt.kept0 (h : RefAt w m b N xs) (hg : w.grownBy w1 none) : RefAt w1 m b N xs := h.kept hg (by simp) (by simp)
theorem wA_set (l : List Int) (k : Nat) (x : Int) : (wA l).setIfInBounds k (.int .u32 x) = wA (l.set k x) := by
  simp [wA, List.map_set]
theorem RefAt.set (h : RefAt w m b N xs) (k : Nat) (x : Int) : RefAt (w.setCell ⟨b, k, none⟩ (.int .u32 x)) m b N (xs.set k x) := by
  refine { h with hm := ?_, hb := ?_, len := by simpa using h.len }
  · rw [heap_setCell_other _ _ _ _ h.ne]; exact h.hm
  · rw [heap_setCell_same w b k _ _ _ h.hb, wA_set]
theorem rframes_any {n : Nat} (h : RefAt w m b N xs) (hn : N = n * 16) : Calls Tryd.prog 27 #[.pointer (some ⟨m, 0, none⟩)] w fun e w' => e = .returned (.int .i64 n) ∧ w = w' := by
  have hm := h.mcell
  have hs := h.small
  have hq : (N : Int) / 16 = (n : Int) := by omega
  have h0 : (0 : Int) ≤ (N : Int) := by omega
  clear hn
  go_enter Tryd.func27, Tryd.ntmps27
  go_wp2
  go_ret
  exact ⟨rfl, rfl⟩
theorem rwrite_no (h : RefAt w m b N xs) (a x : Int) (ha : a < 0 ∨ (N : Int) ≤ a) :
    Calls Tryd.prog 22 #[.pointer (some ⟨m, 0, none⟩), .int .i64 a, .int .u32 x] w fun e w' => e = .returned (.bool false) ∧ w = w' := by
  have hm := h.mcell
  rcases ha with ha | ha
  · go_enter Tryd.func22, Tryd.ntmps22
    go_wp2
    go_ret
    exact ⟨rfl, rfl⟩
  · have h0 : ¬ a < 0 := by omega
    go_enter Tryd.func22, Tryd.ntmps22
    go_wp2
    go_ret
    exact ⟨rfl, rfl⟩
theorem rwrite_yes (h : RefAt w m b N xs) (k : Nat) (x : Int) (hk : k < N) :
    Calls Tryd.prog 22 #[.pointer (some ⟨m, 0, none⟩), .int .i64 k, .int .u32 x] w fun e w' => e = .returned (.bool true) ∧ RefAt w' m b N (xs.set k x) ∧ w.grownBy w' (some b) := by
  have hm := h.mcell
  have hc := h.cell (List.getElem?_eq_getElem (by have := h.len; omega : k < xs.length))
  have hf := h.free k
  have h0 : ¬ (k : Int) < 0 := by omega
  have h1 : (0 : Int) ≤ (k : Int) := by omega
  have h2 : (k : Int) < (N : Int) := by omega
  go_enter Tryd.func22, Tryd.ntmps22
  go_wp2
  go_ret
  exact ⟨rfl, h.set k x, grown_setCell (grown_refl _ _) _ _⟩
theorem rread_no (h : RefAt w m b N xs) (a : Int) (ha : a < 0 ∨ (N : Int) ≤ a) :
    Calls Tryd.prog 28 #[.pointer (some ⟨m, 0, none⟩), .int .i64 a] w fun e w' => e = .returned (.tuple #[.int .u32 0, .bool false]) ∧ w = w' := by
  have hm := h.mcell
  rcases ha with ha | ha
  · go_enter Tryd.func28, Tryd.ntmps28
    go_wp2
    go_ret2
    exact ⟨rfl, rfl⟩
  · have h0 : ¬ a < 0 := by omega
    go_enter Tryd.func28, Tryd.ntmps28
    go_wp2
    go_ret2
    exact ⟨rfl, rfl⟩
theorem rread_yes (h : RefAt w m b N xs) (k : Nat) (x : Int) (hx : xs[k]? = some x) :
    Calls Tryd.prog 28 #[.pointer (some ⟨m, 0, none⟩), .int .i64 k] w fun e w' => e = .returned (.tuple #[.int .u32 x, .bool true]) ∧ w = w' := by
  have hm := h.mcell
  have hk : k < N := by have := (List.getElem?_eq_some_iff.1 hx).1; have := h.len; omega
  have hc := h.cell hx
  have h0 : ¬ (k : Int) < 0 := by omega
  have h1 : (0 : Int) ≤ (k : Int) := by omega
  have h2 : (k : Int) < (N : Int) := by omega
  clear hx
  go_enter Tryd.func28, Tryd.ntmps28
  go_wp2
  go_ret2
  exact ⟨rfl, rfl⟩
def RNewAt (w : World) (N : Nat) (e : Ending) (w' : World) : Prop :=
  ∃ m b, e = .returned (.pointer (some ⟨m, 0, none⟩)) ∧ w.heap.size ≤ m ∧ w.heap.size ≤ b ∧ RefAt w' m b N (List.replicate N 0) ∧ w.grownBy w' none
theorem rnew_of (a : Int) (k : Nat) (ha : a = (k : Int)) (h2 : k ≤ 20) : Calls Tryd.prog 21 #[.int .i64 a] w (RNewAt w (k * 16)) := by
  subst ha
  obtain ⟨i, hi, hz0, hz1, hz2⟩ := info_parts (P := Tryd.prog) (e := 28) (z := .int .u32 0) (size := 1) (bytes := 4) (by kernel_rfl)
  obtain ⟨N, hN⟩ : ∃ N, N = k * 16 := ⟨_, rfl⟩
  have hmk : (Instr.makeSlice 39 (.int .i64 N) (.int .i64 N)).run Tryd.prog w = .ok (.slice (some ⟨w.heap.size, 0, none⟩) N N) (w.alloc (.cells (wA (List.replicate N 0)) 28)) := by
    have := run_make (P := Tryd.prog) w 39 28 i _ Tryd.underlying39 hi hz0 .i64 .i64 N N (by omega) (by omega) (by rw [hz2]; omega) (by omega)
    rw [this, hz1]
    have e := toList_madeZero (.int .u32 0) N 1 (by omega)
    simp only [Int.toNat_natCast, Nat.mul_one]
    have e2 : wA (List.replicate N 0) = Array.replicate N (.int .u32 0) := by simp [wA]
    rw [e2, ← e]
    rfl
  rw [← hN]
  have hx : 16 * (k : Int) = (N : Int) := by omega
  have HN : Hid (N ≤ 320) := hid (by omega)
  clear hi hz0 hz1 hz2 hN
  go_enter Tryd.func21, Tryd.ntmps21
  go_wp2
  go_ret
  refine ⟨_, _, rfl, ?_, ?_, ⟨by simpa using heap_alloc_new (w.alloc (.cells (wA (List.replicate N 0)) 28)) (.cells #[.slice (some ⟨w.heap.size, 0, none⟩) N N] 63), (Below.heap_alloc _ _ _ (by simp)).trans (heap_alloc_last _ _), by simp, by have := HN.out; omega, by simp⟩, grown_alloc (grown_alloc (grown_refl _ _) _) _⟩
  · simp
  · exact Nat.le_refl _
end
end Go.Proofs.YthjbbkhnfemikaaDoor
