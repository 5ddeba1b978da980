/- What package mem's calls do: New, Read, Write, Frame: contracts. -/
import Derived.Test.YthjbbkhnfemikaaDoorMem2
namespace Go.Proofs.YthjbbkhnfemikaaDoor
open Go.RowKit
section
variable {m b n c : Nat} {xs : List Int} {w : World}
theorem write_no (h : MemAt w m b n c xs) (a x : Int) (ha : a < 0 ∨ (n : Int) * 16 ≤ a) (hb : a ≤ 9223372036854775807) :
    Calls Tryd.prog 11 #[.pointer (some ⟨m, 0, none⟩), .int .i64 a, .int .u32 x] w fun e w' => e = .returned (.bool false) ∧ w = w' := by
  go_enter Tryd.func11, Tryd.ntmps11
  go_wp2_with (go_at_call 24; refine (word_no h _ ha hb).mono ?_; rintro e w' ⟨rfl, rfl⟩)
  go_ret
  exact ⟨rfl, rfl⟩
theorem write_yes (h : MemAt w m b n c xs) (k : Nat) (x : Int) (hk : k < n * 16) :
    Calls Tryd.prog 11 #[.pointer (some ⟨m, 0, none⟩), .int .i64 k, .int .u32 x] w fun e w' => e = .returned (.bool true) ∧ MemAt w' m b n c (xs.set k x) ∧ w.grownBy w' (some b) := by
  have hl := h.len
  have hc := h.cell (List.getElem?_eq_getElem (by omega : k < xs.length))
  have hf := h.free k
  go_enter Tryd.func11, Tryd.ntmps11
  go_wp2_with (go_at_call 24; refine (word_yes h _ hk).mono ?_; rintro e w' ⟨rfl, rfl⟩)
  go_ret
  exact ⟨rfl, h.set hk x, grown_setCell (grown_refl _ _) _ _⟩
theorem read_no (h : MemAt w m b n c xs) (a : Int) (ha : a < 0 ∨ (n : Int) * 16 ≤ a) (hb : a ≤ 9223372036854775807) :
    Calls Tryd.prog 31 #[.pointer (some ⟨m, 0, none⟩), .int .i64 a] w fun e w' => e = .returned (.tuple #[.int .u32 0, .bool false]) ∧ w = w' := by
  go_enter Tryd.func31, Tryd.ntmps31
  go_wp2_with (go_at_call 24; refine (word_no h _ ha hb).mono ?_; rintro e w' ⟨rfl, rfl⟩)
  go_ret2
  exact ⟨rfl, rfl⟩
theorem read_yes (h : MemAt w m b n c xs) (k : Nat) (x : Int) (hx : xs[k]? = some x) :
    Calls Tryd.prog 31 #[.pointer (some ⟨m, 0, none⟩), .int .i64 k] w fun e w' => e = .returned (.tuple #[.int .u32 x, .bool true]) ∧ w = w' := by
  have hl := h.len
  have hk : k < n * 16 := by have := (List.getElem?_eq_some_iff.1 hx).1; omega
  have hc := h.cell hx
  go_enter Tryd.func31, Tryd.ntmps31
  go_wp2_with (go_at_call 24; refine (word_yes h _ hk).mono ?_; rintro e w' ⟨rfl, rfl⟩)
  go_ret2
  exact ⟨rfl, rfl⟩
end
theorem toList_madeZero (z : Value) (k n : Nat) (hn : 0 < n) : madeCells (Array.replicate n z) k = Array.replicate k z := by
  apply Array.ext
  · simp [madeCells]
  · intro i h1 h2
    have : i % n < n := Nat.mod_lt _ hn
    simp [madeCells, this]
theorem new_yes (k : Nat) (h1 : 1 ≤ k) (h2 : k ≤ 1024) (w : World) :
    Calls Tryd.prog 20 #[.int .i64 k] w fun e w' => e = .returned (.tuple #[.pointer (some ⟨w.heap.size + 1, 0, none⟩), .nilIface]) ∧ MemAt w' (w.heap.size + 1) w.heap.size k k (List.replicate (k * 16) 0) ∧ w.grownBy w' none := by
  obtain ⟨i, hi, hz0, hz1, hz2⟩ := info_parts (P := Tryd.prog) (e := 66) (z := .agg #[.int .u32 0, .int .u32 0, .int .u32 0, .int .u32 0, .int .u32 0, .int .u32 0, .int .u32 0, .int .u32 0, .int .u32 0, .int .u32 0, .int .u32 0, .int .u32 0, .int .u32 0, .int .u32 0, .int .u32 0, .int .u32 0]) (size := 16) (bytes := 64) (by kernel_rfl)
  have hmk : (Instr.makeSlice 59 (.int .i64 k) (.int .i64 k)).run Tryd.prog w = .ok (.slice (some ⟨w.heap.size, 0, none⟩) k k) (w.alloc (.cells (Array.replicate (k * 16) (.int .u32 0)) 66)) := by
    have := run_make (P := Tryd.prog) w 59 66 i _ Tryd.underlying59 hi hz0 .i64 .i64 k k (by omega) (by omega) (by rw [hz2]; omega) (by omega)
    rw [this, hz1]
    have e := toList_madeZero (.int .u32 0) (k * 16) 16 (by omega)
    simp only [Int.toNat_natCast]
    rw [← e]
    rfl
  clear hi hz0 hz1 hz2
  have a1 : ¬ (k : Int) < 1 := by omega
  have a2 : ¬ (k : Int) > 1024 := by omega
  go_enter Tryd.func20, Tryd.ntmps20
  go_wp2
  go_ret2
  refine ⟨by simp, ⟨?_, ⟨Array.replicate (k * 16) (.int .u32 0), ?_, by simp, ?_⟩, by simp, Nat.le_refl _, by unfold maxLen; omega, h1, h2, by omega⟩, ?_⟩
  · simpa using heap_alloc_new (w.alloc (.cells (Array.replicate (k * 16) (.int .u32 0)) 66)) (.cells #[.slice (some ⟨w.heap.size, 0, none⟩) k k] 61)
  · exact (Below.heap_alloc _ _ _ (by simp)).trans (heap_alloc_new _ _)
  · intro j x hx
    rw [List.getElem?_replicate] at hx
    rw [Array.getElem?_replicate]
    split at hx
    · rename_i hj
      rw [if_pos hj, ← Option.some.inj hx]
    · cases hx
  · exact grown_alloc (grown_alloc (grown_refl _ _) _) _
end Go.Proofs.YthjbbkhnfemikaaDoor
