/- What package mem's calls do: New, Read, Write, Frame: contracts. -/
import Derived.Test.YtepgnnnkhjnbjaaDoorMem2
namespace Go.Proofs.YtepgnnnkhjnbjaaDoor
open Go.RowKit
section
variable {m b n c : Nat} {xs : List Int} {w : World}
theorem write_no (h : MemAt w m b n c xs) (a x : Int) (ha : a < 0 ∨ (n : Int) * 16 ≤ a) (hb : a ≤ 9223372036854775807) :
    Calls Tryd.prog 9 #[.pointer (some ⟨m, 0, none⟩), .int .i64 a, .int .u32 x] w fun e w' => e = .returned (.bool false) ∧ w = w' := by
  go_enter Tryd.func9, Tryd.ntmps9
  go_wp2_with (go_at_call 25; refine (word_no h _ ha hb).mono ?_; rintro e w' ⟨rfl, rfl⟩)
  go_ret
  exact ⟨rfl, rfl⟩
theorem write_yes (h : MemAt w m b n c xs) (k : Nat) (x : Int) (hk : k < n * 16) :
    Calls Tryd.prog 9 #[.pointer (some ⟨m, 0, none⟩), .int .i64 k, .int .u32 x] w fun e w' => e = .returned (.bool true) ∧ MemAt w' m b n c (xs.set k x) ∧ w.grownBy w' (some b) := by
  have hl := h.len
  have hc := h.cell (List.getElem?_eq_getElem (by omega : k < xs.length))
  have hf := h.free k
  go_enter Tryd.func9, Tryd.ntmps9
  go_wp2_with (go_at_call 25; refine (word_yes h _ hk).mono ?_; rintro e w' ⟨rfl, rfl⟩)
  go_ret
  exact ⟨rfl, h.set hk x, grown_setCell (grown_refl _ _) _ _⟩
theorem read_no (h : MemAt w m b n c xs) (a : Int) (ha : a < 0 ∨ (n : Int) * 16 ≤ a) (hb : a ≤ 9223372036854775807) :
    Calls Tryd.prog 14 #[.pointer (some ⟨m, 0, none⟩), .int .i64 a] w fun e w' => e = .returned (.tuple #[.int .u32 0, .bool false]) ∧ w = w' := by
  go_enter Tryd.func14, Tryd.ntmps14
  go_wp2_with (go_at_call 25; refine (word_no h _ ha hb).mono ?_; rintro e w' ⟨rfl, rfl⟩)
  go_ret2
  exact ⟨rfl, rfl⟩
theorem read_yes (h : MemAt w m b n c xs) (k : Nat) (x : Int) (hx : xs[k]? = some x) :
    Calls Tryd.prog 14 #[.pointer (some ⟨m, 0, none⟩), .int .i64 k] w fun e w' => e = .returned (.tuple #[.int .u32 x, .bool true]) ∧ w = w' := by
  have hl := h.len
  have hk : k < n * 16 := by have := (List.getElem?_eq_some_iff.1 hx).1; omega
  have hc := h.cell hx
  go_enter Tryd.func14, Tryd.ntmps14
  go_wp2_with (go_at_call 25; refine (word_yes h _ hk).mono ?_; rintro e w' ⟨rfl, rfl⟩)
  go_ret2
  exact ⟨rfl, rfl⟩
theorem frame_no (h : MemAt w m b n c xs) (f : Int) (hf : f < 0 ∨ (n : Int) ≤ f) :
    Calls Tryd.prog 12 #[.pointer (some ⟨m, 0, none⟩), .int .i64 f] w fun e w' => e = .returned (.tuple #[.slice none 0 0, .bool false]) ∧ w = w' := by
  go_enter Tryd.func12, Tryd.ntmps12
  go_wp2_with (go_at_call 27; refine (has_any h _ false (by simp; omega)).mono ?_; rintro e w' ⟨rfl, rfl⟩)
  go_ret2
  exact ⟨rfl, rfl⟩
theorem frame_yes (h : MemAt w m b n c xs) (f : Nat) (hf : f < n) :
    Calls Tryd.prog 12 #[.pointer (some ⟨m, 0, none⟩), .int .i64 f] w fun e w' => e = .returned (.tuple #[.slice (some ⟨w.heap.size, 0, none⟩) 16 16, .bool true]) ∧ w' = w.alloc (.cells (wA (frameOf xs f)) 61) := by
  have hm := h.mcell
  have hn := h.n2
  have Hr := hid (h.range f)
  have hlen := frameOf_length h.len hf
  have Hs1 : Hid ((Tryd.prog.info? 61).map (·.size) = some ((frameOf xs f).map (Value.int .u32)).length) := hid (by rw [frame_info]; simp [hlen])
  have Hs2 : Hid ((Tryd.prog.info? 61).map (·.size) = some (wA (frameOf xs f)).size) := hid (by rw [frame_info]; simp [wA_size, hlen])
  have Ho := hid (wA_one (frameOf xs f))
  have Hz : Hid (16 = (wA (frameOf xs f)).size) := hid (by rw [wA_size, hlen])
  clear hlen
  go_enter Tryd.func12, Tryd.ntmps12
  go_wp2_with (first
    | (go_at_call 27; refine (has_any h _ true (by simp; omega)).mono ?_; rintro e w' ⟨rfl, rfl⟩)
    | (refine wpList_load_mid rfl 61 _ rfl b (f * 16) rfl _ _ Hr.out Tryd.underlying61 rfl Hs1.out ?_)
    | (refine wpList_store_row rfl 61 _ _ rfl w.heap.size _ rfl rfl _ _ (heap_alloc_last w _) Hs2.out Hz.out Ho.out ?_; rw [World.setRow_alloc_new]))
  go_ret2
  exact ⟨rfl, rfl⟩
end
theorem toList_madeZero (z : Value) (k n : Nat) (hn : 0 < n) : madeCells (Array.replicate n z) k = Array.replicate k z := by
  apply Array.ext
  · simp [madeCells]
  · intro i h1 h2
    have : i % n < n := Nat.mod_lt _ hn
    simp [madeCells, this]
theorem new_yes (k : Nat) (h1 : 1 ≤ k) (h2 : k ≤ 1024) (w : World) :
    Calls Tryd.prog 8 #[.int .i64 k] w fun e w' => e = .returned (.tuple #[.pointer (some ⟨w.heap.size + 1, 0, none⟩), .nilIface]) ∧ MemAt w' (w.heap.size + 1) w.heap.size k k (List.replicate (k * 16) 0) ∧ w.grownBy w' none := by
  obtain ⟨i, hi, hz0, hz1, hz2⟩ := info_parts (P := Tryd.prog) (e := 61) (z := .agg #[.int .u32 0, .int .u32 0, .int .u32 0, .int .u32 0, .int .u32 0, .int .u32 0, .int .u32 0, .int .u32 0, .int .u32 0, .int .u32 0, .int .u32 0, .int .u32 0, .int .u32 0, .int .u32 0, .int .u32 0, .int .u32 0]) (size := 16) (bytes := 64) (by kernel_rfl)
  have hmk : (Instr.makeSlice 54 (.int .i64 k) (.int .i64 k)).run Tryd.prog w = .ok (.slice (some ⟨w.heap.size, 0, none⟩) k k) (w.alloc (.cells (Array.replicate (k * 16) (.int .u32 0)) 61)) := by
    have := run_make (P := Tryd.prog) w 54 61 i _ Tryd.underlying54 hi hz0 .i64 .i64 k k (by omega) (by omega) (by rw [hz2]; omega) (by omega)
    rw [this, hz1]
    have e := toList_madeZero (.int .u32 0) (k * 16) 16 (by omega)
    simp only [Int.toNat_natCast]
    rw [← e]
    rfl
  clear hi hz0 hz1 hz2
  have a1 : ¬ (k : Int) < 1 := by omega
  have a2 : ¬ (k : Int) > 1024 := by omega
  go_enter Tryd.func8, Tryd.ntmps8
  go_wp2
  go_ret2
  refine ⟨by simp, ⟨?_, ⟨Array.replicate (k * 16) (.int .u32 0), ?_, by simp, ?_⟩, by simp, Nat.le_refl _, by unfold maxLen; omega, h1, h2, by omega⟩, ?_⟩
  · simpa using heap_alloc_new (w.alloc (.cells (Array.replicate (k * 16) (.int .u32 0)) 61)) (.cells #[.slice (some ⟨w.heap.size, 0, none⟩) k k] 56)
  · exact (Below.heap_alloc _ _ _ (by simp)).trans (heap_alloc_new _ _)
  · intro j x hx
    rw [List.getElem?_replicate] at hx
    rw [Array.getElem?_replicate]
    split at hx
    · rename_i hj
      rw [if_pos hj, ← Option.some.inj hx]
    · cases hx
  · exact grown_alloc (grown_alloc (grown_refl _ _) _) _
end Go.Proofs.YtepgnnnkhjnbjaaDoor
