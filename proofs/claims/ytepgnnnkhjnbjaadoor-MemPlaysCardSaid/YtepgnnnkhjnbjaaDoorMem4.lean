/- What package mem's call Fill does: contracts. -/
import Derived.Test.YtepgnnnkhjnbjaaDoorMem3
import Derived.Laws.CopyOwn
import Derived.Deep.RegionHeld3
namespace Go.Proofs.YtepgnnnkhjnbjaaDoor
open Go.RowKit
section
variable {m b n c : Nat} {xs : List Int} {w : World}
theorem SlAt.len {k : IntKind} {v : Value} {ls : List Int} (h : SlAt w k v ls) : ∃ p c', v = .slice p ls.length c' := by
  rcases h with ⟨⟨p, c, rfl⟩, rfl⟩ | ⟨b, o, c, rfl, _⟩
  · exact ⟨_, _, rfl⟩
  · exact ⟨_, _, rfl⟩
theorem fill_no (h : MemAt w m b n c xs) (f : Int) (v : Value) (hf : f < 0 ∨ (n : Int) ≤ f) :
    Calls Tryd.prog 20 #[.pointer (some ⟨m, 0, none⟩), .int .i64 f, v] w fun e w' => e = .returned (.bool false) ∧ w = w' := by
  go_enter Tryd.func20, Tryd.ntmps20
  go_wp2_with (go_at_call 27; refine (has_any h _ false (by simp; omega)).mono ?_; rintro e w' ⟨rfl, rfl⟩)
  go_ret
  exact ⟨rfl, rfl⟩
theorem fill_many (h : MemAt w m b n c xs) (f : Nat) (v : Value) (ls : List Int) (hf : f < n) (hv : SlAt w .u32 v ls) (hl : 16 < ls.length) :
    Calls Tryd.prog 20 #[.pointer (some ⟨m, 0, none⟩), .int .i64 f, v] w fun e w' => e = .returned (.bool false) ∧ w = w' := by
  obtain ⟨p, c', rfl⟩ := hv.len
  go_enter Tryd.func20, Tryd.ntmps20
  go_wp2_with (go_at_call 27; refine (has_any h _ true (by simp; omega)).mono ?_; rintro e w' ⟨rfl, rfl⟩)
  go_ret
  exact ⟨rfl, rfl⟩
/-- what a frame is filled with -/
def padded (ls : List Int) : List Int := ls ++ List.replicate (16 - ls.length) 0
theorem padded_length {ls : List Int} (h : ls.length ≤ 16) : (padded ls).length = 16 := by simp [padded]; omega
theorem splice_rep {α : Type} (N : Nat) (z : α) (l : List α) : splice (List.replicate N z) 0 l = l ++ List.replicate (N - l.length) z := by
  simp [splice]
theorem splice_padded (ls : List Int) : (splice (List.replicate 16 (Value.int .u32 0)) 0 (ls.map (Value.int .u32))) = (padded ls).map (Value.int .u32) := by
  rw [splice_rep, padded]; simp
set_option maxHeartbeats 1000000 in
theorem fill_yes (h : MemAt w m b n c xs) (f : Nat) (v : Value) (ls : List Int) (hf : f < n) (hv : SlAt w .u32 v ls) (hl : ls.length ≤ 16) :
    Calls Tryd.prog 20 #[.pointer (some ⟨m, 0, none⟩), .int .i64 f, v] w fun e w' => e = .returned (.bool true) ∧ MemAt w' m b n c (setMany xs (f * 16) (padded ls)) ∧ w.grownBy w' (some b) := by
  have hv0 := hv
  obtain ⟨p, c', rfl⟩ := hv.len
  have Hu : Hid ((Tryd.prog.info? 23).map (·.size) = some 1) := hid (by kernel_rfl)
  have Hn : Hid ((ls.map (Value.int .u32)).length = Nat.min ls.length 16) := hid (by simp only [List.length_map]; exact (Nat.min_eq_left hl).symm)
  have Hfit : Hid (0 + (ls.map (Value.int .u32)).length ≤ (List.replicate 16 (Value.int .u32 0)).length) := hid (by simp; omega)
  have H1 : Hid (∀ v ∈ ls.map (Value.int .u32), v.oneCell' = true) := hid (by intro v hv; obtain ⟨x, _, rfl⟩ := List.mem_map.1 hv; rfl)
  have Hpos : Hid (0 < (ls.map (Value.int .u32)).length → ∃ ad, p = some ad ∧ ∀ j v, (ls.map (Value.int .u32))[j]? = some v → (w.alloc (.cells (List.replicate 16 (Value.int .u32 0)).toArray 61)).cell? (ad.add j) = some v) := hid (by
    intro h0
    rcases hv0 with ⟨_, rfl⟩ | ⟨b', o, c2, he, hb', hc⟩
    · simp at h0
    · obtain ⟨rfl, _⟩ : p = some ⟨b', o, none⟩ ∧ True := by simp at he; exact ⟨he.1, trivial⟩
      refine ⟨_, rfl, fun j v hv => ?_⟩
      obtain ⟨x, hx, rfl⟩ : ∃ x, ls[j]? = some x ∧ v = .int .u32 x := by
        simp only [List.getElem?_map, Option.map_eq_some_iff] at hv
        obtain ⟨x, hx, rfl⟩ := hv
        exact ⟨x, hx, rfl⟩
      rw [Addr.add_mid, World.cell?_alloc_lt _ _ _ hb']
      exact hc j x hx)
  clear hv hv0
  go_enter Tryd.func20, Tryd.ntmps20
  go_wp2_with (first
    | (go_at_call 27; refine (has_any h _ true (by simp; omega)).mono ?_; rintro e w' ⟨rfl, rfl⟩)
    | (refine wpList_copy_splice rfl _ _ _ _ rfl 23 Tryd.underlying33 Hu.out _ _ _ _ _ _ rfl rfl w.heap.size 0 (List.replicate 16 (Value.int .u32 0)) 61 (heap_alloc_last w _) (ls.map (Value.int .u32)) Hn.out (fun h0 => ⟨rfl, Hpos.out h0⟩) Hfit.out H1.out w.heap.size w ((Below.refl _ _).alloc (Nat.le_refl _) _) (Nat.le_refl _) ?_; intro w2 HG2 hB2))
  have hg2 : w.grownBy w2 none := below_is_grown hB2
  have h2 : MemAt w2 m b n c xs := h.kept0 hg2
  have hbB : b < w.heap.size := h.blt
  obtain ⟨cs, Hcs⟩ : ∃ cs, Hid (cs = (padded ls).map (Value.int .u32)) := ⟨_, hid rfl⟩
  have hrg : w2.rangeAt w.heap.size 0 cs := by
    have := World.rangeAt_of_block HG2.out 0 16
    rw [splice_padded] at this
    rw [Hcs.out]
    intro j v hv
    refine this j v ?_
    have hj := (List.getElem?_eq_some_iff.1 hv).1
    have hp := padded_length hl
    simp only [List.length_map] at hj
    simp only [List.extract_toArray, Nat.zero_add, List.extract_eq_take_drop, List.drop_zero, Nat.sub_zero]
    rw [List.take_of_length_le (by simp; omega)]
    exact hv
  have hm2 := h2.mcell
  have Hcl : Hid (cs.length = 16) := hid (by rw [Hcs.out, List.length_map]; exact padded_length hl)
  have ht2 : w2.there b (f * 16) cs.length := by rw [Hcl.out]; exact h2.there hf
  have ho : ∀ v ∈ cs, v.oneCell' = true := by
    intro v hv; rw [Hcs.out] at hv; obtain ⟨x, _, rfl⟩ := List.mem_map.1 hv; rfl
  have hu := Tryd.underlying61
  have hi : (Tryd.prog.info? 61).map (·.size) = some cs.length := by rw [Hcl.out]; exact frame_info
  have hne : m ≠ b := h.ne
  have H2 := hid h2
  have Hm := h.mlt
  clear Hu Hn Hfit H1 Hpos HG2 h2 hl h
  go_frame
  go_region_held3 (fun W => W.cell? ⟨m, 0, none⟩ = some (.slice (some ⟨b, 0, none⟩) n c) ∧ W.rangeAt w.heap.size 0 cs ∧ W.there b (f * 16) cs.length)
    (first | (exact ⟨hm2, hrg, ht2⟩) | (go_split_ands; refine ⟨?_, ?_, ?_⟩ <;> first | assumption | (rw [World.cell?_setCells_out _ _ _ _ _ (fun e _ => absurd e hne)]; assumption) | (exact World.rangeAt_setCells_apart (by assumption) _ _ _ (Or.inl (by omega))) | (exact World.there_setCells (by assumption) _ _ _))) (fail)
  go_wp2
  go_ret
  have H3 := MemAt.fill (padded ls) (f * 16) _ _ (H2.out.kept0 (grown_drew (grown_refl _ none))) (by have := Hcl.out; rw [Hcs.out, List.length_map] at this; omega)
  rw [← Hcs.out] at H3
  exact ⟨rfl, H3, grown_setCells _ _ (grown_drew (grown_none hg2))⟩
end
end Go.Proofs.YtepgnnnkhjnbjaaDoor
