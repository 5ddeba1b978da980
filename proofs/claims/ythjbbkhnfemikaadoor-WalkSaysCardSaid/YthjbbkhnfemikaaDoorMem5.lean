/- What package mem's call Clone does: contracts. -/
import Derived.Test.YthjbbkhnfemikaaDoorMem4
namespace Go.Proofs.YthjbbkhnfemikaaDoor
open Go.RowKit
section
variable {m b n c : Nat} {xs : List Int} {w : World}
def ClonedAt (w : World) (n : Nat) (xs : List Int) (e : Ending) (w' : World) : Prop :=
  ∃ v, e = .returned v ∧ w'.ownsRow w.heap.size 66 16 v n (xs.map (Value.int .u32)) ∧ w.grownBy w' none
def CloneAt (w : World) (n : Nat) (xs : List Int) (e : Ending) (w' : World) : Prop :=
  ∃ m b c, e = .returned (.pointer (some ⟨m, 0, none⟩)) ∧ w.heap.size ≤ m ∧ w.heap.size ≤ b ∧ MemAt w' m b n c xs ∧ w.grownBy w' none
theorem mem_of_owned {base : Nat} {v : Value} (h : w.ownsRow base 66 16 v n (xs.map (Value.int .u32))) (h1 : 1 ≤ n) (h2 : n ≤ 1024) :
    ∃ b c, v = .slice (some ⟨b, 0, none⟩) n c ∧ base ≤ b ∧ MemAt (w.alloc (.cells #[v] 61)) w.heap.size b n c xs := by
  obtain ⟨hl, h⟩ := h
  rcases h with ⟨_, h0⟩ | ⟨b, c, cur, rfl, hb, hg, hnc, hcm, hs, ht⟩
  · omega
  · have hlt : b < w.heap.size := (Array.getElem?_eq_some_iff.1 hg).1
    refine ⟨b, c, rfl, hb, ⟨heap_alloc_new _ _, ⟨cur, (Below.heap_alloc _ _ _ hlt).trans hg, hs, fun k x hx => ?_⟩, by simpa using hl, hnc, hcm, h1, h2, by omega⟩⟩
    have hk : k < xs.length := (List.getElem?_eq_some_iff.1 hx).1
    have := congrArg (·[k]?) ht
    simp only [List.length_map] at hl
    simp only [List.getElem?_take, List.getElem?_map, hx] at this
    rw [if_pos (by omega)] at this
    simpa using this
end
end Go.Proofs.YthjbbkhnfemikaaDoor
