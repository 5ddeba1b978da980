/- What package mem's call Fill does: contracts. -/
import Derived.Test.YtpkgckjlhjcdmaaMem3
import Derived.Laws.CopyOwn
import Derived.Deep.RegionHeld3
namespace Go.Proofs.Ytpkgckjlhjcdmaa
open Go.RowKit
section
variable {m b n c : Nat} {xs : List Int} {w : World}
theorem SlAt.len {k : IntKind} {v : Value} {ls : List Int} (h : SlAt w k v ls) : ∃ p c', v = .slice p ls.length c' := by
  rcases h with ⟨⟨p, c, rfl⟩, rfl⟩ | ⟨b, o, c, rfl, _⟩
  · exact ⟨_, _, rfl⟩
  · exact ⟨_, _, rfl⟩
/-- what a frame is filled with -/
def padded (ls : List Int) : List Int := ls ++ List.replicate (16 - ls.length) 0
theorem padded_length {ls : List Int} (h : ls.length ≤ 16) : (padded ls).length = 16 := by simp [padded]; omega
theorem splice_rep {α : Type} (N : Nat) (z : α) (l : List α) : splice (List.replicate N z) 0 l = l ++ List.replicate (N - l.length) z := by
  simp [splice]
theorem splice_padded (ls : List Int) : (splice (List.replicate 16 (Value.int .u32 0)) 0 (ls.map (Value.int .u32))) = (padded ls).map (Value.int .u32) := by
  rw [splice_rep, padded]; simp
end
end Go.Proofs.Ytpkgckjlhjcdmaa
