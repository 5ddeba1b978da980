/- What package mem's calls do: New, Read, Write, Frame: contracts. -/
import Derived.Test.YtpkgckjlhjcdmaaMem2
namespace Go.Proofs.Ytpkgckjlhjcdmaa
open Go.RowKit
section
variable {m b n c : Nat} {xs : List Int} {w : World}
end
theorem toList_madeZero (z : Value) (k n : Nat) (hn : 0 < n) : madeCells (Array.replicate n z) k = Array.replicate k z := by
  apply Array.ext
  · simp [madeCells]
  · intro i h1 h2
    have : i % n < n := Nat.mod_lt _ hn
    simp [madeCells, this]
end Go.Proofs.Ytpkgckjlhjcdmaa
