/- The walk of the law BareTraps: its eight ways. -/
import Derived.Test.YtkkbhifplbleiaaGreatDoorZBTrapsA
import Derived.Test.YtkkbhifplbleiaaGreatDoorZBTrapsB
namespace Go.Proofs.YtkkbhifplbleiaaGreatDoor
open Go.RowKit
theorem traps_walk (kk : Int) (tk : Bool) (W : World) (n0 : -9223372036854775808 ≤ kk) (n1 : kk ≤ 9223372036854775807) :
    Calls Tryz.prog 7 #[.int .i64 kk, .bool tk] W fun e w' => e = .returned (.bool true) ∧ Below W.heap.size W w' := by
  have h := numB_lt kk (k := 4) (by decide)
  have hc : ((numB kk 4 : Nat) : Int) = 0 ∨ ((numB kk 4 : Nat) : Int) = 1 ∨ ((numB kk 4 : Nat) : Int) = 2 ∨ ((numB kk 4 : Nat) : Int) = 3 := by omega
  cases tk
  · rcases hc with h | h | h | h
    · exact traps_walk0n kk W n0 n1 h
    · exact traps_walk1n kk W n0 n1 h
    · exact traps_walk2n kk W n0 n1 h
    · exact traps_walk3n kk W n0 n1 h
  · rcases hc with h | h | h | h
    · exact traps_walk0y kk W n0 n1 h
    · exact traps_walk1y kk W n0 n1 h
    · exact traps_walk2y kk W n0 n1 h
    · exact traps_walk3y kk W n0 n1 h
end Go.Proofs.YtkkbhifplbleiaaGreatDoor
