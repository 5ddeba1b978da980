/- LinkFar: the walk, as the card wants it. -/
import Derived.Test.YteanjchbnaoopaaDoorYLFar
namespace Go.Proofs.YteanjchbnaoopaaDoor
open Go.RowKit
theorem far_walk (n k : Int) (W : World) (A : Nat → Addr) (he : ErrC W A) (n0 : -9223372036854775808 ≤ n) (n1 : n ≤ 9223372036854775807) (k0 : -9223372036854775808 ≤ k) (k1 : k ≤ 9223372036854775807) :
    Calls Tryd.prog 4 #[.int .i64 n, .int .i64 k] W fun e w' => e = .returned (.bool true) ∧ Below W.heap.size W w' := (lfar_walk he n k n0 n1 k0 k1).mono fun _ _ h => ⟨h.1, grown_below h.2⟩
end Go.Proofs.YteanjchbnaoopaaDoor
