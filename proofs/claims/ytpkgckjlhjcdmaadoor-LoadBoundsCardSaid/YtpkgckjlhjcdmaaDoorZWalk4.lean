/- What package walk's has, entry, Page, Walk answer: contracts. -/
import Derived.Test.YtpkgckjlhjcdmaaDoorZGWalk
import Derived.Test.YtpkgckjlhjcdmaaDoorZGMem
namespace Go.Proofs.YtpkgckjlhjcdmaaDoor
open Go.RowKit
/-- words -/
def U32s (xs : List Int) : Prop := ∀ x ∈ xs, 0 ≤ x ∧ x < 4294967296
theorem U32s.get {xs : List Int} (h : U32s xs) {k : Nat} {x : Int} (hx : xs[k]? = some x) : 0 ≤ x ∧ x < 4294967296 := h x (List.mem_of_getElem? hx)
section
variable {m b n c : Nat} {xs : List Int} {W : World}
/-- the answer where there is none -/
def NoEnt (W : World) (e : Ending) (w' : World) : Prop := e = .returned (.tuple #[.agg #[.int .i64 0, .bool false, .bool false, .bool false], .bool false]) ∧ W.grownBy w' none
end
end Go.Proofs.YtpkgckjlhjcdmaaDoor
