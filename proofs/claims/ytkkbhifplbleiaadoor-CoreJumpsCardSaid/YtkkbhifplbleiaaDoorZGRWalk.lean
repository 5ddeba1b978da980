/- The document's own ways by the tables (facaderef1.Page, Walk): contracts. -/
import Derived.Test.YtkkbhifplbleiaaDoorZRWalk1
import Derived.Test.YtkkbhifplbleiaaDoorZGWay
namespace Go.Proofs.YtkkbhifplbleiaaDoor
open Go.RowKit
section
variable {m b n N : Nat} {xs : List Int} {W : World}
end
end Go.Proofs.YtkkbhifplbleiaaDoor
/- The document's own Page where both levels have an entry; Page: contracts. -/
namespace Go.Proofs.YtkkbhifplbleiaaDoor
open Go.RowKit
section
variable {m b n N : Nat} {xs : List Int} {W : World}
end
end Go.Proofs.YtkkbhifplbleiaaDoor
/- The document's own Walk: a contract. -/
namespace Go.Proofs.YtkkbhifplbleiaaDoor
open Go.RowKit
section
variable {m b n N : Nat} {xs : List Int} {W : World}
theorem may_ways (X U r write user : Bool) : (write = true ∧ X = false) ∨ (write = false ∧ user = true ∧ U = false) ∨ (write = true ∧ X = true ∧ user = true ∧ U = false) ∨ (write = false ∧ user = false ∧ r = false) ∨ (write = false ∧ user = false ∧ r = true) ∨ (write = false ∧ user = true ∧ U = true ∧ r = false) ∨ (write = false ∧ user = true ∧ U = true ∧ r = true) ∨ (write = true ∧ X = true ∧ user = false ∧ r = false) ∨ (write = true ∧ X = true ∧ user = false ∧ r = true) ∨ (write = true ∧ X = true ∧ user = true ∧ U = true ∧ r = false) ∨ (write = true ∧ X = true ∧ user = true ∧ U = true ∧ r = true) := by
  cases X <;> cases U <;> cases r <;> cases write <;> cases user <;> simp
end
end Go.Proofs.YtkkbhifplbleiaaDoor
