/- The document's own Once as a function: a contract. -/
import Derived.Test.YtkkbhifplbleiaaDoorZRCore2
import Derived.Test.YtkkbhifplbleiaaDoorZRCore3
import Derived.Test.YtkkbhifplbleiaaDoorZRCore4
import Derived.Test.YtkkbhifplbleiaaDoorZCore11
namespace Go.Proofs.YtkkbhifplbleiaaDoor
open Go.RowKit
section
variable {m b0 n N : Nat} {xs : List Int} {l : List Int} {pc : Int} {ie eie : Bool} {epc tv cc cd : Int} {W : World}
/-- what is answered, and memory then -/
def OutRAt (W : World) (m b0 N : Nat) (y : Cp) (ca ad op a b c im ln : Int) (ms : List Int) (e : Ending) (w' : World) : Prop :=
  e = .returned (.tuple #[.agg (cpuC y), .agg (spC ca ad op a b c im ln)]) ∧ RefAt w' m b0 N ms ∧ W.grownBy w' (some b0)
end
end Go.Proofs.YtkkbhifplbleiaaDoor
