/- The document's own Once: contracts (where nothing is done). (Made by a program.) -/
import Derived.Test.YtkkbhifplbleiaaDoorZRCore1
import Derived.Test.YtkkbhifplbleiaaDoorZGCoreB
import Derived.Test.YtkkbhifplbleiaaDoorZAlu7
namespace Go.Proofs.YtkkbhifplbleiaaDoor
open Go.RowKit
section
variable {m b0 n N : Nat} {xs : List Int} {l : List Int} {pc : Int} {ie eie : Bool} {epc tv cc cd ca ad op a b c im ln : Int} {W : World}
end
end Go.Proofs.YtkkbhifplbleiaaDoor
