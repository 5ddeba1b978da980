/- The document's own Once: contracts (reckoning, jumps). (Made by a program.) -/
import Derived.Test.YtkkbhifplbleiaaDoorZRCore1
import Derived.Test.YtkkbhifplbleiaaDoorZGCoreB
import Derived.Test.YtkkbhifplbleiaaDoorZAlu7
import Derived.Test.YtkkbhifplbleiaaDoorZAlu6
namespace Go.Proofs.YtkkbhifplbleiaaDoor
open Go.RowKit
theorem zero_regs (w : World) : (zeroValue 24).run Tryd.prog w = .ok (.agg (wA zeroL)) w := by kernel_rfl
section
variable {m b0 n N : Nat} {xs : List Int} {l : List Int} {pc : Int} {ie eie : Bool} {epc tv cc cd ca ad op a b c im ln : Int} {W : World}
end
end Go.Proofs.YtkkbhifplbleiaaDoor
