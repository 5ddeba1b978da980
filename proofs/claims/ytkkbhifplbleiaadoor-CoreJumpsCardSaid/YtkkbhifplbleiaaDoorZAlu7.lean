/- The document's own Taken: contracts. -/
import Derived.Test.YtkkbhifplbleiaaDoorZAlu5
import Derived.Test.YtkkbhifplbleiaaDoorZGRef
import Derived.LoopTactic
import Derived.Test.YtkkbhifplbleiaaDoorZGAluA
namespace Go.Proofs.YtkkbhifplbleiaaDoor
open Go.RowKit
section
variable {op a b c imm : Int} {l : List Int}
end
end Go.Proofs.YtkkbhifplbleiaaDoor
