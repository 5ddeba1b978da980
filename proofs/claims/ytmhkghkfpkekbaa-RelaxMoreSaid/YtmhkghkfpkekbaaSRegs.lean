/- Registers compared (facaderef.SameRegs): a contract. -/
import Derived.Test.YtmhkghkfpkekbaaAlu0
import Derived.LoopTactic
namespace Go.Proofs.Ytmhkghkfpkekbaa
open Go.RowKit
end Go.Proofs.Ytmhkghkfpkekbaa
