/- What is wrong with a word (package obj): contracts, the rest. -/
import Derived.Test.YtmhkghkfpkekbaaObj2
import Derived.Deep.RegionHeld3
import Derived.BigQuiet
namespace Go.Proofs.Ytmhkghkfpkekbaa
open Go.RowKit
section
variable {w : World} {V : OV} {x : PO} {A : Nat → Addr}
end
end Go.Proofs.Ytmhkghkfpkekbaa
