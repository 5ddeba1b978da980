/- What is wrong with a word (package obj): contracts. -/
import Derived.Test.YtmhkghkfpkekbaaObj1
namespace Go.Proofs.Ytmhkghkfpkekbaa
open Go.RowKit
section
variable {w0 w w1 : World} {B : Nat} {t : TypeId} {cs : Array Value} {V : OV} {x : PO} {A : Nat → Addr}
end
section
variable {w : World} {V : OV} {x : PO} {A : Nat → Addr}
end
end Go.Proofs.Ytmhkghkfpkekbaa
