/- What package mem's call Clone does: contracts. -/
import Derived.Test.YtmhkghkfpkekbaaMem4
namespace Go.Proofs.Ytmhkghkfpkekbaa
open Go.RowKit
section
variable {m b n c : Nat} {xs : List Int} {w : World}
end
end Go.Proofs.Ytmhkghkfpkekbaa
