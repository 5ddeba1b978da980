/- What the small calls of package mem do: contracts. -/
import Derived.Test.YtpkgckjlhjcdmaaMem0
import Derived.WalkKit
import Derived.WalkSpells
import Derived.WalkLawsBesides
import Derived.Handy
import Derived.RegionTactic
import Derived.Deep.QuietTactic
import Derived.BigQuiet
import Derived.IntWalk
import Derived.Outline
namespace Go.Proofs.Ytpkgckjlhjcdmaa
open Go.RowKit

section
variable {m b n c : Nat} {xs : List Int} {w : World}
end
end Go.Proofs.Ytpkgckjlhjcdmaa
