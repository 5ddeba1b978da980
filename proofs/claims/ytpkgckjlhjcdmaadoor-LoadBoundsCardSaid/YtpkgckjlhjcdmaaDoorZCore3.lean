/- core's view: place, read: contracts. -/
import Derived.Test.YtpkgckjlhjcdmaaDoorZCoreP
import Derived.Test.YtpkgckjlhjcdmaaDoorZGCore
import Derived.Test.YtpkgckjlhjcdmaaDoorZGWay
namespace Go.Proofs.YtpkgckjlhjcdmaaDoor
open Go.RowKit
section
variable {m b n c : Nat} {xs : List Int} {W : World}
end
end Go.Proofs.YtpkgckjlhjcdmaaDoor
