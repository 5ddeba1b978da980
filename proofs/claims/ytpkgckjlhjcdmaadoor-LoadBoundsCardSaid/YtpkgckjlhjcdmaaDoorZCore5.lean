/- core's fetch as a function; core.Fetch: contracts. -/
import Derived.Test.YtpkgckjlhjcdmaaDoorZCore4
namespace Go.Proofs.YtpkgckjlhjcdmaaDoor
open Go.RowKit
section
variable {m b n c : Nat} {xs : List Int} {W : World}
end
end Go.Proofs.YtpkgckjlhjcdmaaDoor
