/- Registers compared (facaderef.SameRegs): a contract. -/
import Derived.Test.YtpkgckjlhjcdmaaAlu0
import Derived.LoopTactic
namespace Go.Proofs.Ytpkgckjlhjcdmaa
open Go.RowKit
end Go.Proofs.Ytpkgckjlhjcdmaa
