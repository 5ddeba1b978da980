/- core.Once: contracts. (Made by a program.) -/
import Derived.Test.YtpkgckjlhjcdmaaDoorZGCoreB
import Derived.Test.YtpkgckjlhjcdmaaDoorZCore5
import Derived.Test.YtpkgckjlhjcdmaaDoorZGCore
namespace Go.Proofs.YtpkgckjlhjcdmaaDoor
open Go.RowKit
def zeroView : Array Value := #[.pointer none, .int .i64 0, .bool false]
theorem view_one (m : Nat) (root : Int) (user : Bool) : (#[Value.pointer (some ⟨m, 0, none⟩), .int .i64 root, .bool user] : Array Value).all (·.oneCell') = true := by simp [Value.oneCell']
section
variable {m bm n cap : Nat} {xs : List Int} {l : List Int} {pc : Int} {ie eie : Bool} {epc tv cc cd ca ad op a b c im ln : Int} {W : World}
end
end Go.Proofs.YtpkgckjlhjcdmaaDoor
