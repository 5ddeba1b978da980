/- bare's processor: an instruction that asks it how it stands, or makes it stand otherwise: a contract. (Made by a program.) -/
import Derived.Test.YtpkgckjlhjcdmaaDoorZGBareA
import Derived.Test.YtpkgckjlhjcdmaaDoorZGCore
import Derived.Deep.Cut
namespace Go.Proofs.YtpkgckjlhjcdmaaDoor
open Go.RowKit
theorem setR_regs {l : List Int} (hl : Regs l) (k : Nat) {x : Int} (h0 : 0 ≤ x) (h1 : x < 4294967296) : (l.set k x).length = 16 := (hl.set k h0 h1).len
section
variable {l : List Int} {pc : Int} {ie eie : Bool} {epc tv cc cd : Int}
end
end Go.Proofs.YtpkgckjlhjcdmaaDoor
