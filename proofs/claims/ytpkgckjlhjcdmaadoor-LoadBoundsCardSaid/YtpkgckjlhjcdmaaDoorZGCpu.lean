/- What would interrupt a processor (package trap; the document's own Waits): contracts. -/
import Derived.Test.YtpkgckjlhjcdmaaDoorZGAluA
import Derived.Test.YtpkgckjlhjcdmaaDoorZGDev
import Derived.Deep.Cut
import Derived.StillTailTactics
namespace Go.Proofs.YtpkgckjlhjcdmaaDoor
open Go.RowKit
/-- the cause: whether it may, whether the timer is due, how many keys wait, whether there is a port -/
def waitV (ie due : Bool) (n : Nat) (port : Bool) : Int := if ie then (if due then 2 else if 0 < n then 3 else if port then 5 else 0) else 0
section
variable {w : World} {B d : Nat} {x : DvS} {v : Value} {c : Cp}
end
section
variable {w : World} {B b : Nat} {Q S : List Int} {sn : List Sn} {on : Bool} {T : Int} {vw vs : Value} {c : Cp}
end
end Go.Proofs.YtpkgckjlhjcdmaaDoor
/- Traps (package trap; the document's own): Enter, Return: contracts. -/
namespace Go.Proofs.YtpkgckjlhjcdmaaDoor
open Go.RowKit
section
variable {x : Cp}
end
end Go.Proofs.YtpkgckjlhjcdmaaDoor
/- The way back (package trap; the document's own Return): contracts. (Made by genCpu.py.) -/
namespace Go.Proofs.YtpkgckjlhjcdmaaDoor
open Go.RowKit
section
variable {x : Cp}
end
end Go.Proofs.YtpkgckjlhjcdmaaDoor
