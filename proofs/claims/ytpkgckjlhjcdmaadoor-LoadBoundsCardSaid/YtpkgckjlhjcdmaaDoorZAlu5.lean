/- Taken (package alu) of any instruction and registers: contracts. -/
import Derived.Test.YtpkgckjlhjcdmaaDoorZGAluB
namespace Go.Proofs.YtpkgckjlhjcdmaaDoor
open Go.RowKit
section
variable {op a b c imm : Int} {l : List Int}
/-- is a jump taken? -/
def goesB (op : Int) (l : List Int) (a : Int) : Bool := if op = 17 ∨ op = 20 then regI l a == 0 else if op = 18 ∨ op = 21 then !(regI l a == 0) else true
/-- may it be asked? -/
def askB (op a b c imm : Int) : Bool := insB op a b c imm && jmpB op
def takenB (op a b c imm : Int) (l : List Int) : Bool := askB op a b c imm && goesB op l a
end
end Go.Proofs.YtpkgckjlhjcdmaaDoor
