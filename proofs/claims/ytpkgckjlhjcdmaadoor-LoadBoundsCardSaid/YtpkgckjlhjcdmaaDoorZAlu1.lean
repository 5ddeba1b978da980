/- What a step's small methods do (package alu): contracts. -/
import Derived.Test.YtpkgckjlhjcdmaaDoorZGAluA
namespace Go.Proofs.YtpkgckjlhjcdmaaDoor
open Go.RowKit
/-- a word is answered, nothing but draws has been -/
def Reads (W : World) (V : Int) (e : Ending) (w' : World) : Prop := e = .returned (.int .u32 V) ∧ ∃ n, w' = W.drewN n
theorem nat_and31 (n : Nat) : n &&& 31 = n % 32 := Nat.and_two_pow_sub_one_eq_mod n 5
theorem and_31 (x : Int) (h : 0 ≤ x) (h' : x < 4294967296) : bits BinOp.and IntKind.u32 x 31 = x % 32 := by
  obtain ⟨n, rfl⟩ := Int.eq_ofNat_of_zero_le h
  rw [show (31 : Int) = ((31 : Nat) : Int) from rfl, u32_and_nat n 31 (by omega) (by decide), nat_and31]
  omega
/-- a bool is answered, nothing but draws has been -/
def ReadsB (W : World) (V : Bool) (e : Ending) (w' : World) : Prop := e = .returned (.bool V) ∧ ∃ n, w' = W.drewN n
section
variable {W : World} {B : Nat} {op a b c imm : Int} {l : List Int}
def oneI (t : Bool) : Int := if t = true then 1 else 0
end
end Go.Proofs.YtpkgckjlhjcdmaaDoor
