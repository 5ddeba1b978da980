/- Names by numbers, f0, f1 ..: on plain data. -/
import Derived.Test.YtogdpaaofihkgaaGreatDoorYLnk17
import Derived.Test.YtogdpaaofihkgaaGreatDoorYLFarP
namespace Go.Proofs.YtogdpaaofihkgaaGreatDoor
/-- decimal digits of a number below a thousand -/
def dgt (i : Nat) : List UInt8 :=
  if i < 10 then [UInt8.ofNat (48 + i)] else if i < 100 then [UInt8.ofNat (48 + i / 10), UInt8.ofNat (48 + i % 10)]
  else [UInt8.ofNat (48 + i / 100), UInt8.ofNat (48 + i / 10 % 10), UInt8.ofNat (48 + i % 10)]
def nmF (i : Nat) : ByteArray := ⟨(102 :: dgt i).toArray⟩
def nmFv (b : ByteArray) : Nat := (b.data.toList.drop 1).foldl (fun a d => a * 10 + (d.toNat - 48)) 0
theorem nmFv_nmF {i : Nat} (h : i < 100) : nmFv (nmF i) = i := by
  have key : ((List.range 100).all fun i => decide (nmFv (nmF i) = i)) = true := by decide +kernel
  exact of_decide_eq_true (List.all_eq_true.1 key i (List.mem_range.2 h))
theorem nmF_inj {i j : Nat} (hi : i < 100) (hj : j < 100) (h : nmF i = nmF j) : i = j := by
  rw [← nmFv_nmF hi, ← nmFv_nmF hj, h]
theorem nmF_main (i : Nat) : nmF i ≠ nmMainL := by
  intro h
  have := congrArg (fun b : ByteArray => b.data[0]?) h
  simp [nmF, nmMainL] at this
end Go.Proofs.YtogdpaaofihkgaaGreatDoor
