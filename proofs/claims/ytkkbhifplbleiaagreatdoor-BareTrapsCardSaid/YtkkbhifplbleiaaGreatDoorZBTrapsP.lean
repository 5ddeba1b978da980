/- Plain facts of the law BareTraps: eight runs. -/
import Derived.Test.YtkkbhifplbleiaaGreatDoorZBShowP
namespace Go.Proofs.YtkkbhifplbleiaaGreatDoor
open Go.RowKit
def bodyT (k : Nat) : List Int :=
  match k with
  | 0 => [235012096, 4096, 201392640]
  | 1 => [0]
  | 2 => [234946560, 1, 654376960, 1090519040, 16777216]
  | _ => [1090519040, 16777216]
def codeT (k : Nat) : List Int := (bodyT k ++ List.replicate (20 - (bodyT k).length) 0) ++ [722010112, 587792384, 536870912]
def tvT (taken : Bool) : Int := if taken = true then 2068 else 0
def startT (k : Nat) (taken : Bool) : Mc := initM (memW8 24 [] (codeT k)) (pcP 2048 (tvT taken))
def machT (k : Nat) (taken : Bool) : Mc := if k = 3 then pressM (startT k taken) 5 else startT k taken
def causeT (k : Nat) : Int :=
  match k with
  | 0 => 1
  | 1 => 4
  | 2 => 2
  | _ => 3
theorem t0n : (iterP (24 + 16) 24 12 (machT 0 false)).ov = true ∧ (iterP (24 + 16) 24 12 (machT 0 false)).d.sn = [(4, 1, 0)] := by
  constructor <;> kernel_rfl
theorem t0y : (iterP (24 + 16) 24 12 (machT 0 true)).ov = true ∧ (iterP (24 + 16) 24 12 (machT 0 true)).d.sn = [(1, 0, 1), (3, 0, 0)] := by
  constructor <;> kernel_rfl
theorem t1n : (iterP (24 + 16) 24 12 (machT 1 false)).ov = true ∧ (iterP (24 + 16) 24 12 (machT 1 false)).d.sn = [(4, 4, 0)] := by
  constructor <;> kernel_rfl
theorem t1y : (iterP (24 + 16) 24 12 (machT 1 true)).ov = true ∧ (iterP (24 + 16) 24 12 (machT 1 true)).d.sn = [(1, 0, 4), (3, 0, 0)] := by
  constructor <;> kernel_rfl
theorem t2n : (iterP (24 + 16) 24 12 (machT 2 false)).ov = true ∧ (iterP (24 + 16) 24 12 (machT 2 false)).d.sn = [(4, 2, 0)] := by
  constructor <;> kernel_rfl
theorem t2y : (iterP (24 + 16) 24 12 (machT 2 true)).ov = true ∧ (iterP (24 + 16) 24 12 (machT 2 true)).d.sn = [(1, 0, 2), (3, 0, 0)] := by
  constructor <;> kernel_rfl
theorem t3n : (iterP (24 + 16) 24 12 (machT 3 false)).ov = true ∧ (iterP (24 + 16) 24 12 (machT 3 false)).d.sn = [(4, 3, 0)] := by
  constructor <;> kernel_rfl
theorem t3y : (iterP (24 + 16) 24 12 (machT 3 true)).ov = true ∧ (iterP (24 + 16) 24 12 (machT 3 true)).d.sn = [(1, 0, 3), (3, 0, 0)] := by
  constructor <;> kernel_rfl
end Go.Proofs.YtkkbhifplbleiaaGreatDoor
