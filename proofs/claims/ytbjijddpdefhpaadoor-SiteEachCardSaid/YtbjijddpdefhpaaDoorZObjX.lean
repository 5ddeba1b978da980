/- Read (package obj): a contract. -/
import Derived.Test.YtbjijddpdefhpaaDoorZObjW
namespace Go.Proofs.YtbjijddpdefhpaaDoor
open Go.RowKit
/-- behind Read -/
def RdsAt (w : World) (A : Nat → Addr) (l : List Int) (e : Ending) (w' : World) : Prop :=
  ∃ V fv, e = .returned (.tuple #[V.agg, fv]) ∧ w.grownBy w' none ∧ FltAt A w' fv (readF l) ∧ (readF l = none → OAt w' V (readO l)) ∧ (readF l ≠ none → V = ov0)
theorem flt_box {A : Nat → Addr} {w w1 : World} {H : Nat} {v : Value} {y : Fl} (h : FltAt A w v y) (hH : RwAt w H 37 #[.slice none 0 0, .slice none 0 0, .slice none 0 0, .slice none 0 0, .slice none 0 0, .slice none 0 0]) (hg : w.grownBy w1 (some H)) : FltAt A w1 v y := by
  match y, h with
  | none, h => exact h
  | some (c, none), h => exact h
  | some (c, some p), ⟨B, hv, hb⟩ =>
    refine ⟨B, hv, hb.kept hg (fun e => ?_)⟩
    have e := Option.some.inj e
    have h1 := hb.blk
    have h2 := hH.blk
    rw [e, h2] at h1
    simp at h1
theorem row_grown (w : World) (H : Nat) (c : Array Value) : w.grownBy (w.setRow H c) (some H) := ⟨rfl, rfl, rfl, by simp [World.setRow], fun i _ hi => setRow_other w H i _ (fun e => hi (by rw [e]))⟩
theorem one_ov {V : OV} (h : V.cells.all (·.oneCell') = true) : (#[V.d, V.c, V.m, V.r, V.q, V.s] : Array Value).all (·.oneCell') = true := h
end Go.Proofs.YtbjijddpdefhpaaDoor
