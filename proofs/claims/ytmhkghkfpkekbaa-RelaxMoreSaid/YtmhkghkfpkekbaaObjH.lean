/- Copies of lists; a copy of an object (package obj): contracts. (Made by gobjh.py.) -/
import Derived.Test.YtmhkghkfpkekbaaObjG
import Derived.Laws.MakeOwn
import Derived.Lib.SliceRun
import Derived.Deep.RegionHeld3
namespace Go.Proofs.Ytmhkghkfpkekbaa
open Go.RowKit
/-- behind a copy: a row of the call's own with these cells -/
def CpAt (w : World) (t : TypeId) (size n : Nat) (cs : List Value) (e : Ending) (w' : World) : Prop :=
  ∃ v, e = .returned v ∧ w'.ownsRow w.heap.size t size v n cs ∧ w.grownBy w' none
theorem info_u8 : ∃ i : TypeInfo, Try.prog.info? 5 = some i ∧ i.zero = some (.int .u8 0) ∧ i.size = 1 ∧ i.bytes = 1 := info_parts (P := Try.prog) (e := 5) (z := .int .u8 0) (size := 1) (bytes := 1) (by kernel_rfl)
theorem info_u32 : ∃ i : TypeInfo, Try.prog.info? 67 = some i ∧ i.zero = some (.int .u32 0) ∧ i.size = 1 ∧ i.bytes = 4 := info_parts (P := Try.prog) (e := 67) (z := .int .u32 0) (size := 1) (bytes := 4) (by kernel_rfl)
theorem ints_one (k : IntKind) (xs : List Int) : ∀ v ∈ xs.map (Value.int k), v.oneCell' = true := by
  intro v hv
  obtain ⟨x, _, rfl⟩ := List.mem_map.1 hv
  rfl





/-! ### an object copied -/
section
variable {w0 w w1 : World} {G : Nat} {V : OV} {x : PO}
end
def Ap (u v : Value) : Prop := u.ownBlock = none ∨ u.ownBlock ≠ v.ownBlock
theorem set6_other {w : World} {G R k : Nat} {a b c d e f v : Value} (h : G ≠ R) (hc : w.cell? ⟨G, k, none⟩ = some v) :
    ((((((w.setCell ⟨R, 0, none⟩ a).setCell ⟨R, 1, none⟩ b).setCell ⟨R, 2, none⟩ c).setCell ⟨R, 3, none⟩ d).setCell ⟨R, 4, none⟩ e).setCell ⟨R, 5, none⟩ f).cell? ⟨G, k, none⟩ = some v :=
  (World.cell?_of_block (by rw [heap_setCell_other _ _ _ _ h, heap_setCell_other _ _ _ _ h, heap_setCell_other _ _ _ _ h, heap_setCell_other _ _ _ _ h, heap_setCell_other _ _ _ _ h, heap_setCell_other _ _ _ _ h])).trans hc
theorem own_slice {w : World} {B size n : Nat} {t : TypeId} {v : Value} {cs : List Value} (h : w.ownsRow B t size v n cs) : ∃ p c, v = .slice p n c := by
  rcases h.2 with ⟨rfl, h0⟩ | ⟨g, cap, cur, rfl, _⟩
  · subst h0; exact ⟨_, _, rfl⟩
  · exact ⟨_, _, rfl⟩
theorem own_apart {w : World} {B B' size n size' n' : Nat} {t t' : TypeId} {v v' : Value} {cs cs' : List Value} {w' : World} (h : w.ownsRow B t size v n cs) (h' : w'.ownsRow B' t' size' v' n' cs') (hB : w.heap.size ≤ B') : Ap v v' := by
  unfold Ap
  cases hv : v.ownBlock with
  | none => exact .inl rfl
  | some g =>
    right
    intro e
    have h1 := (h.lt g hv).2
    have h2 := (h'.lt g e.symm).1
    omega

end Go.Proofs.Ytmhkghkfpkekbaa
