/- An object of lines (facademake.Object), any lines, with labels and symbols: contract. (Made by gomkx.py.) -/
import Derived.Test.YtogdpaaofihkgaaGreatDoorYSymX
import Derived.Test.YtogdpaaofihkgaaGreatDoorYOWr0
import Derived.Test.YtogdpaaofihkgaaGreatDoorYBase
import Derived.BigGuardPart
import Derived.Deep.AppendLies
namespace Go.Proofs.YtogdpaaofihkgaaGreatDoor
open Go.RowKit
section
variable {w0 w w1 : World} {base H X : Nat} {R : List Ro} {V : OV} {x : PO} {l : Lx}
theorem OgB.cell (h : OgB w0 w base H R V x) : RwAt w H 39 #[V.d, V.c, V.m, V.r, V.q, V.s] := h.row
/-- a cell of the line that is at hand -/
theorem OgB.ln (h : OgB w0 w base H (⟨.slice (some ⟨X, 0, none⟩) 1 1, 29, 8, 1, lxC l⟩ :: R) V x) (j : Nat) {v : Value} (hj : (lxC l)[j]? = some v) : w.cell? ⟨X, j, none⟩ = some v := RosB.rdc h List.mem_cons_self j hj
theorem OgB.drop (h : OgB w0 w base H (⟨.slice (some ⟨X, 0, none⟩) 1 1, 29, 8, 1, lxC l⟩ :: R) V x) : OgB w0 w base H R V x := RosB.drop h (fun _r hr => List.mem_cons_of_mem _ hr)
/-- the object begins -/
theorem OgB.start {v : Value} {D : List Int} (h : w0.grownBy w none) (hb : base = w0.heap.size) (ho : w.ownsRow base 25 1 v D.length (D.map (Value.int .u32))) (hr : ∀ r ∈ R, w.ownsRow base r.e r.z r.v r.n r.xs) (hv : ∀ r ∈ R, ∀ g, v.ownBlock = some g → r.v.ownBlock ≠ some g) :
    OgB w0 (w.alloc (.cells #[v, .slice none 0 0, .slice none 0 0, .slice none 0 0, .slice none 0 0, .slice none 0 0] 39)) base w.heap.size R ⟨v, .slice none 0 0, .slice none 0 0, .slice none 0 0, .slice none 0 0, .slice none 0 0⟩ (poX D) := by
  subst hb
  have al := World.grownBy_alloc w (.cells #[v, .slice none 0 0, .slice none 0 0, .slice none 0 0, .slice none 0 0, .slice none 0 0] 39) none
  refine ⟨grown_trans h al, Nat.le_refl _, h.size, RwAt.new w _ _, ?_, ?_, ?_, fun r hr' => (hr r hr').kept al (by cases r.v.ownBlock <;> simp), ?_, ?_⟩
  · intro r hr
    simp only [obRo, poX, List.mem_cons, List.not_mem_nil, or_false] at hr
    rcases hr with rfl | rfl | rfl | rfl | rfl | rfl
    · exact ho.kept al (by cases v.ownBlock <;> simp)
    all_goals exact World.ownsRow_nil _ _ _ _
  · intro r hr
    simp only [obRo, poX, List.mem_cons, List.not_mem_nil, or_false] at hr
    rcases hr with rfl | rfl | rfl | rfl | rfl | rfl
    · intro e; have := (ho.lt _ e).2; omega
    all_goals (intro e; cases e)
  · intro i j a b hij ha hb g hga hgb
    have hi := (List.getElem?_eq_some_iff.1 ha).1
    have hj := (List.getElem?_eq_some_iff.1 hb).1
    simp only [obRo, List.length_cons, List.length_nil] at hi hj
    have hi5 : i = 0 ∨ i = 1 ∨ i = 2 ∨ i = 3 ∨ i = 4 ∨ i = 5 := by omega
    have hj5 : j = 0 ∨ j = 1 ∨ j = 2 ∨ j = 3 ∨ j = 4 ∨ j = 5 := by omega
    rcases hi5 with rfl | rfl | rfl | rfl | rfl | rfl <;> rcases hj5 with rfl | rfl | rfl | rfl | rfl | rfl <;> simp [obRo] at ha hb hij <;> subst ha <;> subst hb <;> simp [Value.ownBlock] at hga hgb
  · intro r hr' e; have := ((hr r hr').lt _ e).2; omega
  · intro r hr' a ha g hga
    simp only [obRo, poX, List.mem_cons, List.not_mem_nil, or_false] at ha
    rcases ha with rfl | rfl | rfl | rfl | rfl | rfl
    · exact hv r hr' g hga
    all_goals cases hga
end
end Go.Proofs.YtogdpaaofihkgaaGreatDoor
