/- bare's devices: an instruction that asks the devices, or tells them something: contracts. -/
import Derived.Test.YtpkgckjlhjcdmaaDoorZGBareA
import Derived.Test.YtpkgckjlhjcdmaaDoorZGCore
import Derived.Test.YtpkgckjlhjcdmaaDoorZGDev
import Derived.Test.YtpkgckjlhjcdmaaDoorZGAluB
import Derived.Deep.Cut
namespace Go.Proofs.YtpkgckjlhjcdmaaDoor
open Go.RowKit
section
variable {w w3 w4 w5 : World} {B d : Nat} {x : DvS} {v v' : Value}
/-- devices that turned behind blocks that were made, and such blocks written -/
theorem turned_own (h : DevAt w B d x v) (hg : w.grownBy w3 none) {x' : DvS} (ht : Turned w3 B d v x' w4 v') {R : List Nat} (hL : Lv w4 w5 R) (hR : ∀ i ∈ R, w.heap.size ≤ i ∧ i < w3.heap.size) : Turned w B d v x' w5 v' := by
  have key : ∀ i ∈ foot d v', i ∉ R := by
    intro i hi hi2
    have h2 := hR i hi2
    rcases mem_foot.1 hi with e | e
    · have := h.lt; omega
    · rcases ht.mine with hm | hm
      · have := h.foot_lt i (mem_foot.2 (.inr (hm.symm.trans e))); omega
      · have := hm i e; omega
  refine ⟨ht.at_.keptL hL key, ⟨hL.os.trans (ht.lv.os.trans hg.os), hL.tape.trans (ht.lv.tape.trans hg.tape), hL.output.trans (ht.lv.output.trans hg.output), Nat.le_trans hg.size (Nat.le_trans ht.lv.size hL.size), fun i hi hr => ?_⟩, ?_⟩
  · rw [hL.block i (Nat.lt_of_lt_of_le hi (Nat.le_trans hg.size ht.lv.size)) (fun e => by have := hR i e; omega), ht.lv.block i (Nat.lt_of_lt_of_le hi hg.size) hr]
    exact hg.block i hi (by simp)
  · rcases ht.mine with hm | hm
    · exact .inl hm
    · exact .inr (fun g hgv => Nat.le_trans hg.size (hm g hgv))
/-- a block that is newer than the devices, behind a call of theirs -/
theorem RwAt.turned {b : Nat} {t : TypeId} {cs : Array Value} (hr : RwAt w3 b t cs) (h : DevAt w B d x v) (hb : w.heap.size ≤ b) {x' : DvS} (ht : Turned w3 B d v x' w4 v') : RwAt w4 b t cs :=
  hr.keptL ht.lv (fun hi => by have := h.foot_lt b hi; omega)
/-- behind devices -/
def DvcAt (w : World) (B d : Nat) (v : Value) (L : List Int) (x' : DvS) (e : Ending) (w' : World) : Prop := e = .returned (.agg (wA L)) ∧ ∃ v', Turned w B d v x' w' v'
theorem keep_set {w : World} {b1 b2 k j : Nat} {v u : Value} (h : w.cell? ⟨b2, j, none⟩ = some u) (hne : b2 ≠ b1) : (w.setCell ⟨b1, k, none⟩ v).cell? ⟨b2, j, none⟩ = some u := by
  rw [World.cell?_setCell_other _ _ _ _ (fun e => hne (by injection e with e1; exact e1.symm))]; exact h
/-- what the function boxes, and where it answers -/
structure DvAt (w w3 : World) (b1 b2 b3 : Nat) (l : List Int) (i : Array Value) : Prop where
  h1 : RwAt w3 b1 67 (wA l)
  h2 : RwAt w3 b2 36 i
  h3 : RwAt w3 b3 67 (wA zeroL)
  g : w.grownBy w3 none
  lo : w.heap.size ≤ b1
  n12 : b1 < b2
  n23 : b2 < b3
  hi : b3 < w3.heap.size
theorem DvAt.init (w : World) (l : List Int) (i : Array Value) : DvAt w (((w.alloc (.cells (wA l) 67)).alloc (.cells i 36)).alloc (.cells (wA zeroL) 67)) w.heap.size (w.heap.size + 1) (w.heap.size + 1 + 1) l i := by
  refine ⟨((RwAt.new w _ _).alloc _).alloc _, (RwAt.new2 w _ _ _).alloc _, ?_, grown_alloc (grown_alloc (grown_alloc (grown_refl w none) _) _) _, Nat.le_refl _, Nat.lt_succ_self _, Nat.lt_succ_self _, by simp⟩
  have := RwAt.new2 (w.alloc (.cells (wA l) 67)) (.cells i 36) 67 (wA zeroL)
  rw [World.size_alloc] at this
  exact this
theorem DvAt.kept0 {w3 w4 : World} {b1 b2 b3 : Nat} {l : List Int} {i : Array Value} (h : DvAt w w3 b1 b2 b3 l i) (hg : w3.grownBy w4 none) : DvAt w w4 b1 b2 b3 l i :=
  ⟨h.h1.kept0 hg, h.h2.kept0 hg, h.h3.kept0 hg, grown_trans h.g hg, h.lo, h.n12, h.n23, Nat.lt_of_lt_of_le h.hi hg.size⟩
theorem two_in {P : Nat → Prop} {a b : Nat} (ha : P a) (hb : P b) : ∀ i ∈ [a, b], P i := fun i hi => by
  rcases List.mem_cons.1 hi with e | e
  · rw [e]; exact ha
  · rw [List.mem_singleton.1 e]; exact hb
theorem regs_rw_info (l : List Int) (h : l.length = 16) : (Tryd.prog.info? 67).map (·.size) = some (wA l).size := regs_len_info l h
theorem reg_cell {w : World} {b : Nat} {l : List Int} (h : RwAt w b 67 (wA l)) {k : Nat} {y : Int} (hy : l[k]? = some y) : w.cell? ⟨b, k, none⟩ = some (.int .u32 y) := h.cell k (by rw [wA_get, hy]; rfl)
end
section
variable {w : World} {B d : Nat} {x : DvS} {v : Value} {l : List Int}
end
end Go.Proofs.YtpkgckjlhjcdmaaDoor
