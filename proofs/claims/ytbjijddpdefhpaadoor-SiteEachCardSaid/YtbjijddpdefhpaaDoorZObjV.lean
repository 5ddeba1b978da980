/- An object that is read (package obj): a contract. (Made by gobjv.py.) -/
import Derived.Test.YtbjijddpdefhpaaDoorZObjU
import Derived.Test.YtbjijddpdefhpaaDoorZObjH
import Derived.Laws.Rows
namespace Go.Proofs.YtbjijddpdefhpaaDoor
open Go.RowKit
theorem CsAt.keptO {w w1 : World} {v : Value} {n : Nat} {cs : List Value} {r : Option Nat} (h : CsAt w v n cs) (hg : w.grownBy w1 r) (hr : v.ownBlock = none ∨ v.ownBlock ≠ r) : CsAt w1 v n cs := by
  rcases h with h | ⟨b, o, c, rfl, hn, hb, hc⟩
  · exact .inl h
  · refine .inr ⟨b, o, c, rfl, hn, Nat.lt_of_lt_of_le hb hg.size, fun j x hx => ?_⟩
    rw [grown_cell hg hb (by simpa [Value.ownBlock] using hr)]
    exact hc j x hx
/-- in blocks from B on -/
def AbB (B : Nat) (v : Value) : Prop := ∀ g, v.ownBlock = some g → B ≤ g
theorem AbB.ne {B r : Nat} {v : Value} (h : AbB B v) (hr : r < B) : v.ownBlock = none ∨ v.ownBlock ≠ some r := .inr fun e => by have := h r e; omega
structure SlB (B : Nat) (w : World) (k : IntKind) (v : Value) (xs : List Int) : Prop where
  sl : SlAt w k v xs
  ab : AbB B v
structure CsB (B : Nat) (w : World) (v : Value) (n : Nat) (cs : List Value) : Prop where
  cs : CsAt w v n cs
  ab : AbB B v
theorem SlB.kept {B r : Nat} {w w1 : World} {k : IntKind} {v : Value} {xs : List Int} (h : SlB B w k v xs) (hg : w.grownBy w1 (some r)) (hr : r < B) : SlB B w1 k v xs := ⟨h.sl.kept hg (h.ab.ne hr), h.ab⟩
theorem CsB.kept {B r : Nat} {w w1 : World} {v : Value} {n : Nat} {cs : List Value} (h : CsB B w v n cs) (hg : w.grownBy w1 (some r)) (hr : r < B) : CsB B w1 v n cs := ⟨h.cs.keptO hg (h.ab.ne hr), h.ab⟩
theorem slb_of {B K m : Nat} {w : World} {k : IntKind} {t : TypeId} {xs : List Int} (h : RwAt w K t (xs.map (Value.int k)).toArray) (hK : B ≤ K) (hm : xs.length = m) : SlB B w k (.slice (some ⟨K, 0, none⟩) m m) xs := by
  subst hm
  exact ⟨SlAt.whole (c := xs.length) h.blk, fun g hg => (show K = g by simpa [Value.ownBlock] using hg) ▸ hK⟩
theorem csb_of {B K m : Nat} {w : World} {t : TypeId} {cs : List Value} (h : RwAt w K t cs.toArray) (hK : B ≤ K) : CsB B w (.slice (some ⟨K, 0, none⟩) m m) m cs := by
  refine ⟨.inr ⟨K, 0, m, rfl, Nat.le_refl _, h.lt, fun j u hu => ?_⟩, fun g hg => (show K = g by simpa [Value.ownBlock] using hg) ▸ hK⟩
  rw [Nat.zero_add]
  exact h.cell j (by simpa using hu)
structure OBn (w0 : World) (B S H G R b : Nat) : Prop where
  wR : R < w0.heap.size
  wb : b < w0.heap.size
  wS : w0.heap.size ≤ S
  wH : w0.heap.size ≤ H
  wG : w0.heap.size ≤ G
  SB : S < B
  HB : H < B
  GB : G < B
  SG : S ≠ G
  HG : H ≠ G
section
variable {w0 w w1 : World} {B S H G : Nat} {nn gc : Array Value} {R : Nat} {A : Nat → Addr} {b o c : Nat} {s : RS}
end
end Go.Proofs.YtbjijddpdefhpaaDoor
