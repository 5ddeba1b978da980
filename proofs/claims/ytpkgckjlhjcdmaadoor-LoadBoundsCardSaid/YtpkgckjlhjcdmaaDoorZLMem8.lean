/- facadelaw8's memory: both memories with these words: a contract. -/
import Derived.Test.YtpkgckjlhjcdmaaDoorZMem8P
import Derived.Test.YtpkgckjlhjcdmaaDoorZGMem
import Derived.Test.YtpkgckjlhjcdmaaDoorZRWalk1
import Derived.Test.YtpkgckjlhjcdmaaDoorZGAluA
import Derived.Test.YtpkgckjlhjcdmaaDoorZGMap
import Derived.LoopTactic
import Derived.Deep.Cut
import Derived.BigGuardPart
namespace Go.Proofs.YtpkgckjlhjcdmaaDoor
open Go.RowKit
theorem bit8_yes {f : Int} (h0 : 0 ≤ f) (h1 : f < 1024) (w u : Bool) : bitB f true w u = true := by unfold bitB; simp; omega
/-- both memories, and the cells that name them -/
structure LM (W : World) (g h m b m' b' n : Nat) (xs : List Int) (w : World) : Prop where
  mem : MemAt w m b n n xs
  ref : RefAt w m' b' (n * 16) xs
  cg : w.heap[g]? = some (.cells #[.pointer (some ⟨m, 0, none⟩)] 79 (0, 0))
  ch : w.heap[h]? = some (.cells #[.pointer (some ⟨m', 0, none⟩)] 81 (0, 0))
  old : W.grownBy w none
  om : W.heap.size ≤ m
  ob : W.heap.size ≤ b
  ob' : W.heap.size ≤ b'
section
variable {W w w1 : World} {g h m b m' b' n : Nat} {xs : List Int}
theorem blk_ne8 {w : World} {a b : Nat} {c1 c2 : Array Value} {t1 t2 : TypeId} {f1 f2 : Nat × Nat} (h1 : w.heap[a]? = some (.cells c1 t1 f1)) (h2 : w.heap[b]? = some (.cells c2 t2 f2)) (hne : t1 ≠ t2) : a ≠ b := by
  rintro rfl
  rw [h1] at h2
  simp at h2
  exact hne h2.2.1
theorem LM.keep (L : LM W g h m b m' b' n xs w) (hg : w.grownBy w1 none) : LM W g h m b m' b' n xs w1 :=
  ⟨L.mem.kept0 hg, L.ref.kept0 hg, (hg.block _ (Array.getElem?_eq_some_iff.1 L.cg).1 (by simp)).trans L.cg, (hg.block _ (Array.getElem?_eq_some_iff.1 L.ch).1 (by simp)).trans L.ch, grown_trans L.old hg, L.om, L.ob, L.ob'⟩
theorem LM.glt (L : LM W g h m b m' b' n xs w) : g < w.heap.size ∧ h < w.heap.size := ⟨(Array.getElem?_eq_some_iff.1 L.cg).1, (Array.getElem?_eq_some_iff.1 L.ch).1⟩
theorem LM.gc (L : LM W g h m b m' b' n xs w) : w.cell? ⟨g, 0, none⟩ = some (.pointer (some ⟨m, 0, none⟩)) := by rw [cell_of_row w g 0 _ _ _ L.cg]; rfl
theorem LM.hc (L : LM W g h m b m' b' n xs w) : w.cell? ⟨h, 0, none⟩ = some (.pointer (some ⟨m', 0, none⟩)) := by rw [cell_of_row w h 0 _ _ _ L.ch]; rfl
theorem LM.ne (L : LM W g h m b m' b' n xs w) : m ≠ b' ∧ b ≠ b' ∧ m' ≠ b ∧ g ≠ b ∧ g ≠ b' ∧ h ≠ b ∧ h ≠ b' := by
  obtain ⟨cur, hb, _⟩ := L.mem.hb
  exact ⟨blk_ne8 L.mem.hm L.ref.hb (by decide), blk_ne8 hb L.ref.hb (by decide), blk_ne8 L.ref.hm hb (by decide), blk_ne8 L.cg hb (by decide), blk_ne8 L.cg L.ref.hb (by decide), blk_ne8 L.ch hb (by decide), blk_ne8 L.ch L.ref.hb (by decide)⟩
/-- behind 'put' -/
def Put8 (W : World) (g h m b m' b' n : Nat) (xs : List Int) (e : Ending) (w' : World) : Prop := e = .returned (.tuple #[]) ∧ LM W g h m b m' b' n xs w'
end
/-- what memory answers -/
def Memory8At (W : World) (n : Nat) (xs : List Int) (e : Ending) (w' : World) : Prop :=
  ∃ m b m' b', e = .returned (.tuple #[.pointer (some ⟨m, 0, none⟩), .pointer (some ⟨m', 0, none⟩)]) ∧ W.heap.size ≤ m ∧ W.heap.size ≤ b ∧ W.heap.size ≤ b' ∧ MemAt w' m b n n xs ∧ RefAt w' m' b' (n * 16) xs ∧ W.grownBy w' none
end Go.Proofs.YtpkgckjlhjcdmaaDoor
