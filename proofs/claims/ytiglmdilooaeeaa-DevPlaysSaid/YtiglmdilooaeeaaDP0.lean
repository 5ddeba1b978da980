/- What holds while devices are told things (for DevPlays). -/
import Derived.Test.YtiglmdilooaeeaaRDev2
namespace Go.Proofs.Ytiglmdilooaeeaa
open Go.RowKit
/-- the timer and the document's timer -/
structure TRel (x : DvS) (on : Bool) (T : Int) : Prop where
  on_ : on = decide (0 < x.af)
  time : 0 < x.af → T = x.fr + x.af
  f0 : 0 ≤ x.fr
  f1 : x.fr ≤ 1125899906842624
  a0 : 0 ≤ x.af
  a1 : x.af ≤ 4294967295
theorem TRel.due {x : DvS} {on : Bool} {T : Int} (h : TRel x on T) (now : Int) : (on && decide (T ≤ now)) = dueB x.fr x.af now := by
  rw [h.on_]
  unfold dueB
  have := h.a0
  have := h.f0
  by_cases h0 : 0 < x.af
  · rw [h.time h0]
    simp only [h0, decide_true, Bool.true_and]
    apply decide_eq_decide.2
    omega
  · simp only [h0, decide_false, Bool.false_and]
    symm
    rw [decide_eq_false_iff_not]
    omega
theorem Apart.rmine {w : World} {b : Nat} {vw vs vw' vs' : Value} {R : List Nat} (h : Apart (rfoot b vw vs) R) (m1 : Mine w vw vw') (m2 : Mine w vs vs') (hR : ∀ i ∈ R, i < w.heap.size) : Apart (rfoot b vw' vs') R := by
  intro i hi hi2
  rcases mem_rfoot.1 hi with rfl | hi | hi
  · exact h _ (mem_rfoot.2 (.inl rfl)) hi2
  · rcases m1 with hm | hm
    · exact h i (mem_rfoot.2 (.inr (.inl (hm.symm.trans hi)))) hi2
    · have := hm i hi; have := hR i hi2; omega
  · rcases m2 with hm | hm
    · exact h i (mem_rfoot.2 (.inr (.inr (hm.symm.trans hi)))) hi2
    · have := hm i hi; have := hR i hi2; omega
/-- the copy, what it showed, and the block of the thing at hand: none of it is written -/
structure Old (w : World) (B a c : Nat) (xc : DvS) (vc u : Value) (cs : Array Value) : Prop where
  cp : DevAt w B c xc vc
  was : w.ownsRow B 43 3 u xc.sn.length (snCells xc.sn)
  blk : w.heap[a]? = some (.cells cs 54 (0, 0))
def ofoot (a c : Nat) (vc u : Value) : List Nat := a :: (foot c vc ++ u.ownBlock.toList)
theorem mem_ofoot {a c i : Nat} {vc u : Value} : i ∈ ofoot a c vc u ↔ i = a ∨ i ∈ foot c vc ∨ u.ownBlock = some i := by
  unfold ofoot
  rw [List.mem_cons, List.mem_append, Option.mem_toList]
section
variable {w w1 : World} {B a c : Nat} {xc : DvS} {vc u : Value} {cs : Array Value} {R : List Nat}
theorem Old.keptL (h : Old w B a c xc vc u cs) (hg : Lv w w1 R) (hr : ∀ i ∈ ofoot a c vc u, i ∉ R) : Old w1 B a c xc vc u cs :=
  ⟨h.cp.keptL hg (fun i hi => hr i (mem_ofoot.2 (.inr (.inl hi)))), own_keptL h.was hg (fun g hgv => hr g (mem_ofoot.2 (.inr (.inr hgv)))),
    (hg.block a (Array.getElem?_eq_some_iff.1 h.blk).1 (hr a (mem_ofoot.2 (.inl rfl)))).trans h.blk⟩
theorem Old.kept0 (h : Old w B a c xc vc u cs) (hg : w.grownBy w1 none) : Old w1 B a c xc vc u cs := h.keptL (Lv.of_none hg []) (by simp)
theorem Old.foot_lt (h : Old w B a c xc vc u cs) : ∀ i ∈ ofoot a c vc u, i < w.heap.size := by
  intro i hi
  rcases mem_ofoot.1 hi with rfl | hi | hi
  · exact (Array.getElem?_eq_some_iff.1 h.blk).1
  · exact h.cp.foot_lt i hi
  · exact (h.was.lt i hi).2
end
/-- devices and the document's, what is old, and the world -/
structure PR (w wr : World) (d b a c : Nat) (xc : DvS) (vc u : Value) (cs : Array Value) (x : DvS) (Q S : List Int) (sn : List Sn) (on : Bool) (T : Int) (vd vw vs : Value) : Prop where
  dev : DevAt wr w.heap.size d x vd
  ref : RAt wr w.heap.size b Q S sn on T vw vs
  old : Old wr w.heap.size a c xc vc u cs
  ap : Apart (foot d vd) (rfoot b vw vs)
  ad : Apart (foot d vd) (ofoot a c vc u)
  ar : Apart (rfoot b vw vs) (ofoot a c vc u)
  grown : w.grownBy wr none
section
variable {w wr w1 : World} {d b a c : Nat} {xc : DvS} {vc u : Value} {cs : Array Value} {x x1 : DvS} {Q S Q1 S1 : List Int} {sn sn1 : List Sn} {on on1 : Bool} {T T1 : Int} {vd vw vs vd1 vw1 vs1 : Value}
theorem PR.dturn (h : PR w wr d b a c xc vc u cs x Q S sn on T vd vw vs) (ht : Turned wr w.heap.size d vd x1 w1 vd1) : PR w w1 d b a c xc vc u cs x1 Q S sn on T vd1 vw vs :=
  ⟨ht.at_, h.ref.keptL ht.lv h.ap.symm, h.old.keptL ht.lv h.ad.symm, h.ap.mine ht.mine h.ref.foot_lt, h.ad.mine ht.mine h.old.foot_lt, h.ar, turned_old h.grown h.dev ht⟩
theorem PR.rturn (h : PR w wr d b a c xc vc u cs x Q S sn on T vd vw vs) (ht : RTurned wr w.heap.size b vw vs Q1 S1 sn1 on1 T1 w1 vw1 vs1) : PR w w1 d b a c xc vc u cs x Q1 S1 sn1 on1 T1 vd vw1 vs1 :=
  ⟨h.dev.keptL ht.lv h.ap, ht.at_, h.old.keptL ht.lv h.ar.symm, (h.ap.symm.rmine ht.m1 ht.m2 h.dev.foot_lt).symm, h.ad, h.ar.rmine ht.m1 ht.m2 h.old.foot_lt, rturned_old h.grown h.ref ht⟩
theorem PR.kept0 (h : PR w wr d b a c xc vc u cs x Q S sn on T vd vw vs) (hg : wr.grownBy w1 none) : PR w w1 d b a c xc vc u cs x Q S sn on T vd vw vs :=
  ⟨h.dev.kept0 hg, h.ref.kept0 hg, h.old.kept0 hg, h.ap, h.ad, h.ar, grown_trans h.grown hg⟩
theorem PR.cell (h : PR w wr d b a c xc vc u cs x Q S sn on T vd vw vs) (k : Nat) : wr.cell? ⟨a, k, none⟩ = cs[k]? := cell_of_row wr a k _ _ _ h.old.blk
theorem PR.alt (h : PR w wr d b a c xc vc u cs x Q S sn on T vd vw vs) : a < wr.heap.size := (Array.getElem?_eq_some_iff.1 h.old.blk).1
/-- where a call turned devices, the thing at hand is as it was -/
theorem PR.dcell (h : PR w wr d b a c xc vc u cs x Q S sn on T vd vw vs) (ht : Turned wr w.heap.size d vd x1 w1 vd1) (k : Nat) : w1.cell? ⟨a, k, none⟩ = wr.cell? ⟨a, k, none⟩ :=
  ht.lv.cell h.alt (h.ad.symm a (mem_ofoot.2 (.inl rfl)))
theorem PR.rcell (h : PR w wr d b a c xc vc u cs x Q S sn on T vd vw vs) (ht : RTurned wr w.heap.size b vw vs Q1 S1 sn1 on1 T1 w1 vw1 vs1) (k : Nat) : w1.cell? ⟨a, k, none⟩ = wr.cell? ⟨a, k, none⟩ :=
  ht.lv.cell h.alt (h.ar.symm a (mem_ofoot.2 (.inl rfl)))
end
end Go.Proofs.Ytiglmdilooaeeaa
