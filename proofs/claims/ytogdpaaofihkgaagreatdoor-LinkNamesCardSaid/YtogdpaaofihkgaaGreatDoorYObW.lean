/- Objects of a law's own, in a slice that grows; their rows are the law's own, too. -/
import Derived.Test.YtogdpaaofihkgaaGreatDoorYLxW
import Derived.Test.YtogdpaaofihkgaaGreatDoorYLnk17
import Derived.Test.YtogdpaaofihkgaaGreatDoorYMkX
import Derived.Test.YtogdpaaofihkgaaGreatDoorYLnk13
import Derived.Test.YtogdpaaofihkgaaGreatDoorYRvB
import Derived.Test.YtogdpaaofihkgaaGreatDoorYBase
namespace Go.Proofs.YtogdpaaofihkgaaGreatDoor
open Go.RowKit
/-- rows of unlike types lie in unlike blocks -/
theorem own_diff {w : World} {B B' z z' n n' : Nat} {e e' : TypeId} {v v' : Value} {xs xs' : List Value} (h : w.ownsRow B e z v n xs) (h' : w.ownsRow B' e' z' v' n' xs') (he : e ≠ e') : v.ownBlock = none ∨ v.ownBlock ≠ v'.ownBlock := by
  rcases h.2 with ⟨rfl, _⟩ | ⟨g, cap, cur, rfl, _, hb, _⟩
  · exact .inl rfl
  · refine .inr ?_
    rcases h'.2 with ⟨rfl, _⟩ | ⟨g', cap', cur', rfl, _, hb', _⟩
    · intro h; cases h
    · intro hh
      have hgg : g = g' := Option.some.inj hh
      subst hgg
      rw [hb] at hb'
      simp only [Option.some.injEq, Obj.cells.injEq] at hb'
      exact he hb'.2.1
theorem OwnO.keptBy {B B' n : Nat} {w w1 : World} {V : OV} {x : PO} {v : Value} {xs : List Value} (h : OwnO B w V x) (hv : w.ownsRow B' 39 6 v n xs) (hg : w.grownBy w1 v.ownBlock) : OwnO B w1 V x :=
  ⟨h.d.kept hg (own_diff h.d hv (by decide)), h.c.kept hg (own_diff h.c hv (by decide)), h.m.kept hg (own_diff h.m hv (by decide)), h.r.kept hg (own_diff h.r hv (by decide)), h.q.kept hg (own_diff h.q hv (by decide)), h.s.kept hg (own_diff h.s hv (by decide)), h.ap⟩
theorem OwnO.baseW {B B' : Nat} {w : World} {V : OV} {x : PO} (h : OwnO B w V x) (hB : B' ≤ B) : OwnO B' w V x := ⟨own_base h.d hB, own_base h.c hB, own_base h.m hB, own_base h.r hB, own_base h.q hB, own_base h.s hB, h.ap⟩
structure ObW (w0 w : World) (v : Value) (L : List Ob) : Prop where
  own : w.ownsRow w0.heap.size 39 6 v L.length (csL obC L)
  each : ∀ o ∈ L, OwnO w0.heap.size w o.V o.x
  g : w0.grownBy w none
section
variable {w0 w w1 : World} {v : Value} {L : List Ob}
theorem ObW.start (w : World) : ObW w w (.slice none 0 0) [] := ⟨World.ownsRow_nil _ _ _ _, fun _ h => (List.not_mem_nil h).elim, grown_refl _ _⟩
theorem ObW.kept0 (h : ObW w0 w v L) (hg : w.grownBy w1 none) : ObW w0 w1 v L := ⟨own_keep0 h.own hg, fun o ho => (h.each o ho).kept0 hg, grown_trans h.g hg⟩
theorem ObW.at_ (h : ObW w0 w v L) : ObsAt w v L := ⟨CsAt.own h.own, fun o ho => (h.each o ho).at_⟩
theorem ObW.len (h : ObW w0 w v L) : ∃ p c, v = .slice p L.length c := own_slice h.own
theorem ObW.add (h : ObW w0 w v L) {v' : Value} (ms : List Ob) (ho : ∀ o ∈ ms, OwnO w0.heap.size w o.V o.x) (hr : w1.ownsRow w0.heap.size 39 6 v' (L.length + ms.length) (csL obC L ++ csL obC ms)) (hg : w.grownBy w1 v.ownBlock) : ObW w0 w1 v' (L ++ ms) := by
  refine ⟨?_, ?_, grown_new' (grown_trans (grown_none h.g) hg) (fun j hj => (h.own.lt j hj).1)⟩
  · rw [List.length_append, csL_append]
    exact hr
  · intro o hm
    rcases List.mem_append.1 hm with hm | hm
    · exact (h.each o hm).keptBy h.own hg
    · exact (ho o hm).keptBy h.own hg
theorem info_obx : ∃ i : TypeInfo, Tryz.prog.info? 39 = some i ∧ i.zero = some (.agg #[.slice none 0 0, .slice none 0 0, .slice none 0 0, .slice none 0 0, .slice none 0 0, .slice none 0 0]) ∧ i.size = 6 ∧ i.bytes = 144 := info_parts (P := Tryz.prog) (e := 39) (z := .agg #[.slice none 0 0, .slice none 0 0, .slice none 0 0, .slice none 0 0, .slice none 0 0, .slice none 0 0]) (size := 6) (bytes := 144) (by kernel_rfl)
end
end Go.Proofs.YtogdpaaofihkgaaGreatDoor
