/- Bytes that came in; bytes copied one by one; one byte more (package facaderef): contracts. -/
import Derived.Test.YtbjijddpdefhpaaDoorZGMem
import Derived.Test.YtbjijddpdefhpaaDoorZObjX
import Derived.Test.YtbjijddpdefhpaaDoorZObjH
import Derived.Laws.MakeOwn
namespace Go.Proofs.YtbjijddpdefhpaaDoor
open Go.RowKit Go.WideShapes Go.ChangeShapes
section
variable {H : Type} {enc : TypeId × Value → H} {W : World} {P : Program}
/-- a slice of bytes that came in -/
theorem bv_of {t e : TypeId} {base : Nat} {v : Value} {d : DataW H} {ps : List MemPlace} (ht : P.underlying t = some (.slice e)) (he : P.underlying e = some (.int .u8)) (hc : P.cellsOf e = 1)
    (hv : Value.okWide P W .any base t v) (h : DataW.Trod enc P W 0 (fun _ => true) true t v d ps) :
    ∃ xs : List Int, BvAt W v xs ∧ BtB xs := by
  obtain ⟨p, len, cap, rfl⟩ := okWide_slice ht hv
  obtain ⟨fuel, hf⟩ := h
  have hf : DataW.trod enc P W 0 (fun _ => true) true fuel t [.slice p len cap] = some (d, ps) := by simpa [Value.cells] using hf
  rcases open_ints ht he hc hf with ⟨hcs, hx⟩ | ⟨a, len', cap', zs, hcs, _, hl, hm, hz, hx, hcell, hw⟩
  · simp only [List.cons.injEq, Value.slice.injEq, and_true] at hcs
    obtain ⟨rfl, rfl, rfl⟩ := hcs
    exact ⟨[], .inl ⟨_, _, rfl, rfl⟩, fun x hx => by cases hx⟩
  · simp only [List.cons.injEq, Value.slice.injEq, and_true] at hcs
    obtain ⟨rfl, rfl, rfl⟩ := hcs
    simp only [if_true] at hz
    have hlen : (zs.take len).length = len := by simp; omega
    refine ⟨zs.take len, ?_, fun n hn => ?_⟩
    · by_cases h0 : len = 0
      · subst h0
        exact .inl ⟨_, _, rfl, by simp⟩
      · obtain ⟨b, off, spot⟩ := a
        have hspot : spot = none := by simpa [Addr.add] using World.cell?_spot (hcell 0 (by omega))
        subst hspot
        have h00 := hcell 0 (by omega)
        refine .inr ⟨b, off, cap, by rw [hlen], by rw [hlen]; exact hl, by unfold maxLen at hm; omega, World.block_lt_of_cell? W _ h00, fun j x hx => ?_⟩
        have hj : j < len := by have := (List.getElem?_eq_some_iff.1 hx).1; omega
        rw [List.getElem?_take, if_pos hj] at hx
        have := hcell j (by omega)
        rw [Addr.add_mid] at this
        rw [this]
        simp [List.getD, hx]
    · have := hw n (List.mem_of_mem_take hn)
      have h' := (Bool.and_eq_true _ _).mp this
      have h0 : 0 ≤ n := of_decide_eq_true h'.1
      have h1 : n ≤ 255 := of_decide_eq_true h'.2
      exact ⟨h0, by omega⟩
end
theorem BvAt.sl {w : World} {v : Value} {l : List Int} (h : BvAt w v l) : SlAt w .u8 v l := by
  rcases h with ⟨p, c, rfl, rfl⟩ | ⟨b, o, c, rfl, _, _, hb, hc⟩
  · exact .inl ⟨⟨_, _, rfl⟩, rfl⟩
  · exact .inr ⟨b, o, c, rfl, hb, hc⟩
theorem By.bv {B : Nat} {w : World} {v : Value} {bs : List Int} (h : By B w v bs) : BvAt w v bs := by
  have hs := SlAt.own h.own
  rcases h.own.2 with ⟨rfl, h0⟩ | ⟨g, cap, cur, rfl, hB, hblk, hnc, hcm, _, _⟩
  · obtain rfl := List.eq_nil_of_length_eq_zero h0
    exact .inl ⟨_, _, rfl, rfl⟩
  · rcases hs with ⟨⟨p, c, hv⟩, rfl⟩ | ⟨b, o, c, hv, hb, hc⟩
    · exact .inl ⟨_, _, hv, rfl⟩
    · simp only [Value.slice.injEq, Option.some.injEq, Addr.mk.injEq, and_true] at hv
      obtain ⟨⟨rfl, rfl⟩, _, rfl⟩ := hv
      exact .inr ⟨g, 0, cap, rfl, by simpa using hnc, by unfold maxLen at hcm; omega, hb, hc⟩
/-- the first k of them -/
theorem BvAt.cut {w : World} {b o c n : Nat} {l : List Int} (h : BvAt w (.slice (some ⟨b, o, none⟩) n c) l) {k : Nat} (hk : k ≤ l.length) : BvAt w (.slice (some ⟨b, o, none⟩) k c) (l.take k) := by
  have hlen : (l.take k).length = k := by simp; omega
  rcases h with ⟨p, c', hv, rfl⟩ | ⟨b', o', c', hv, h1, h2, hb, hc⟩
  · have : k = 0 := by simpa using hk
    subst this
    exact .inl ⟨_, _, rfl, by simp⟩
  · simp only [Value.slice.injEq, Option.some.injEq, Addr.mk.injEq, and_true] at hv
    obtain ⟨⟨rfl, rfl⟩, _, rfl⟩ := hv
    refine .inr ⟨b, o, c, by rw [hlen], by omega, h2, hb, fun j x hx => ?_⟩
    have hj : j < k := by have := (List.getElem?_eq_some_iff.1 hx).1; omega
    rw [List.getElem?_take, if_pos hj] at hx
    exact hc j x hx
structure RBy (w0 : World) (lv : Value) (xs : List Int) (v : Value) (k : Nat) (w : World) : Prop where
  by_ : By w0.heap.size w v (xs.take k)
  g : w0.grownBy w none
  sl : SlAt w .u8 lv xs
end Go.Proofs.YtbjijddpdefhpaaDoor
