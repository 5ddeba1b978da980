/- Items and bools as arguments; the law's own 'first', 'other': contracts. -/
import Derived.Test.YtmhkghkfpkekbaaRel7
import Derived.Test.YtmhkghkfpkekbaaRelA
import Derived.Deep.Slices
import Derived.ChangeArms
import Derived.Carry
import Derived.ChangeSlices
import Derived.WideKeyArgs
import Derived.Lib.SmallJoins
import Derived.OpenShut
namespace Go.Proofs.Ytmhkghkfpkekbaa
open Go.RowKit Go.WideShapes Go.ChangeShapes Go.Deep
section
variable {H : Type} {enc : TypeId × Value → H} {W : World}
theorem ritem_of {fuel : Nat} {cs : List Value} {x : DataW H × List MemPlace} (h : DataW.trod enc Try.prog W 0 (fun _ => true) true fuel 29 cs = some x) :
    ∃ d : RIt, cs = itC d := by
  have c1 : Try.prog.cellsOf 3 = 1 := by kernel_rfl
  have c3 : Try.prog.cellsOf 4 = 1 := by kernel_rfl
  have c4 : Try.prog.cellsOf 29 = 3 := by kernel_rfl
  obtain ⟨xs, n, _, _, hlen, hxl, hg⟩ := DataW.trod_struct Try.underlying29 h
  rw [c4] at hlen
  match cs, hlen, xs, hxl with
  | [v0, v1, v2], _, [y0, y1, y2], _ =>
    have g0 := hg 0 _ rfl
    have g1 := hg 1 _ rfl
    have g2 := hg 2 _ rfl
    simp [c1, c3] at g0 g1 g2
    obtain ⟨a0, e0, _, _⟩ := DataW.trod_int Try.underlying3 g0
    obtain ⟨a1, e1, _, _⟩ := DataW.trod_int Try.underlying3 g1
    obtain ⟨a2, e2, _⟩ := DataW.trod_bool Try.underlying4 g2
    simp only [List.cons.injEq, and_true] at e0 e1 e2
    subst e0; subst e1; subst e2
    exact ⟨⟨a0, a1, a2⟩, rfl⟩
theorem bool1_of {fuel : Nat} {cs : List Value} {x : DataW H × List MemPlace} (h : DataW.trod enc Try.prog W 0 (fun _ => true) true fuel 4 cs = some x) :
    ∃ d : Bool, cs = [.bool d] := by
  obtain ⟨a2, e2, _⟩ := DataW.trod_bool Try.underlying4 h
  exact ⟨a2, e2⟩
/-- a slice of structs that came in, opened by what opens one -/
theorem structs_of {α : Type} {t e : TypeId} {sz : Nat} (C : α → List Value) (CC : List α → List Value) (hCl : ∀ a, (C a).length = sz) (hsz : 0 < sz)
    (hCC : ∀ (l : List α) (j : Nat) (u : Value), (CC l)[j]? = some u → ∃ k i a, j = k * sz + i ∧ l[k]? = some a ∧ (C a)[i]? = some u)
    (ht : Try.prog.underlying t = some (.slice e)) (hc : Try.prog.cellsOf e = sz)
    (one : ∀ (fuel : Nat) (cs : List Value) (x : DataW H × List MemPlace), DataW.trod enc Try.prog W 0 (fun _ => true) true fuel e cs = some x → ∃ a, cs = C a)
    {base : Nat} {v : Value} {d : DataW H} {ps : List MemPlace} (hv : Value.okWide Try.prog W .any base t v) (h : DataW.Trod enc Try.prog W 0 (fun _ => true) true t v d ps) (hnil : CC [] = []) :
    ∃ l : List α, CsAt W v l.length (CC l) ∧ l.length ≤ maxLen := by
  obtain ⟨p, len, cap, rfl⟩ := okWide_slice ht hv
  obtain ⟨fuel, hf⟩ := h
  have hf' : DataW.trod enc Try.prog W 0 (fun _ => true) true fuel t [.slice p len cap] = some (d, ps) := by simpa [Value.cells] using hf
  rcases open_slice ht hf' with ⟨hcs, _⟩ | ⟨a, len', cap', m, n, D, Pl, hcs, _, hl, hm, hmm, _, hi⟩
  · simp at hcs
    obtain ⟨rfl, rfl, rfl⟩ := hcs
    exact ⟨[], .inl ⟨⟨_, _, rfl⟩, rfl, hnil⟩, by simp⟩
  · simp only [List.cons.injEq, Value.slice.injEq, and_true] at hcs
    obtain ⟨rfl, rfl, rfl⟩ := hcs
    simp only [if_true] at hmm
    by_cases h0 : len = 0
    · subst h0
      exact ⟨[], .inl ⟨⟨_, _, rfl⟩, rfl, hnil⟩, by simp⟩
    · obtain ⟨b, off, spot⟩ := a
      have hspot : spot = none := by
        obtain ⟨cs0, hc0, ht0⟩ := hi 0 (by omega)
        rw [hc] at hc0
        obtain ⟨_, hcl0, hat0⟩ := World.cells?_some hc0
        have h0 := (hat0 0 (by omega)).trans (List.getElem?_eq_getElem (by omega))
        simpa [Addr.add] using World.cell?_spot h0
      subst hspot
      have each : ∀ i, i < len → ∃ d : α, ∀ j c, (C d)[j]? = some c → W.cell? ⟨b, off + (i * sz + j), none⟩ = some c := by
        intro i hil
        obtain ⟨cs', hcc, htt⟩ := hi i (by omega)
        rw [hc] at hcc
        obtain ⟨dd, rfl⟩ := one _ _ _ htt
        obtain ⟨_, hcl, hat⟩ := World.cells?_some hcc
        refine ⟨dd, fun j c hj => ?_⟩
        have hj4 : j < sz := by have := (List.getElem?_eq_some_iff.1 hj).1; rw [hCl] at this; exact this
        have := hat j hj4
        rw [Addr.add_mid, Addr.add_mid, hj] at this
        rw [← this]
        congr 2
        omega
      have hblk : b < W.heap.size := by
        obtain ⟨d0, hd0⟩ := each 0 (by omega)
        have hl0 := hCl d0
        exact World.block_lt_of_cell? W _ (hd0 0 _ (List.getElem?_eq_getElem (by omega)))
      let l := List.ofFn (fun i : Fin len => Classical.choose (each i.1 i.2))
      have hlen : l.length = len := by simp [l]
      refine ⟨l, ?_, by rw [hlen]; omega⟩
      rw [hlen]
      refine .inr ⟨b, off, cap, rfl, hl, hblk, fun j u hu => ?_⟩
      obtain ⟨k, i, a, rfl, hk, hia⟩ := hCC l j u hu
      have hkl : k < len := by have := (List.getElem?_eq_some_iff.1 hk).1; rw [hlen] at this; exact this
      have he : a = Classical.choose (each k hkl) := by
        simp only [l, List.getElem?_ofFn, hkl, dif_pos] at hk
        exact (Option.some.inj hk).symm
      subst he
      exact Classical.choose_spec (each k hkl) i u hia
theorem itsC_at : ∀ (l : List RIt) (j : Nat) (u : Value), (itsC l)[j]? = some u → ∃ k i a, j = k * 3 + i ∧ l[k]? = some a ∧ (itC a)[i]? = some u
  | [], _, _, h => by simp [itsC] at h
  | x :: l, j, u, h => by
    by_cases hj : j < 3
    · rw [itsC, List.getElem?_append_left (by simpa [itC] using hj)] at h
      exact ⟨0, j, x, by omega, rfl, h⟩
    · rw [itsC, List.getElem?_append_right (by simp [itC]; omega)] at h
      obtain ⟨k, i, a, e, h1, h2⟩ := itsC_at l _ u h
      refine ⟨k + 1, i, a, ?_, by simpa using h1, h2⟩
      simp [itC] at e
      omega
theorem items_of {base : Nat} {v : Value} {d : DataW H} {ps : List MemPlace} (hv : Value.okWide Try.prog W .any base 22 v) (h : DataW.Trod enc Try.prog W 0 (fun _ => true) true 22 v d ps) :
    ∃ l : List RIt, RiAt W v l ∧ l.length ≤ maxLen :=
  structs_of itC itsC (fun _ => rfl) (by decide) itsC_at Try.underlying22 (by kernel_rfl) (fun _ _ _ h => ritem_of h) hv h rfl
theorem bls_of {base : Nat} {v : Value} {d : DataW H} {ps : List MemPlace} (hv : Value.okWide Try.prog W .any base 24 v) (h : DataW.Trod enc Try.prog W 0 (fun _ => true) true 24 v d ps) :
    ∃ l : List Bool, BlAt W v l ∧ l.length ≤ maxLen :=
  structs_of (fun b => [.bool b]) (fun l => l.map Value.bool) (fun _ => rfl) (by decide) (fun l j u hu => by
    rw [List.getElem?_map, Option.map_eq_some_iff] at hu
    obtain ⟨a, ha, rfl⟩ := hu
    exact ⟨j, 0, a, by simp, ha, rfl⟩) Try.underlying24 (by kernel_rfl) (fun _ _ _ h => bool1_of h) hv h rfl
end
theorem first12_rnd : RndR [⟨1, 0, true⟩] 0 := ⟨by decide, fun i hi => absurd hi (Nat.not_lt_zero i)⟩
set_option maxRecDepth 100000 in
theorem first12_any (W : World) : Calls Try.prog 9 #[] W fun e w' => e = .returned (.bool true) ∧ W.grownBy w' none := by
  have HD := hid (do_yesR (W := W.alloc (.cells #[.int .i64 1, .int .i64 0, .bool true] 29)) (v := .slice (some ⟨W.heap.size, 0, none⟩) 1 1) (L := [⟨1, 0, true⟩]) (K := 0) (.inr ⟨W.heap.size, 0, 1, rfl, Nat.le_refl _, by simp, fun j u hu => by
    rw [Nat.zero_add, cell_of_row _ _ j _ _ _ (heap_alloc_last W _)]
    simpa [itsC, itC] using hu⟩) (by decide) first12_rnd)
  have HG := hid (World.grownBy_alloc W (.cells #[.int .i64 1, .int .i64 0, .bool true] 29) none)
  go_enter Try.func9, Try.ntmps9
  go_wp2_with fail
  refine HD.out.mono ?_
  rintro e w2 ⟨g, rfl, hown, hg⟩
  have HG2 := hid (grown_trans HG.out hg)
  have c0 := hown.cellAt 0 (by decide)
  rw [show ((itR [⟨1, 0, true⟩] 0).map Value.bool)[0]? = some (.bool false) from rfl] at c0
  clear hg hown
  go_wp2
  go_ret
  exact ⟨rfl, HG2.out⟩
end Go.Proofs.Ytmhkghkfpkekbaa
