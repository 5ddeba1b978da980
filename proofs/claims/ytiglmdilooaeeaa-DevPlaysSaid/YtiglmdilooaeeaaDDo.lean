/- What devices are told (facadelaw5.Do), as an argument. -/
import Derived.Test.YtiglmdilooaeeaaDev7
import Derived.Deep.Slices
import Derived.ChangeArms
import Derived.Carry
import Derived.ChangeSlices
import Derived.WideKeyArgs
import Derived.Lib.SmallJoins
import Derived.OpenShut
namespace Go.Proofs.Ytiglmdilooaeeaa
open Go.RowKit Go.WideShapes Go.ChangeShapes Go.Deep
/-- one thing -/
structure Do where
  kind : Int
  n : Int
  v : Int
  w : Int
/-- the cells of a thing -/
def Do.cells (d : Do) : List Value := [.int .i64 d.kind, .int .i64 d.n, .int .u32 d.v, .int .u32 d.w]
def Do.fits (d : Do) : Prop := (0 ≤ d.v ∧ d.v ≤ 4294967295) ∧ 0 ≤ d.w ∧ d.w ≤ 4294967295
/-- a slice that reads as these things -/
structure DosAt (w : World) (p : Option Addr) (N : Nat) (ds : List Do) : Prop where
  len : ds.length = N
  cell : ∀ j d, ds[j]? = some d → ∃ b o, p = some ⟨b, o, none⟩ ∧ b < w.heap.size ∧ ∀ i c, d.cells[i]? = some c → w.cell? ⟨b, o + (j * 4 + i), none⟩ = some c
  wide : ∀ d ∈ ds, d.fits
section
variable {H : Type} {enc : TypeId × Value → H} {W : World}
/-- one thing opened -/
theorem do_of {fuel : Nat} {cs : List Value} {x : DataW H × List MemPlace} (h : DataW.trod enc Try.prog W 0 (fun _ => true) true fuel 54 cs = some x) :
    ∃ d : Do, cs = d.cells ∧ d.fits := by
  have c1 : Try.prog.cellsOf 3 = 1 := by kernel_rfl
  have c2 : Try.prog.cellsOf 2 = 1 := by kernel_rfl
  have c3 : Try.prog.cellsOf 23 = 1 := by kernel_rfl
  have c4 : Try.prog.cellsOf 54 = 4 := by kernel_rfl
  obtain ⟨xs, n, _, _, hlen, hxl, hg⟩ := DataW.trod_struct Try.underlying54 h
  rw [c4] at hlen
  match cs, hlen, xs, hxl with
  | [v0, v1, v2, v3], _, [y0, y1, y2, y3], _ =>
    have g0 := hg 0 _ rfl
    have g1 := hg 1 _ rfl
    have g2 := hg 2 _ rfl
    have g3 := hg 3 _ rfl
    simp [c1, c2, c3] at g0 g1 g2 g3
    obtain ⟨a0, e0, _, _⟩ := DataW.trod_int Try.underlying3 g0
    obtain ⟨a1, e1, _, _⟩ := DataW.trod_int Try.underlying2 g1
    obtain ⟨a2, e2, _, w2⟩ := DataW.trod_int Try.underlying23 g2
    obtain ⟨a3, e3, _, w3⟩ := DataW.trod_int Try.underlying23 g3
    simp only [List.cons.injEq, and_true] at e0 e1 e2 e3
    subst e0; subst e1; subst e2; subst e3
    exact ⟨⟨a0, a1, a2, a3⟩, rfl, u32_bd w2, u32_bd w3⟩
/-- the slice of things -/
theorem dos_of {base : Nat} {v : Value} {d : DataW H} {ps : List MemPlace} (hv : Value.okWide Try.prog W .any base 49 v) (h : DataW.Trod enc Try.prog W 0 (fun _ => true) true 49 v d ps) :
    ∃ p N c ds, v = .slice p N c ∧ DosAt W p N ds ∧ N ≤ maxLen := by
  have c47 : Try.prog.cellsOf 54 = 4 := by kernel_rfl
  obtain ⟨p, len, cap, rfl⟩ := okWide_slice Try.underlying49 hv
  obtain ⟨fuel, hf⟩ := h
  have hf' : DataW.trod enc Try.prog W 0 (fun _ => true) true fuel 49 [.slice p len cap] = some (d, ps) := by simpa [Value.cells] using hf
  rcases open_slice Try.underlying49 hf' with ⟨hcs, _⟩ | ⟨a, len', cap', m, n, D, Pl, hcs, _, hl, hm, hmm, _, hi⟩
  · simp at hcs
    obtain ⟨rfl, rfl, rfl⟩ := hcs
    exact ⟨none, 0, 0, [], rfl, ⟨rfl, by simp, by simp⟩, by simp⟩
  · simp only [List.cons.injEq, Value.slice.injEq, and_true] at hcs
    obtain ⟨rfl, rfl, rfl⟩ := hcs
    simp only [if_true] at hmm
    have each : ∀ i, i < len → ∃ d : Do, (∃ b o, a = ⟨b, o, none⟩ ∧ b < W.heap.size ∧ ∀ j c, d.cells[j]? = some c → W.cell? ⟨b, o + (i * 4 + j), none⟩ = some c) ∧ d.fits := by
      intro i hil
      obtain ⟨cs', hc, ht⟩ := hi i (by omega)
      rw [c47] at hc
      obtain ⟨dd, rfl, hs⟩ := do_of ht
      obtain ⟨_, hcl, hat⟩ := World.cells?_some hc
      refine ⟨dd, ?_, hs⟩
      obtain ⟨b, off, spot⟩ := a
      have h00 : W.cell? (((⟨b, off, spot⟩ : Addr).add (i * 4)).add 0) = some (.int .i64 dd.kind) := by rw [hat 0 (by omega)]; rfl
      have hspot : spot = none := by
        obtain ⟨cs0, hc0, ht0⟩ := hi 0 (by omega)
        rw [c47] at hc0
        obtain ⟨_, hcl0, hat0⟩ := World.cells?_some hc0
        have h0 := (hat0 0 (by omega)).trans (List.getElem?_eq_getElem (by omega))
        simpa [Addr.add] using World.cell?_spot h0
      subst hspot
      rw [Addr.add_mid, Addr.add_mid] at h00
      refine ⟨b, off, rfl, World.block_lt_of_cell? W _ h00, fun j c hj => ?_⟩
      have hj4 : j < 4 := by have := (List.getElem?_eq_some_iff.1 hj).1; simpa [Do.cells] using this
      have := hat j hj4
      rw [Addr.add_mid, Addr.add_mid, hj] at this
      rw [← this]
      congr 2
      omega
    refine ⟨some a, len, cap, List.ofFn (fun i : Fin len => Classical.choose (each i.1 i.2)), rfl, ⟨by simp, fun j d hd => ?_, fun d hd => ?_⟩, by omega⟩
    · rw [List.getElem?_ofFn] at hd
      split at hd
      · rename_i hj
        have := Option.some.inj hd
        subst this
        obtain ⟨⟨b, o, ha, hb, hc⟩, _⟩ := Classical.choose_spec (each j hj)
        exact ⟨b, o, by rw [ha], hb, hc⟩
      · cases hd
    · obtain ⟨i, rfl⟩ := List.mem_ofFn.1 hd
      exact (Classical.choose_spec (each i.1 i.2)).2
end
end Go.Proofs.Ytiglmdilooaeeaa
