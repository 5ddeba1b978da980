/- The law MemPlays: its arguments opened; what the listed variables hold. -/
import Derived.Test.YtepgnnnkhjnbjaaDoorMPlays2
import Derived.Deep.Slices
import Derived.ChangeArms
namespace Go.Proofs.YtepgnnnkhjnbjaaDoor
open Go.RowKit Go.WideShapes Go.ChangeShapes Go.Deep
section
variable {H : Type} {enc : TypeId × Value → H} {W : World}
theorem slat_any {t e : TypeId} {k : IntKind} {fuel : Nat} {cs : List Value} {x : DataW H × List MemPlace} (ht : Tryd.prog.underlying t = some (.slice e)) (he : Tryd.prog.underlying e = some (.int k)) (hc : Tryd.prog.cellsOf e = 1)
    (h : DataW.trod enc Tryd.prog W 0 (fun _ => true) true fuel t cs = some x) : ∃ v xs, cs = [v] ∧ SlAt W k v xs := by
  have h0 := h
  rcases open_ints ht he hc h with ⟨rfl, _⟩ | ⟨a, len, cap, zs, rfl, _⟩
  · obtain ⟨xs, hs, _⟩ := slat_of_cells ht he hc h0
    exact ⟨_, xs, rfl, hs⟩
  · obtain ⟨xs, hs, _⟩ := slat_of_cells ht he hc h0
    exact ⟨_, xs, rfl, hs⟩
/-- one thing opened -/
theorem do_of {fuel : Nat} {cs : List Value} {x : DataW H × List MemPlace} (h : DataW.trod enc Tryd.prog W 0 (fun _ => true) true fuel 47 cs = some x) :
    ∃ d : Do, cs = d.cells ∧ SlAt W .u32 d.v d.l ∧ -9223372036854775808 ≤ d.n ∧ d.n ≤ 9223372036854775807 := by
  have c3 : Tryd.prog.cellsOf 3 = 1 := by kernel_rfl
  have c23 : Tryd.prog.cellsOf 23 = 1 := by kernel_rfl
  have c33 : Tryd.prog.cellsOf 33 = 1 := by kernel_rfl
  have c47 : Tryd.prog.cellsOf 47 = 4 := by kernel_rfl
  obtain ⟨xs, n, _, _, hlen, hxl, hg⟩ := DataW.trod_struct Tryd.underlying47 h
  rw [c47] at hlen
  match cs, hlen, xs, hxl with
  | [v0, v1, v2, v3], _, [y0, y1, y2, y3], _ =>
    have g0 := hg 0 _ rfl
    have g1 := hg 1 _ rfl
    have g2 := hg 2 _ rfl
    have g3 := hg 3 _ rfl
    simp [c3, c23, c33] at g0 g1 g2 g3
    obtain ⟨a0, e0, _, _⟩ := DataW.trod_int Tryd.underlying3 g0
    obtain ⟨a1, e1, _, w1⟩ := DataW.trod_int Tryd.underlying3 g1
    obtain ⟨a2, e2, _, _⟩ := DataW.trod_int Tryd.underlying23 g2
    obtain ⟨v, ls, e3, hs⟩ := slat_any Tryd.underlying33 Tryd.underlying23 c23 g3
    simp only [List.cons.injEq, and_true] at e0 e1 e2 e3
    subst e0; subst e1; subst e2; subst e3
    exact ⟨⟨a0, a1, a2, v3, ls⟩, rfl, hs, (i64_bd w1).1, (i64_bd w1).2⟩
/-- the slice of things -/
theorem dos_of {base : Nat} {v : Value} {d : DataW H} {ps : List MemPlace} (hv : Value.okWide Tryd.prog W .any base 42 v) (h : DataW.Trod enc Tryd.prog W 0 (fun _ => true) true 42 v d ps) :
    ∃ p N c ds, v = .slice p N c ∧ DosAt W p N ds ∧ N ≤ maxLen := by
  have c47 : Tryd.prog.cellsOf 47 = 4 := by kernel_rfl
  obtain ⟨p, len, cap, rfl⟩ := okWide_slice Tryd.underlying42 hv
  obtain ⟨fuel, hf⟩ := h
  have hf' : DataW.trod enc Tryd.prog W 0 (fun _ => true) true fuel 42 [.slice p len cap] = some (d, ps) := by simpa [Value.cells] using hf
  rcases open_slice Tryd.underlying42 hf' with ⟨hcs, _⟩ | ⟨a, len', cap', m, n, D, Pl, hcs, _, hl, hm, hmm, _, hi⟩
  · simp at hcs
    obtain ⟨rfl, rfl, rfl⟩ := hcs
    exact ⟨none, 0, 0, [], rfl, ⟨rfl, by simp, by simp, by simp⟩, by simp⟩
  · simp only [List.cons.injEq, Value.slice.injEq, and_true] at hcs
    obtain ⟨rfl, rfl, rfl⟩ := hcs
    simp only [if_true] at hmm
    have each : ∀ i, i < len → ∃ d : Do, (∃ b o, a = ⟨b, o, none⟩ ∧ b < W.heap.size ∧ ∀ j c, d.cells[j]? = some c → W.cell? ⟨b, o + (i * 4 + j), none⟩ = some c) ∧ SlAt W .u32 d.v d.l ∧ -9223372036854775808 ≤ d.n ∧ d.n ≤ 9223372036854775807 := by
      intro i hil
      obtain ⟨cs', hc, ht⟩ := hi i (by omega)
      rw [c47] at hc
      obtain ⟨dd, rfl, hs, h1, h2⟩ := do_of ht
      obtain ⟨_, hcl, hat⟩ := World.cells?_some hc
      refine ⟨dd, ?_, hs, h1, h2⟩
      obtain ⟨b, off, spot⟩ := a
      have h00 : W.cell? (((⟨b, off, spot⟩ : Addr).add (i * 4)).add 0) = some (.int .i64 dd.kind) := by rw [hat 0 (by omega)]; rfl
      have hspot : spot = none := by
        obtain ⟨cs0, hc0, ht0⟩ := hi 0 (by omega)
        rw [c47] at hc0
        obtain ⟨_, hcl0, hat0⟩ := World.cells?_some hc0
        have h0 := (hat0 0 (by omega)).trans (List.getElem?_eq_getElem (by omega))
        simpa [Addr.add] using World.cell?_spot h0
      subst hspot
      rw [Addr.add_mid, Addr.add_mid] at h00
      refine ⟨b, off, rfl, World.block_lt_of_cell? W _ h00, fun j c hj => ?_⟩
      have hj4 : j < 4 := by have := (List.getElem?_eq_some_iff.1 hj).1; simpa [Do.cells] using this
      have := hat j hj4
      rw [Addr.add_mid, Addr.add_mid, hj] at this
      rw [← this]
      congr 2
      omega
    refine ⟨some a, len, cap, List.ofFn (fun i : Fin len => Classical.choose (each i.1 i.2)), rfl, ⟨by simp, fun j d hd => ?_, fun d hd => ?_, fun d hd => ?_⟩, by omega⟩
    · rw [List.getElem?_ofFn] at hd
      split at hd
      · rename_i hj
        have := Option.some.inj hd
        subst this
        obtain ⟨⟨b, o, ha, hb, hc⟩, _⟩ := Classical.choose_spec (each j hj)
        exact ⟨b, o, by rw [ha], hb, hc⟩
      · cases hd
    · obtain ⟨i, rfl⟩ := List.mem_ofFn.1 hd
      exact (Classical.choose_spec (each i.1 i.2)).2.1
    · obtain ⟨i, rfl⟩ := List.mem_ofFn.1 hd
      exact (Classical.choose_spec (each i.1 i.2)).2.2
end
def errTexts : List (String × List UInt8) := [("facade/api.ErrEnd", [105, 116, 32, 101, 110, 100, 115, 32, 116, 111, 111, 32, 101, 97, 114, 108, 121]), ("facade/api.ErrShape", [110, 111, 116, 32, 97, 115, 32, 105, 116, 32, 104, 97, 115, 32, 116, 111, 32, 98, 101]), ("facade/api.ErrRange", [97, 32, 110, 117, 109, 98, 101, 114, 32, 111, 117, 116, 32, 111, 102, 32, 105, 116, 115, 32, 114, 97, 110, 103, 101]), ("facade/api.ErrMany", [116, 111, 111, 32, 109, 97, 110, 121]), ("facade/api.ErrOp", [110, 111, 32, 115, 117, 99, 104, 32, 105, 110, 115, 116, 114, 117, 99, 116, 105, 111, 110]), ("facade/api.ErrTwice", [116, 104, 101, 114, 101, 32, 105, 115, 32, 111, 110, 101]), ("facade/api.ErrNone", [116, 104, 101, 114, 101, 32, 105, 115, 32, 110, 111, 110, 101]), ("facade/api.ErrFar", [116, 111, 111, 32, 102, 97, 114]), ("facade/api.ErrMap", [110, 111, 116, 32, 97, 115, 32, 116, 104, 101, 32, 99, 111, 100, 101, 39, 115, 32, 109, 97, 112, 32, 104, 97, 115, 32, 105, 116]), ("facade/api.ErrOwner", [97, 110, 111, 116, 104, 101, 114, 32, 111, 110, 101, 39, 115]), ("facade/api.ErrType", [97, 32, 102, 114, 97, 109, 101, 32, 111, 102, 32, 97, 110, 111, 116, 104, 101, 114, 32, 107, 105, 110, 100]), ("facade/api.ErrBusy", [115, 116, 105, 108, 108, 32, 105, 110, 32, 117, 115, 101]), ("facade/api.ErrFull", [116, 104, 101, 114, 101, 32, 105, 115, 32, 110, 111, 32, 114, 111, 111, 109]), ("facade/api.ErrState", [110, 111, 116, 32, 97, 115, 32, 105, 116, 32, 105, 115, 32, 110, 111, 119]), ("facade/api.ErrWord", [110, 111, 32, 115, 117, 99, 104, 32, 119, 111, 114, 100]), ("facade/api.ErrNumber", [110, 111, 116, 32, 97, 32, 110, 117, 109, 98, 101, 114])]
theorem sents_of_laid {W : World} (h : laidMet Tryd.prog (errTexts.map fun x => (x.1, .iface "*errors.errorString" (.ptr (.agg [.lit (.string x.2)])))) W) : ∃ A, Sents W A := by
  obtain ⟨ps, hv, hnd, hrows⟩ := h
  have hrow : ∀ u, Tryd.prog.typeName? 3 u = some "*errors.errorString" → u = 82 := fun u hu =>
    typeName_ptr_named (nm := "errors.errorString") (by kernel_rfl) (by kernel_rfl) (by decide) u hu
  have hty : ∀ x ∈ errTexts, (Tryd.prog.globalNamed x.1).bind (fun g => (Tryd.prog.globals[g]?).map (·.type)) = some 27 := by
    have hall : (errTexts.all fun x => decide ((Tryd.prog.globalNamed x.1).bind (fun g => (Tryd.prog.globals[g]?).map (·.type)) = some 27)) = true := by kernel_rfl
    intro x hx
    exact of_decide_eq_true (List.all_eq_true.1 hall x hx)
  obtain ⟨al, hl, hn, hin, hall⟩ := laid_sents Tryd.underlying27 hrow Tryd.underlying82 Tryd.underlying98 rfl rfl Tryd.underlying9 (by kernel_rfl) (by kernel_rfl) errTexts ps hv hrows hnd hty
  have hl16 : al.length = 16 := hl
  have hG : errTexts.map (fun x => Tryd.prog.globalNamed x.1) = errG.map some := by kernel_rfl
  refine ⟨fun i => al.getD i ⟨0, 0, none⟩, fun i g hg => ?_, fun i hi => ?_, fun i j hi hj he => ?_⟩
  · have hi : i < 16 := by have := (List.getElem?_eq_some_iff.1 hg).1; simpa [errG] using this
    obtain ⟨x, hx⟩ : ∃ x, errTexts[i]? = some x := ⟨_, List.getElem?_eq_getElem (by simpa [errTexts] using hi)⟩
    obtain ⟨a, ha, g', hg', hc⟩ := hall i x hx
    have h1 := congrArg (·[i]?) hG
    simp only [List.getElem?_map, hx, hg, Option.map_some, Option.some.injEq] at h1
    rw [hg'] at h1
    obtain rfl := Option.some.inj h1
    simp only [List.getD, ha, Option.getD_some]
    exact hc
  · have : al.getD i ⟨0, 0, none⟩ ∈ al := by
      rw [List.getD, List.getElem?_eq_getElem (by omega)]
      exact List.getElem_mem _
    exact (hrows _ _ (hin _ this)).1
  · simp only [List.getD, List.getElem?_eq_getElem (show i < al.length by omega), List.getElem?_eq_getElem (show j < al.length by omega), Option.getD_some] at he
    rcases Nat.lt_trichotomy i j with h | h | h
    · exact absurd he (List.pairwise_iff_getElem.1 hn i j (by omega) (by omega) h)
    · exact h
    · exact absurd he.symm (List.pairwise_iff_getElem.1 hn j i (by omega) (by omega) h)
end Go.Proofs.YtepgnnnkhjnbjaaDoor
