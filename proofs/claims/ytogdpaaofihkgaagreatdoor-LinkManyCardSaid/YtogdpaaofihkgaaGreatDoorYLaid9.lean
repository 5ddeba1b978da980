/- What the listed variables hold: package api's errors, all sixteen; the seven of objects. -/
import Derived.Test.YtogdpaaofihkgaaGreatDoorYIsa2
import Derived.LaidMore
namespace Go.Proofs.YtogdpaaofihkgaaGreatDoor
open Go.RowKit Go.WideShapes Go.ChangeShapes
def errTexts : List (String × List UInt8) := [("facade/api.ErrEnd", [105, 116, 32, 101, 110, 100, 115, 32, 116, 111, 111, 32, 101, 97, 114, 108, 121]), ("facade/api.ErrShape", [110, 111, 116, 32, 97, 115, 32, 105, 116, 32, 104, 97, 115, 32, 116, 111, 32, 98, 101]), ("facade/api.ErrRange", [97, 32, 110, 117, 109, 98, 101, 114, 32, 111, 117, 116, 32, 111, 102, 32, 105, 116, 115, 32, 114, 97, 110, 103, 101]), ("facade/api.ErrMany", [116, 111, 111, 32, 109, 97, 110, 121]), ("facade/api.ErrOp", [110, 111, 32, 115, 117, 99, 104, 32, 105, 110, 115, 116, 114, 117, 99, 116, 105, 111, 110]), ("facade/api.ErrTwice", [116, 104, 101, 114, 101, 32, 105, 115, 32, 111, 110, 101]), ("facade/api.ErrNone", [116, 104, 101, 114, 101, 32, 105, 115, 32, 110, 111, 110, 101]), ("facade/api.ErrFar", [116, 111, 111, 32, 102, 97, 114]), ("facade/api.ErrMap", [110, 111, 116, 32, 97, 115, 32, 116, 104, 101, 32, 99, 111, 100, 101, 39, 115, 32, 109, 97, 112, 32, 104, 97, 115, 32, 105, 116]), ("facade/api.ErrOwner", [97, 110, 111, 116, 104, 101, 114, 32, 111, 110, 101, 39, 115]), ("facade/api.ErrType", [97, 32, 102, 114, 97, 109, 101, 32, 111, 102, 32, 97, 110, 111, 116, 104, 101, 114, 32, 107, 105, 110, 100]), ("facade/api.ErrBusy", [115, 116, 105, 108, 108, 32, 105, 110, 32, 117, 115, 101]), ("facade/api.ErrFull", [116, 104, 101, 114, 101, 32, 105, 115, 32, 110, 111, 32, 114, 111, 111, 109]), ("facade/api.ErrState", [110, 111, 116, 32, 97, 115, 32, 105, 116, 32, 105, 115, 32, 110, 111, 119]), ("facade/api.ErrWord", [110, 111, 32, 115, 117, 99, 104, 32, 119, 111, 114, 100]), ("facade/api.ErrNumber", [110, 111, 116, 32, 97, 32, 110, 117, 109, 98, 101, 114])]
theorem sents_of_laid {W : World} (h : laidMet Tryz.prog (errTexts.map fun x => (x.1, .iface "*errors.errorString" (.ptr (.agg [.lit (.string x.2)])))) W) : ∃ A, Sents W A := by
  obtain ⟨ps, hv, hnd, hrows⟩ := h
  have hrow : ∀ u, Tryz.prog.typeName? 3 u = some "*errors.errorString" → u = 189 := fun u hu =>
    typeName_ptr_named (nm := "errors.errorString") (by kernel_rfl) (by kernel_rfl) (by decide) u hu
  have hty : ∀ x ∈ errTexts, (Tryz.prog.globalNamed x.1).bind (fun g => (Tryz.prog.globals[g]?).map (·.type)) = some 45 := by
    have hall : (errTexts.all fun x => decide ((Tryz.prog.globalNamed x.1).bind (fun g => (Tryz.prog.globals[g]?).map (·.type)) = some 45)) = true := by kernel_rfl
    intro x hx
    exact of_decide_eq_true (List.all_eq_true.1 hall x hx)
  obtain ⟨al, hl, hn, hin, hall⟩ := laid_sents Tryz.underlying45 hrow Tryz.underlying189 Tryz.underlying205 rfl rfl Tryz.underlying9 (by kernel_rfl) (by kernel_rfl) errTexts ps hv hrows hnd hty
  have hl16 : al.length = 16 := hl
  have hG : errTexts.map (fun x => Tryz.prog.globalNamed x.1) = errG.map some := by kernel_rfl
  refine ⟨fun i => al.getD i ⟨0, 0, none⟩, fun i g hg => ?_, fun i hi => ?_, fun i j hi hj he => ?_⟩
  · have hi : i < 16 := by have := (List.getElem?_eq_some_iff.1 hg).1; simpa [errG] using this
    obtain ⟨x, hx⟩ : ∃ x, errTexts[i]? = some x := ⟨_, List.getElem?_eq_getElem (by simpa [errTexts] using hi)⟩
    obtain ⟨a, ha, g', hg', hc⟩ := hall i x hx
    have h1 := congrArg (·[i]?) hG
    simp only [List.getElem?_map, hx, hg, Option.map_some, Option.some.injEq] at h1
    rw [hg'] at h1
    obtain rfl := Option.some.inj h1
    simp only [List.getD, ha, Option.getD_some]
    exact hc
  · have : al.getD i ⟨0, 0, none⟩ ∈ al := by
      rw [List.getD, List.getElem?_eq_getElem (by omega)]
      exact List.getElem_mem _
    exact (hrows _ _ (hin _ this)).1
  · simp only [List.getD, List.getElem?_eq_getElem (show i < al.length by omega), List.getElem?_eq_getElem (show j < al.length by omega), Option.getD_some] at he
    rcases Nat.lt_trichotomy i j with h | h | h
    · exact absurd he (List.pairwise_iff_getElem.1 hn i j (by omega) (by omega) h)
    · exact h
    · exact absurd he.symm (List.pairwise_iff_getElem.1 hn j i (by omega) (by omega) h)
def errTexts7 : List (String × List UInt8) := [("facade/api.ErrShape", [110, 111, 116, 32, 97, 115, 32, 105, 116, 32, 104, 97, 115, 32, 116, 111, 32, 98, 101]), ("facade/api.ErrRange", [97, 32, 110, 117, 109, 98, 101, 114, 32, 111, 117, 116, 32, 111, 102, 32, 105, 116, 115, 32, 114, 97, 110, 103, 101]), ("facade/api.ErrMany", [116, 111, 111, 32, 109, 97, 110, 121]), ("facade/api.ErrOp", [110, 111, 32, 115, 117, 99, 104, 32, 105, 110, 115, 116, 114, 117, 99, 116, 105, 111, 110]), ("facade/api.ErrTwice", [116, 104, 101, 114, 101, 32, 105, 115, 32, 111, 110, 101]), ("facade/api.ErrNone", [116, 104, 101, 114, 101, 32, 105, 115, 32, 110, 111, 110, 101]), ("facade/api.ErrMap", [110, 111, 116, 32, 97, 115, 32, 116, 104, 101, 32, 99, 111, 100, 101, 39, 115, 32, 109, 97, 112, 32, 104, 97, 115, 32, 105, 116])]
theorem errc_of_laid {W : World} (h : laidMet Tryz.prog (errTexts7.map fun x => (x.1, .iface "*errors.errorString" (.ptr (.agg [.lit (.string x.2)])))) W) : ∃ A, ErrC W A := by
  obtain ⟨ps, hv, hnd, hrows⟩ := h
  have hrow : ∀ u, Tryz.prog.typeName? 3 u = some "*errors.errorString" → u = 189 := fun u hu =>
    typeName_ptr_named (nm := "errors.errorString") (by kernel_rfl) (by kernel_rfl) (by decide) u hu
  have hty : ∀ x ∈ errTexts7, (Tryz.prog.globalNamed x.1).bind (fun g => (Tryz.prog.globals[g]?).map (·.type)) = some 45 := by
    have hall : (errTexts7.all fun x => decide ((Tryz.prog.globalNamed x.1).bind (fun g => (Tryz.prog.globals[g]?).map (·.type)) = some 45)) = true := by kernel_rfl
    intro x hx
    exact of_decide_eq_true (List.all_eq_true.1 hall x hx)
  obtain ⟨al, hl, hn, hin, hall⟩ := laid_sents Tryz.underlying45 hrow Tryz.underlying189 Tryz.underlying205 rfl rfl Tryz.underlying9 (by kernel_rfl) (by kernel_rfl) errTexts7 ps hv hrows hnd hty
  have hG : errTexts7.map (fun x => Tryz.prog.globalNamed x.1) = [3, 5, 0, 6, 2, 1, 8].map some := by kernel_rfl
  have one : ∀ i g, [3, 5, 0, 6, 2, 1, 8][i]? = some g → W.cell? ⟨g, 0, none⟩ = some (errV (al.getD i ⟨0, 0, none⟩)) := by
    intro i g hg
    have hi : i < 7 := by have := (List.getElem?_eq_some_iff.1 hg).1; simpa using this
    obtain ⟨x, hx⟩ : ∃ x, errTexts7[i]? = some x := ⟨_, List.getElem?_eq_getElem (by simpa [errTexts7] using hi)⟩
    obtain ⟨a, ha, g', hg', hc⟩ := hall i x hx
    have h1 := congrArg (·[i]?) hG
    simp only [List.getElem?_map, hx, hg, Option.map_some, Option.some.injEq] at h1
    rw [hg'] at h1
    obtain rfl := Option.some.inj h1
    simp only [List.getD, ha, Option.getD_some]
    exact hc
  exact ⟨fun i => al.getD (if i = 8 then 6 else i - 1) ⟨0, 0, none⟩, ⟨one 0 _ rfl, one 1 _ rfl, one 2 _ rfl, one 3 _ rfl, one 4 _ rfl, one 5 _ rfl, one 6 _ rfl⟩⟩
end Go.Proofs.YtogdpaaofihkgaaGreatDoor
