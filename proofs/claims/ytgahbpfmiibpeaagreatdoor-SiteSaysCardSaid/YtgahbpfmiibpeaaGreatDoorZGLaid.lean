/- What the listed variables hold: package api's errors, all sixteen; the seven of objects. -/
import Derived.Test.YtgahbpfmiibpeaaGreatDoorZGObjA
import Derived.LaidMore
import Derived.Test.YtgahbpfmiibpeaaGreatDoorZGTxt
import Derived.Lib.SmallJoins
import Derived.OpenShut
import Derived.Stop.Joined
import Derived.Stop.LaidErr
import Derived.Lib.LaidTab
namespace Go.Proofs.YtgahbpfmiibpeaaGreatDoor
open Go.RowKit Go.WideShapes Go.ChangeShapes
def errTexts : List (String × List UInt8) := [("facade/api.ErrEnd", [105, 116, 32, 101, 110, 100, 115, 32, 116, 111, 111, 32, 101, 97, 114, 108, 121]), ("facade/api.ErrShape", [110, 111, 116, 32, 97, 115, 32, 105, 116, 32, 104, 97, 115, 32, 116, 111, 32, 98, 101]), ("facade/api.ErrRange", [97, 32, 110, 117, 109, 98, 101, 114, 32, 111, 117, 116, 32, 111, 102, 32, 105, 116, 115, 32, 114, 97, 110, 103, 101]), ("facade/api.ErrMany", [116, 111, 111, 32, 109, 97, 110, 121]), ("facade/api.ErrOp", [110, 111, 32, 115, 117, 99, 104, 32, 105, 110, 115, 116, 114, 117, 99, 116, 105, 111, 110]), ("facade/api.ErrTwice", [116, 104, 101, 114, 101, 32, 105, 115, 32, 111, 110, 101]), ("facade/api.ErrNone", [116, 104, 101, 114, 101, 32, 105, 115, 32, 110, 111, 110, 101]), ("facade/api.ErrFar", [116, 111, 111, 32, 102, 97, 114]), ("facade/api.ErrMap", [110, 111, 116, 32, 97, 115, 32, 116, 104, 101, 32, 99, 111, 100, 101, 39, 115, 32, 109, 97, 112, 32, 104, 97, 115, 32, 105, 116]), ("facade/api.ErrOwner", [97, 110, 111, 116, 104, 101, 114, 32, 111, 110, 101, 39, 115]), ("facade/api.ErrType", [97, 32, 102, 114, 97, 109, 101, 32, 111, 102, 32, 97, 110, 111, 116, 104, 101, 114, 32, 107, 105, 110, 100]), ("facade/api.ErrBusy", [115, 116, 105, 108, 108, 32, 105, 110, 32, 117, 115, 101]), ("facade/api.ErrFull", [116, 104, 101, 114, 101, 32, 105, 115, 32, 110, 111, 32, 114, 111, 111, 109]), ("facade/api.ErrState", [110, 111, 116, 32, 97, 115, 32, 105, 116, 32, 105, 115, 32, 110, 111, 119]), ("facade/api.ErrWord", [110, 111, 32, 115, 117, 99, 104, 32, 119, 111, 114, 100]), ("facade/api.ErrNumber", [110, 111, 116, 32, 97, 32, 110, 117, 109, 98, 101, 114])]
theorem sents_of_laid {W : World} (h : laidMet Tryz.prog (errTexts.map fun x => (x.1, .iface "*errors.errorString" (.ptr (.agg [.lit (.string x.2)])))) W) : ∃ A, Sents W A := by
  obtain ⟨ps, hv, hnd, hrows⟩ := h
  have hrow : ∀ u, Tryz.prog.typeName? 3 u = some "*errors.errorString" → u = 233 := fun u hu =>
    typeName_ptr_named (nm := "errors.errorString") (by kernel_rfl) (by kernel_rfl) (by decide) u hu
  have hty : ∀ x ∈ errTexts, (Tryz.prog.globalNamed x.1).bind (fun g => (Tryz.prog.globals[g]?).map (·.type)) = some 35 := by
    have hall : (errTexts.all fun x => decide ((Tryz.prog.globalNamed x.1).bind (fun g => (Tryz.prog.globals[g]?).map (·.type)) = some 35)) = true := by kernel_rfl
    intro x hx
    exact of_decide_eq_true (List.all_eq_true.1 hall x hx)
  obtain ⟨al, hl, hn, hin, hall⟩ := laid_sents Tryz.underlying35 hrow Tryz.underlying233 Tryz.underlying249 rfl rfl Tryz.underlying9 (by kernel_rfl) (by kernel_rfl) errTexts ps hv hrows hnd hty
  have hl16 : al.length = 16 := hl
  have hG : errTexts.map (fun x => Tryz.prog.globalNamed x.1) = errG.map some := by kernel_rfl
  refine ⟨fun i => al.getD i ⟨0, 0, none⟩, fun i g hg => ?_, fun i hi => ?_, fun i j hi hj he => ?_⟩
  · have hi : i < 16 := by have := (List.getElem?_eq_some_iff.1 hg).1; simpa [errG] using this
    obtain ⟨x, hx⟩ : ∃ x, errTexts[i]? = some x := ⟨_, List.getElem?_eq_getElem (by simpa [errTexts] using hi)⟩
    obtain ⟨a, ha, g', hg', hc⟩ := hall i x hx
    have h1 := congrArg (·[i]?) hG
    simp only [List.getElem?_map, hx, hg, Option.map_some, Option.some.injEq] at h1
    rw [hg'] at h1
    obtain rfl := Option.some.inj h1
    simp only [List.getD, ha, Option.getD_some]
    exact hc
  · have : al.getD i ⟨0, 0, none⟩ ∈ al := by
      rw [List.getD, List.getElem?_eq_getElem (by omega)]
      exact List.getElem_mem _
    exact (hrows _ _ (hin _ this)).1
  · simp only [List.getD, List.getElem?_eq_getElem (show i < al.length by omega), List.getElem?_eq_getElem (show j < al.length by omega), Option.getD_some] at he
    rcases Nat.lt_trichotomy i j with h | h | h
    · exact absurd he (List.pairwise_iff_getElem.1 hn i j (by omega) (by omega) h)
    · exact h
    · exact absurd he.symm (List.pairwise_iff_getElem.1 hn j i (by omega) (by omega) h)
def errTexts7 : List (String × List UInt8) := [("facade/api.ErrShape", [110, 111, 116, 32, 97, 115, 32, 105, 116, 32, 104, 97, 115, 32, 116, 111, 32, 98, 101]), ("facade/api.ErrRange", [97, 32, 110, 117, 109, 98, 101, 114, 32, 111, 117, 116, 32, 111, 102, 32, 105, 116, 115, 32, 114, 97, 110, 103, 101]), ("facade/api.ErrMany", [116, 111, 111, 32, 109, 97, 110, 121]), ("facade/api.ErrOp", [110, 111, 32, 115, 117, 99, 104, 32, 105, 110, 115, 116, 114, 117, 99, 116, 105, 111, 110]), ("facade/api.ErrTwice", [116, 104, 101, 114, 101, 32, 105, 115, 32, 111, 110, 101]), ("facade/api.ErrNone", [116, 104, 101, 114, 101, 32, 105, 115, 32, 110, 111, 110, 101]), ("facade/api.ErrMap", [110, 111, 116, 32, 97, 115, 32, 116, 104, 101, 32, 99, 111, 100, 101, 39, 115, 32, 109, 97, 112, 32, 104, 97, 115, 32, 105, 116])]
theorem errc_of_laid {W : World} (h : laidMet Tryz.prog (errTexts7.map fun x => (x.1, .iface "*errors.errorString" (.ptr (.agg [.lit (.string x.2)])))) W) : ∃ A, ErrC W A := by
  obtain ⟨ps, hv, hnd, hrows⟩ := h
  have hrow : ∀ u, Tryz.prog.typeName? 3 u = some "*errors.errorString" → u = 233 := fun u hu =>
    typeName_ptr_named (nm := "errors.errorString") (by kernel_rfl) (by kernel_rfl) (by decide) u hu
  have hty : ∀ x ∈ errTexts7, (Tryz.prog.globalNamed x.1).bind (fun g => (Tryz.prog.globals[g]?).map (·.type)) = some 35 := by
    have hall : (errTexts7.all fun x => decide ((Tryz.prog.globalNamed x.1).bind (fun g => (Tryz.prog.globals[g]?).map (·.type)) = some 35)) = true := by kernel_rfl
    intro x hx
    exact of_decide_eq_true (List.all_eq_true.1 hall x hx)
  obtain ⟨al, hl, hn, hin, hall⟩ := laid_sents Tryz.underlying35 hrow Tryz.underlying233 Tryz.underlying249 rfl rfl Tryz.underlying9 (by kernel_rfl) (by kernel_rfl) errTexts7 ps hv hrows hnd hty
  have hG : errTexts7.map (fun x => Tryz.prog.globalNamed x.1) = [6, 4, 1, 7, 5, 0, 2].map some := by kernel_rfl
  have one : ∀ i g, [6, 4, 1, 7, 5, 0, 2][i]? = some g → W.cell? ⟨g, 0, none⟩ = some (errV (al.getD i ⟨0, 0, none⟩)) := by
    intro i g hg
    have hi : i < 7 := by have := (List.getElem?_eq_some_iff.1 hg).1; simpa using this
    obtain ⟨x, hx⟩ : ∃ x, errTexts7[i]? = some x := ⟨_, List.getElem?_eq_getElem (by simpa [errTexts7] using hi)⟩
    obtain ⟨a, ha, g', hg', hc⟩ := hall i x hx
    have h1 := congrArg (·[i]?) hG
    simp only [List.getElem?_map, hx, hg, Option.map_some, Option.some.injEq] at h1
    rw [hg'] at h1
    obtain rfl := Option.some.inj h1
    simp only [List.getD, ha, Option.getD_some]
    exact hc
  exact ⟨fun i => al.getD (if i = 8 then 6 else i - 1) ⟨0, 0, none⟩, ⟨one 0 _ rfl, one 1 _ rfl, one 2 _ rfl, one 3 _ rfl, one 4 _ rfl, one 5 _ rfl, one 6 _ rfl⟩⟩
end Go.Proofs.YtgahbpfmiibpeaaGreatDoor
/- What the listed variables hold when the call begins: the tables and the names (Vars). -/
namespace Go.Proofs.YtgahbpfmiibpeaaGreatDoor
open Go.Joins Go.ChangeShapes Go.WideShapes Go.RowKit
/-- an array of texts that reads as these texts holds them, cell for cell -/
theorem cells_of_strs {H : Type} {enc : TypeId × Value → H} {P : Program} {w : World} {base : Nat} {sp : Nat → Bool} {held : Bool} {fuel : Nat} {t e : TypeId} {n : Nat} {cs : List Value} {ls : List (List UInt8)} {p : List MemPlace}
    (ht : P.underlying t = some (.array n e)) (he : P.underlying e = some .string) (hce : P.cellsOf e = 1) (hct : P.cellsOf t = n)
    (h : DataW.trod enc P w base sp held fuel t cs = some (.agg (ls.map fun l => .lit (.string l)), p)) : ∀ k (hk : k < ls.length), cs[k]? = some (.string (sB (ls[k]'hk))) := by
  cases fuel with
  | zero => simp [DataW.trod] at h
  | succ fuel =>
    simp only [DataW.trod, ht, hce, hct, Nat.mul_one] at h
    split at h
    · obtain ⟨xs, hm, hx⟩ := Option.map_eq_some_iff.1 h
      have hxs : xs.map (·.1) = ls.map fun l => (DataW.lit (.string l) : DataW H) := by
        have := congrArg Prod.fst hx
        simpa using this
      have hxl : xs.length = n := by simpa using Lib.mapM_length hm
      have hll : ls.length = n := by
        have := congrArg List.length hxs
        simp at this
        omega
      intro i hi
      obtain ⟨b, hb, hf⟩ := Lib.mapM_at hm i i (by rw [List.getElem?_range (by omega)])
      obtain ⟨s, hc, rfl, _⟩ := DataW.trod_string he hf
      have h1 : cs[i]? = some (.string s) := by
        have := congrArg (·[0]?) hc
        simpa [List.getElem?_take, List.getElem?_drop] using this
      have h2 : (xs.map (·.1))[i]? = some (DataW.lit (.string s.data.toList) : DataW H) := by simp [hb]
      rw [hxs] at h2
      simp [hi] at h2
      rw [h1, h2]
      simp [sB]
    · cases h

def nums64 : List Int := [0, 1, 56, 2, 57, 49, 28, 3, 61, 58, 42, 50, 38, 29, 17, 4, 62, 47, 59, 36, 45, 43, 51, 22, 53, 39, 33, 30, 24, 18, 12, 5, 63, 55, 48, 27, 60, 41, 37, 16, 46, 35, 44, 21, 52, 32, 23, 11, 54, 26, 40, 15, 34, 20, 31, 10, 25, 14, 19, 9, 13, 8, 7, 6]
def laid4 : List (String × DataW Unit) := [("math/bits.deBruijn32tab", Rows.laid_math_bits_deBruijn32tab), ("math/bits.deBruijn64tab", Rows.laid_math_bits_deBruijn64tab), ("internal/strconv.uint64pow10", Rows.laid_internal_strconv_uint64pow10), ("facade/isa.names", Rows.laid_facade_isa_names)]
theorem gNames : Tryz.prog.globalNamed "facade/isa.names" = some 3 := by kernel_rfl
theorem tNames : (Tryz.prog.globals[3]?).map (·.type) = some 145 := by kernel_rfl

theorem vars_of_laid {W : World} (h : laidMetH Tryz.prog laid4 W) : Vars W := by
  rw [MakeChecks.laidMetH_plain _ _ _ (by kernel_rfl)] at h
  have h1 : laidMet Tryz.prog (("math/bits.deBruijn64tab", Lib.tabData .u8 nums64) :: [("internal/strconv.uint64pow10", Rows.laid_internal_strconv_uint64pow10), ("facade/isa.names", Rows.laid_facade_isa_names)]) W := h.tail
  have h2 : laidMet Tryz.prog (("internal/strconv.uint64pow10", Lib.tabData .u64 Lib.pow10Tab) :: [("facade/isa.names", Rows.laid_facade_isa_names)]) W := h1.tail
  have h3 : laidMet Tryz.prog [("facade/isa.names", .agg (((List.range 97).map nameL).map fun l => .lit (.string l)))] W := h2.tail
  have t1 := Lib.tabIs_of_head (g := 19) (t := 229) (e := 5) (n := 64) (by kernel_rfl) (by kernel_rfl) Tryz.underlying229 Tryz.underlying5 (by kernel_rfl) (by kernel_rfl) h1
  have t2 := Lib.tabIs_of_head (g := 8) (t := 210) (e := 101) (n := 20) (by kernel_rfl) (by kernel_rfl) Tryz.underlying210 Tryz.underlying101 (by kernel_rfl) (by kernel_rfl) h2
  refine ⟨t2, by simpa [nums64] using t1.cell (g := 19) (by kernel_rfl) 15 (by decide), ?_⟩
  obtain ⟨ps, ⟨g', t', cs, fuel, p, q, hg', ht', hvar, hd, _, _⟩, _⟩ := h3
  obtain rfl := Option.some.inj (gNames.symm.trans hg')
  obtain rfl := Option.some.inj (tNames.symm.trans ht')
  have hk := cells_of_strs Tryz.underlying145 Tryz.underlying9 (by kernel_rfl) (by kernel_rfl) hd
  intro o ho
  have hc := World.var?_cell hg' hvar o
  rw [hc]
  have := hk o (by simpa using ho)
  simpa [nameB] using this

end Go.Proofs.YtgahbpfmiibpeaaGreatDoor
