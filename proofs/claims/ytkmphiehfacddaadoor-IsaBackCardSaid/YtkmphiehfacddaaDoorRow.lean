/- Instructions as arguments: opened and shut; what the listed variables hold when the call begins. -/
import Derived.Test.YtkmphiehfacddaaDoorStr
import Derived.Lib.SmallJoins
import Derived.LaidMore
import Derived.OpenShut
import Derived.Stop.Joined
import Derived.Stop.LaidErr
import Derived.Lib.LaidTab
namespace Go.Proofs.YtkmphiehfacddaaDoor
open Go.Joins Go.ChangeShapes Go.WideShapes Go.RowKit
section
variable {H : Type} {enc : TypeId × Value → H} {w : World} {base : Nat} {spare : Nat → Bool} {held : Bool}
theorem open_instr {r : Reach} {b0 : Nat} {v : Value} {d : DataW H} {p : List MemPlace}
    (hv : Value.okWide Tryd.prog w r b0 24 v) (h : DataW.Trod enc Tryd.prog w base spare held 24 v d p) :
    ∃ o a b c i : Int, v = .agg #[.int .i64 o, .int .i64 a, .int .i64 b, .int .i64 c, .int .u32 i] ∧ d = .agg [.lit (.int .i64 o), .lit (.int .i64 a), .lit (.int .i64 b), .lit (.int .i64 c), .lit (.int .u32 i)] ∧ p = [] ∧
      (Lit.int .i64 o).wf = true ∧ (Lit.int .i64 a).wf = true ∧ (Lit.int .i64 b).wf = true ∧ (Lit.int .i64 c).wf = true ∧ (Lit.int .u32 i).wf = true := by
  have hs := Tryd.underlying24
  have hC : Tryd.prog.cellsOf 24 = 5 := by kernel_rfl
  have c3 : Tryd.prog.cellsOf 3 = 1 := by kernel_rfl
  have c22 : Tryd.prog.cellsOf 22 = 1 := by kernel_rfl
  obtain ⟨cs, rfl, hsz⟩ := okWide_struct hs hv
  obtain ⟨l⟩ := cs
  match l, hsz.trans hC with
  | [v0, v1, v2, v3, v4], _ =>
    obtain ⟨fuel, hf⟩ := h
    obtain ⟨xs, n, _, hx, _, hlen, hg⟩ := DataW.trod_struct hs hf
    match xs, hlen with
    | [y0, y1, y2, y3, y4], _ =>
      have g0 := hg 0 _ rfl
      have g1 := hg 1 _ rfl
      have g2 := hg 2 _ rfl
      have g3 := hg 3 _ rfl
      have g4 := hg 4 _ rfl
      simp [Value.cells, c3, c22] at g0 g1 g2 g3 g4
      obtain ⟨o, e0, rfl, w0⟩ := DataW.trod_int Tryd.underlying3 g0
      obtain ⟨a, e1, rfl, w1⟩ := DataW.trod_int Tryd.underlying3 g1
      obtain ⟨b, e2, rfl, w2⟩ := DataW.trod_int Tryd.underlying3 g2
      obtain ⟨c, e3, rfl, w3⟩ := DataW.trod_int Tryd.underlying3 g3
      obtain ⟨i, e4, rfl, w4⟩ := DataW.trod_int Tryd.underlying22 g4
      simp at e0 e1 e2 e3 e4
      subst e0; subst e1; subst e2; subst e3; subst e4
      simp only [Prod.mk.injEq] at hx
      exact ⟨o, a, b, c, i, rfl, by simpa using hx.1, by simpa using hx.2, w0, w1, w2, w3, w4⟩
theorem shut_instr {o a b c i : Int} (w0 : (Lit.int .i64 o).wf = true) (w1 : (Lit.int .i64 a).wf = true) (w2 : (Lit.int .i64 b).wf = true) (w3 : (Lit.int .i64 c).wf = true) (w4 : (Lit.int .u32 i).wf = true) :
    DataW.Trod enc Tryd.prog w base spare held 24 (.agg #[.int .i64 o, .int .i64 a, .int .i64 b, .int .i64 c, .int .u32 i]) (.agg [.lit (.int .i64 o), .lit (.int .i64 a), .lit (.int .i64 b), .lit (.int .i64 c), .lit (.int .u32 i)]) [] := by
  have hC : Tryd.prog.cellsOf 24 = 5 := by kernel_rfl
  have c3 : Tryd.prog.cellsOf 3 = 1 := by kernel_rfl
  have c22 : Tryd.prog.cellsOf 22 = 1 := by kernel_rfl
  have ts := trod_struct_mk (enc := enc) (P := Tryd.prog) (w := w) (base := base) (spare := spare) (held := held) (n := 1) (cs := [.int .i64 o, .int .i64 a, .int .i64 b, .int .i64 c, .int .u32 i])
    (xs := [(.lit (.int .i64 o), []), (.lit (.int .i64 a), []), (.lit (.int .i64 b), []), (.lit (.int .i64 c), []), (.lit (.int .u32 i), [])]) Tryd.underlying24 (by simp [hC])
    (by simp [c3, c22, trod_int_mk 0 Tryd.underlying3 w0, trod_int_mk 0 Tryd.underlying3 w1, trod_int_mk 0 Tryd.underlying3 w2, trod_int_mk 0 Tryd.underlying3 w3, trod_int_mk 0 Tryd.underlying22 w4])
  exact ⟨_, by simpa [Value.cells] using ts⟩
end

/-- an array of texts that reads as these texts holds them, cell for cell -/
theorem cells_of_strs {H : Type} {enc : TypeId × Value → H} {P : Program} {w : World} {base : Nat} {sp : Nat → Bool} {held : Bool} {fuel : Nat} {t e : TypeId} {n : Nat} {cs : List Value} {ls : List (List UInt8)} {p : List MemPlace}
    (ht : P.underlying t = some (.array n e)) (he : P.underlying e = some .string) (hce : P.cellsOf e = 1) (hct : P.cellsOf t = n)
    (h : DataW.trod enc P w base sp held fuel t cs = some (.agg (ls.map fun l => .lit (.string l)), p)) : ∀ k (hk : k < ls.length), cs[k]? = some (.string (sB (ls[k]'hk))) := by
  cases fuel with
  | zero => simp [DataW.trod] at h
  | succ fuel =>
    simp only [DataW.trod, ht, hce, hct, Nat.mul_one] at h
    split at h
    · obtain ⟨xs, hm, hx⟩ := Option.map_eq_some_iff.1 h
      have hxs : xs.map (·.1) = ls.map fun l => (DataW.lit (.string l) : DataW H) := by
        have := congrArg Prod.fst hx
        simpa using this
      have hxl : xs.length = n := by simpa using Lib.mapM_length hm
      have hll : ls.length = n := by
        have := congrArg List.length hxs
        simp at this
        omega
      intro i hi
      obtain ⟨b, hb, hf⟩ := Lib.mapM_at hm i i (by rw [List.getElem?_range (by omega)])
      obtain ⟨s, hc, rfl, _⟩ := DataW.trod_string he hf
      have h1 : cs[i]? = some (.string s) := by
        have := congrArg (·[0]?) hc
        simpa [List.getElem?_take, List.getElem?_drop] using this
      have h2 : (xs.map (·.1))[i]? = some (DataW.lit (.string s.data.toList) : DataW H) := by simp [hb]
      rw [hxs] at h2
      simp [hi] at h2
      rw [h1, h2]
      simp [sB]
    · cases h

def nums64 : List Int := [0, 1, 56, 2, 57, 49, 28, 3, 61, 58, 42, 50, 38, 29, 17, 4, 62, 47, 59, 36, 45, 43, 51, 22, 53, 39, 33, 30, 24, 18, 12, 5, 63, 55, 48, 27, 60, 41, 37, 16, 46, 35, 44, 21, 52, 32, 23, 11, 54, 26, 40, 15, 34, 20, 31, 10, 25, 14, 19, 9, 13, 8, 7, 6]
def laid4 : List (String × DataW Unit) := [("math/bits.deBruijn32tab", Rows.laid_math_bits_deBruijn32tab), ("math/bits.deBruijn64tab", Rows.laid_math_bits_deBruijn64tab), ("internal/strconv.uint64pow10", Rows.laid_internal_strconv_uint64pow10), ("facade/isa.names", Rows.laid_facade_isa_names)]
theorem gNames : Tryd.prog.globalNamed "facade/isa.names" = some 0 := by kernel_rfl
theorem tNames : (Tryd.prog.globals[0]?).map (·.type) = some 50 := by kernel_rfl

theorem vars_of_laid {W : World} (h : laidMetH Tryd.prog laid4 W) : Vars W := by
  rw [MakeChecks.laidMetH_plain _ _ _ (by kernel_rfl)] at h
  have h1 : laidMet Tryd.prog (("math/bits.deBruijn64tab", Lib.tabData .u8 nums64) :: [("internal/strconv.uint64pow10", Rows.laid_internal_strconv_uint64pow10), ("facade/isa.names", Rows.laid_facade_isa_names)]) W := h.tail
  have h2 : laidMet Tryd.prog (("internal/strconv.uint64pow10", Lib.tabData .u64 Lib.pow10Tab) :: [("facade/isa.names", Rows.laid_facade_isa_names)]) W := h1.tail
  have h3 : laidMet Tryd.prog [("facade/isa.names", .agg (((List.range 97).map nameL).map fun l => .lit (.string l)))] W := h2.tail
  have t1 := Lib.tabIs_of_head (g := 3) (t := 71) (e := 5) (n := 64) (by kernel_rfl) (by kernel_rfl) Tryd.underlying71 Tryd.underlying5 (by kernel_rfl) (by kernel_rfl) h1
  have t2 := Lib.tabIs_of_head (g := 1) (t := 66) (e := 53) (n := 20) (by kernel_rfl) (by kernel_rfl) Tryd.underlying66 Tryd.underlying53 (by kernel_rfl) (by kernel_rfl) h2
  refine ⟨t2, by simpa [nums64] using t1.cell (g := 3) (by kernel_rfl) 15 (by decide), ?_⟩
  obtain ⟨ps, ⟨g', t', cs, fuel, p, q, hg', ht', hvar, hd, _, _⟩, _⟩ := h3
  obtain rfl := Option.some.inj (gNames.symm.trans hg')
  obtain rfl := Option.some.inj (tNames.symm.trans ht')
  have hk := cells_of_strs Tryd.underlying50 Tryd.underlying9 (by kernel_rfl) (by kernel_rfl) hd
  intro o ho
  have hc := World.var?_cell hg' hvar o
  rw [hc]
  have := hk o (by simpa using ho)
  simpa [nameB] using this

/-- the door's own heap meets the condition -/
theorem door_met (os : Os) (args : Array Value) : laidMetH Tryd.prog laid4 ((World.doorLaid Tryd.prog 29 os).forCall (fun _ _ => 0) ⟨#[], args, []⟩).memory :=
  laidMetH_of_parts3 (fuel := 8) (laidMet_of_run' 8 (by kernel_rfl) (by kernel_rfl)) (by kernel_rfl) (by kernel_rfl)
end Go.Proofs.YtkmphiehfacddaaDoor
