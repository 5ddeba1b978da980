/- Instructions and registers as arguments: opened. -/
import Derived.Test.YtkkbhifplbleiaaDoorZGAluA
import Derived.Lib.SmallJoins
import Derived.OpenShut
import Derived.ChangeArms
namespace Go.Proofs.YtkkbhifplbleiaaDoor
open Go.Joins Go.ChangeShapes Go.WideShapes Go.RowKit
section
variable {H : Type} {enc : TypeId × Value → H} {w : World} {base : Nat} {spare : Nat → Bool} {held : Bool}
set_option maxRecDepth 100000 in
theorem open_instr {r : Reach} {b0 : Nat} {v : Value} {d : DataW H} {p : List MemPlace}
    (hv : Value.okWide Tryd.prog w r b0 28 v) (h : DataW.Trod enc Tryd.prog w base spare held 28 v d p) :
    ∃ o a b c i : Int, v = .agg #[.int .i64 o, .int .i64 a, .int .i64 b, .int .i64 c, .int .u32 i] ∧ d = .agg [.lit (.int .i64 o), .lit (.int .i64 a), .lit (.int .i64 b), .lit (.int .i64 c), .lit (.int .u32 i)] ∧ p = [] ∧
      (Lit.int .i64 o).wf = true ∧ (Lit.int .i64 a).wf = true ∧ (Lit.int .i64 b).wf = true ∧ (Lit.int .i64 c).wf = true ∧ (Lit.int .u32 i).wf = true := by
  have hs := Tryd.underlying28
  have hC : Tryd.prog.cellsOf 28 = 5 := by kernel_rfl
  have c3 : Tryd.prog.cellsOf 3 = 1 := by kernel_rfl
  have c22 : Tryd.prog.cellsOf 22 = 1 := by kernel_rfl
  obtain ⟨cs, rfl, hsz⟩ := okWide_struct hs hv
  obtain ⟨l⟩ := cs
  match l, hsz.trans hC with
  | [v0, v1, v2, v3, v4], _ =>
    obtain ⟨fuel, hf⟩ := h
    obtain ⟨xs, n, _, hx, _, hlen, hg⟩ := DataW.trod_struct hs hf
    match xs, hlen with
    | [y0, y1, y2, y3, y4], _ =>
      have g0 := hg 0 _ rfl
      have g1 := hg 1 _ rfl
      have g2 := hg 2 _ rfl
      have g3 := hg 3 _ rfl
      have g4 := hg 4 _ rfl
      simp [Value.cells, c3, c22] at g0 g1 g2 g3 g4
      obtain ⟨o, e0, rfl, w0⟩ := DataW.trod_int Tryd.underlying3 g0
      obtain ⟨a, e1, rfl, w1⟩ := DataW.trod_int Tryd.underlying3 g1
      obtain ⟨b, e2, rfl, w2⟩ := DataW.trod_int Tryd.underlying3 g2
      obtain ⟨c, e3, rfl, w3⟩ := DataW.trod_int Tryd.underlying3 g3
      obtain ⟨i, e4, rfl, w4⟩ := DataW.trod_int Tryd.underlying22 g4
      simp at e0 e1 e2 e3 e4
      subst e0; subst e1; subst e2; subst e3; subst e4
      simp only [Prod.mk.injEq] at hx
      exact ⟨o, a, b, c, i, rfl, by simpa using hx.1, by simpa using hx.2, w0, w1, w2, w3, w4⟩
set_option maxRecDepth 100000 in
theorem open_regs {r : Reach} {b0 : Nat} {v : Value} {d : DataW H} {p : List MemPlace}
    (hv : Value.okWide Tryd.prog w r b0 24 v) (h : DataW.Trod enc Tryd.prog w base spare held 24 v d p) :
    ∃ l : List Int, v = .agg (wA l) ∧ Regs l := by
  have hu := Tryd.underlying24
  have hC : Tryd.prog.cellsOf 24 = 16 := by kernel_rfl
  have c22 : Tryd.prog.cellsOf 22 = 1 := by kernel_rfl
  simp only [Value.okWide, hu] at hv
  obtain ⟨cs, rfl, hsz, _⟩ := hv
  rw [hC] at hsz
  obtain ⟨fuel, hf⟩ := h
  obtain ⟨xs, n, _, _, _, hlen, hg⟩ := DataW.trod_array hu hf
  have one : ∀ i, i < 16 → ∃ m : Int, cs[i]? = some (.int .u32 m) ∧ 0 ≤ m ∧ m < 4294967296 := by
    intro i hi
    have g := hg i hi
    simp only [Value.cells, c22, Nat.mul_one] at g
    have hx : xs[i]? = some (xs[i]'(by omega)) := List.getElem?_eq_getElem (by omega)
    rw [hx] at g
    obtain ⟨m, e, _, wf⟩ := DataW.trod_int Tryd.underlying22 g
    have hd : cs.toList.drop i = cs[i]'(by omega) :: cs.toList.drop (i + 1) := by
      rw [List.drop_eq_getElem_cons (by simp; omega)]; simp
    rw [hd] at e
    simp only [List.take_succ_cons, List.take_zero, List.cons.injEq, and_true] at e
    have hb := u32_bd wf
    exact ⟨m, by rw [Array.getElem?_eq_getElem (by omega), e], hb.1, by omega⟩
  refine ⟨cs.toList.map intOf, ?_, by simp [hsz], ?_⟩
  · congr 1
    apply Array.ext_getElem?
    intro i
    rw [wA_get, List.getElem?_map]
    by_cases hi : i < 16
    · obtain ⟨m, hm, _⟩ := one i hi
      rw [Array.getElem?_toList, hm]
      rfl
    · rw [Array.getElem?_eq_none (by omega), List.getElem?_eq_none (by simp; omega)]; rfl
  · intro x hx
    obtain ⟨v, hv, rfl⟩ := List.mem_map.1 hx
    obtain ⟨i, hi, rfl⟩ := List.getElem_of_mem hv
    simp only [Array.length_toList] at hi
    obtain ⟨m, hm, h0, h1⟩ := one i (by omega)
    rw [Array.getElem?_eq_getElem hi, Option.some.injEq] at hm
    rw [Array.getElem_toList, hm]
    exact ⟨h0, h1⟩
end
end Go.Proofs.YtkkbhifplbleiaaDoor
