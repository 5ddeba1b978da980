/- An entry of a page table as an argument: opened. -/
import Derived.Test.YthjbbkhnfemikaaDoorBase
import Derived.Lib.SmallJoins
import Derived.OpenShut
import Derived.ChangeArms
namespace Go.Proofs.YthjbbkhnfemikaaDoor
open Go.Joins Go.ChangeShapes Go.WideShapes Go.RowKit
section
variable {H : Type} {enc : TypeId × Value → H} {w : World} {base : Nat} {spare : Nat → Bool} {held : Bool}
theorem open_ent {r : Reach} {b0 : Nat} {v : Value} {d : DataW H} {p : List MemPlace}
    (hv : Value.okWide Tryd.prog w r b0 32 v) (h : DataW.Trod enc Tryd.prog w base spare held 32 v d p) :
    ∃ (f : Int) (t x u : Bool), v = .agg #[.int .i64 f, .bool t, .bool x, .bool u] ∧ d = .agg [.lit (.int .i64 f), .lit (.bool t), .lit (.bool x), .lit (.bool u)] ∧ p = [] ∧ (Lit.int .i64 f).wf = true := by
  have hs := Tryd.underlying32
  have hC : Tryd.prog.cellsOf 32 = 4 := by kernel_rfl
  have c3 : Tryd.prog.cellsOf 3 = 1 := by kernel_rfl
  have c4 : Tryd.prog.cellsOf 4 = 1 := by kernel_rfl
  obtain ⟨cs, rfl, hsz⟩ := okWide_struct hs hv
  obtain ⟨l⟩ := cs
  match l, hsz.trans hC with
  | [v0, v1, v2, v3], _ =>
    obtain ⟨fuel, hf⟩ := h
    obtain ⟨xs, n, _, hx, _, hlen, hg⟩ := DataW.trod_struct hs hf
    match xs, hlen with
    | [y0, y1, y2, y3], _ =>
      have g0 := hg 0 _ rfl
      have g1 := hg 1 _ rfl
      have g2 := hg 2 _ rfl
      have g3 := hg 3 _ rfl
      simp [Value.cells, c3, c4] at g0 g1 g2 g3
      obtain ⟨f, e0, rfl, w0⟩ := DataW.trod_int Tryd.underlying3 g0
      obtain ⟨t, e1, rfl⟩ := DataW.trod_bool Tryd.underlying4 g1
      obtain ⟨x, e2, rfl⟩ := DataW.trod_bool Tryd.underlying4 g2
      obtain ⟨u, e3, rfl⟩ := DataW.trod_bool Tryd.underlying4 g3
      simp at e0 e1 e2 e3
      subst e0; subst e1; subst e2; subst e3
      simp only [Prod.mk.injEq] at hx
      exact ⟨f, t, x, u, rfl, by simpa using hx.1, by simpa using hx.2, w0⟩
end
end Go.Proofs.YthjbbkhnfemikaaDoor
