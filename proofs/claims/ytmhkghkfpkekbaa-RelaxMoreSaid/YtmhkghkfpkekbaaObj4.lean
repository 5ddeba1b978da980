/- Where a symbol stands; whether one ahead has its name (package obj, slices): contracts. -/
import Derived.Test.YtmhkghkfpkekbaaObj3
import Derived.LoopTactic
import Derived.WideShapes
namespace Go.Proofs.Ytmhkghkfpkekbaa
open Go.RowKit
abbrev Sy.agg (s : Sy) : Value := .agg #[.string s.n, .int .i64 s.i, .int .i64 s.v, .bool s.g]
abbrev Rl.agg (r : Rl) : Value := .agg #[.int .i64 r.a, .int .i64 r.k, .int .i64 r.s, .int .i64 r.d]
/-- four cells in a row -/
structure C4 (w : World) (b o : Nat) (v0 v1 v2 v3 : Value) : Prop where
  c0 : w.cell? ⟨b, o, none⟩ = some v0
  c1 : w.cell? ⟨b, o + 1, none⟩ = some v1
  c2 : w.cell? ⟨b, o + 2, none⟩ = some v2
  c3 : w.cell? ⟨b, o + 3, none⟩ = some v3
theorem C4.kept0 {w w1 : World} {b o : Nat} {v0 v1 v2 v3 : Value} (h : C4 w b o v0 v1 v2 v3) (hg : w.grownBy w1 none) : C4 w1 b o v0 v1 v2 v3 := by
  have k : ∀ {j : Nat} {v : Value}, w.cell? ⟨b, j, none⟩ = some v → w1.cell? ⟨b, j, none⟩ = some v := fun hc => by
    rw [grown_cell hg (World.block_lt_of_cell? w _ hc) (by simp)]; exact hc
  exact ⟨k h.c0, k h.c1, k h.c2, k h.c3⟩
theorem SyAt.cells {w : World} {b o : Nat} {l : List Sy} (h : ∀ j u, (sysC l)[j]? = some u → w.cell? ⟨b, o + j, none⟩ = some u) {k : Nat} {s : Sy} (hs : l[k]? = some s) :
    C4 w b (o + k * 4) (.string s.n) (.int .i64 s.i) (.int .i64 s.v) (.bool s.g) := by
  have g := fun j hj => sysC_get l k j s hs hj
  exact ⟨h (k * 4 + 0) _ (g 0 (by omega)), h (k * 4 + 1) _ (g 1 (by omega)), h (k * 4 + 2) _ (g 2 (by omega)), h (k * 4 + 3) _ (g 3 (by omega))⟩
theorem RlAt.cells {w : World} {b o : Nat} {l : List Rl} (h : ∀ j u, (rlsC l)[j]? = some u → w.cell? ⟨b, o + j, none⟩ = some u) {k : Nat} {s : Rl} (hs : l[k]? = some s) :
    C4 w b (o + k * 4) (.int .i64 s.a) (.int .i64 s.k) (.int .i64 s.s) (.int .i64 s.d) := by
  have g := fun j hj => rlsC_get l k j s hs hj
  exact ⟨h (k * 4 + 0) _ (g 0 (by omega)), h (k * 4 + 1) _ (g 1 (by omega)), h (k * 4 + 2) _ (g 2 (by omega)), h (k * 4 + 3) _ (g 3 (by omega))⟩
theorem toList_iff {x y : ByteArray} : x.toList = y.toList ↔ x = y := ⟨fun e => WideShapes.bytes_inj (by rw [← ByteArray.toList_eq, ← ByteArray.toList_eq]; exact e), fun e => by rw [e]⟩
section
variable {w : World}
end
end Go.Proofs.Ytmhkghkfpkekbaa
