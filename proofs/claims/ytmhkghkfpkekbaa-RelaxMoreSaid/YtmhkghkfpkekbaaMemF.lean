/- Package mem's calls in the form in which the laws meet them; the chapter's examples. -/
import Derived.Test.YtmhkghkfpkekbaaMem7
namespace Go.Proofs.Ytmhkghkfpkekbaa
open Go.RowKit
section
variable {m b n c : Nat} {xs : List Int} {w : World}
theorem number_of (x a : Int) (k r : Nat) (ha : a = (k : Int)) (hr : numB x k = r) (hk : 0 < k) (hk2 : (k : Int) ≤ 9223372036854775807) (h0 : -9223372036854775808 ≤ x) (h1 : x ≤ 9223372036854775807) :
    Calls Try.prog 11 #[.int .i64 x, .int .i64 a] w fun e w' => e = .returned (.int .i64 r) ∧ w = w' := by
  subst ha; subst hr
  exact number_any x k hk hk2 h0 h1 w
end
theorem frame_get {xs : List Int} {f j : Nat} (hj : j < 16) : (frameOf xs f)[j]? = xs[f * 16 + j]? := by
  unfold frameOf
  rw [List.getElem?_take, if_pos hj, List.getElem?_drop]
theorem frame_ext {xs ys : List Int} {f : Nat} (h : ∀ j, j < 16 → xs[f * 16 + j]? = ys[f * 16 + j]?) : frameOf xs f = frameOf ys f := by
  apply List.ext_getElem?
  intro j
  by_cases hj : j < 16
  · rw [frame_get hj, frame_get hj]; exact h j hj
  · unfold frameOf
    rw [List.getElem?_take, List.getElem?_take, if_neg hj, if_neg hj]
theorem SlAt.frame {w : World} {g : Nat} {l : List Int} {t : TypeId} {fr : Nat × Nat} (hl : l.length = 16) (h : w.heap[g]? = some (.cells (wA l) t fr)) (c : Nat) : SlAt w .u32 (.slice (some ⟨g, 0, none⟩) 16 c) l := by
  have := SlAt.whole (k := .u32) (c := c) (xs := l) h
  rwa [hl] at this
theorem diffs_none {n n' : Nat} {xs ys : List Int} : ∀ k, (∀ f, f < k → diffB n n' xs ys f = false) → diffs n n' xs ys k = []
  | 0, _ => rfl
  | k + 1, h => by rw [diffs_no (h k (by omega)), diffs_none k (fun f hf => h f (by omega))]
theorem diffB_same {n : Nat} {xs : List Int} {f : Nat} (hf : f < n) : diffB n n xs xs f = false := by simp [diffB, hf]
end Go.Proofs.Ytmhkghkfpkekbaa
