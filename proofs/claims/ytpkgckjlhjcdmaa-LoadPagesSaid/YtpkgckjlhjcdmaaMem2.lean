/- Frames as values: read, stored, compared. -/
import Derived.Test.YtpkgckjlhjcdmaaMem1
import Derived.ChangeKeysEq
import Derived.Deep.WholeRow
import Derived.OwnWalk
namespace Go.Proofs.Ytpkgckjlhjcdmaa
open Go.RowKit
theorem eq_of_range {l k : List Int} {n : Nat} (hl : l.length = n) (hk : k.length = n) : ((List.range n).all fun i => l[i]? == k[i]?) = decide (l = k) := by
  by_cases h : l = k
  · subst h; simp
  · rw [decide_eq_false h, Bool.eq_false_iff]
    intro ha
    apply h
    apply List.ext_getElem?
    intro i
    by_cases hi : i < n
    · have := List.all_eq_true.1 ha i (List.mem_range.2 hi)
      simpa using this
    · rw [List.getElem?_eq_none (by omega), List.getElem?_eq_none (by omega)]
theorem run_eqItems_words (d : Nat) (l k : List Int) (w : World) : ∀ (is : List Nat), (∀ i ∈ is, i < l.length ∧ i < k.length) →
    (Op.eqItems (d + 1) 22 1 (wA l) (wA k) is).run Try.prog w = .ok (is.all fun i => l[i]? == k[i]?) w
  | [], _ => by simp [Op.eqItems]
  | i :: is, h => by
    obtain ⟨h1, h2⟩ := h i (by simp)
    have hp : Try.prog.plainKey 22 = true := by kernel_rfl
    have p1 := run_part_plain (P := Try.prog) w hp (xs := wA l) (off := i * 1) (v := .int .u32 l[i]) (by rw [wA_get]; simp [h1])
    have p2 := run_part_plain (P := Try.prog) w hp (xs := wA k) (off := i * 1) (v := .int .u32 k[i]) (by rw [wA_get]; simp [h2])
    have ih := run_eqItems_words d l k w is (fun j hj => h j (by simp [hj]))
    simp only [Op.eqItems, Sem.run_bind, p1, p2, Result.andThen_ok, run_equalIn_int w d 22 .u32 .u32 _ _ Try.underlying22]
    by_cases e : l[i] = k[i]
    · simp [e, h1, h2, ih]
    · simp [e, h1, h2]
end Go.Proofs.Ytpkgckjlhjcdmaa
