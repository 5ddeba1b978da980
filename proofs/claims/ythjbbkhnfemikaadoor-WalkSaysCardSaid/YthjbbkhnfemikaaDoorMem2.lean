/- Frames as values: read, stored, compared. -/
import Derived.Test.YthjbbkhnfemikaaDoorMem1
import Derived.ChangeKeysEq
import Derived.Deep.WholeRow
import Derived.OwnWalk
namespace Go.Proofs.YthjbbkhnfemikaaDoor
open Go.RowKit
/-- a frame's cells -/
def wA (l : List Int) : Array Value := (l.map (Value.int .u32)).toArray
theorem wA_size (l : List Int) : (wA l).size = l.length := by simp [wA]
theorem wA_get (l : List Int) (i : Nat) : (wA l)[i]? = (l[i]?).map (Value.int .u32) := by simp [wA]
theorem wA_one (l : List Int) : (wA l).all (·.oneCell') = true := by
  rw [Array.all_eq_true_iff_forall_mem]
  intro v hv
  simp only [wA, List.mem_toArray, List.mem_map] at hv
  obtain ⟨x, _, rfl⟩ := hv
  rfl
theorem eq_of_range {l k : List Int} {n : Nat} (hl : l.length = n) (hk : k.length = n) : ((List.range n).all fun i => l[i]? == k[i]?) = decide (l = k) := by
  by_cases h : l = k
  · subst h; simp
  · rw [decide_eq_false h, Bool.eq_false_iff]
    intro ha
    apply h
    apply List.ext_getElem?
    intro i
    by_cases hi : i < n
    · have := List.all_eq_true.1 ha i (List.mem_range.2 hi)
      simpa using this
    · rw [List.getElem?_eq_none (by omega), List.getElem?_eq_none (by omega)]
theorem run_eqItems_words (d : Nat) (l k : List Int) (w : World) : ∀ (is : List Nat), (∀ i ∈ is, i < l.length ∧ i < k.length) →
    (Op.eqItems (d + 1) 28 1 (wA l) (wA k) is).run Tryd.prog w = .ok (is.all fun i => l[i]? == k[i]?) w
  | [], _ => by simp [Op.eqItems]
  | i :: is, h => by
    obtain ⟨h1, h2⟩ := h i (by simp)
    have hp : Tryd.prog.plainKey 28 = true := by kernel_rfl
    have p1 := run_part_plain (P := Tryd.prog) w hp (xs := wA l) (off := i * 1) (v := .int .u32 l[i]) (by rw [wA_get]; simp [h1])
    have p2 := run_part_plain (P := Tryd.prog) w hp (xs := wA k) (off := i * 1) (v := .int .u32 k[i]) (by rw [wA_get]; simp [h2])
    have ih := run_eqItems_words d l k w is (fun j hj => h j (by simp [hj]))
    simp only [Op.eqItems, Sem.run_bind, p1, p2, Result.andThen_ok, run_equalIn_int w d 28 .u32 .u32 _ _ Tryd.underlying28]
    by_cases e : l[i] = k[i]
    · simp [e, h1, h2, ih]
    · simp [e, h1, h2]
theorem run_neq_frame (l k : List Int) (hl : l.length = 16) (hk : k.length = 16) (w : World) : (binOp .neq 66 (.agg (wA l)) (.agg (wA k))).run Tryd.prog w = .ok (.bool (!decide (l = k))) w := by
  obtain ⟨i, hi⟩ : ∃ i, Tryd.prog.info? 28 = some i := by
    have : (Tryd.prog.info? 28).isSome = true := by kernel_rfl
    exact Option.isSome_iff_exists.1 this
  have hc : Tryd.prog.cellsOf 28 = 1 := by kernel_rfl
  rw [run_neq_struct, run_equalIn_array w 9999 _ _ Tryd.underlying66 hi, hc, run_eqItems_words 9998 l k w _ (by intro i hi; rw [List.mem_range] at hi; omega)]
  simp only [Result.andThen_ok]
  rw [eq_of_range hl hk]
theorem frame_info : (Tryd.prog.info? 66).map (·.size) = some 16 := by kernel_rfl
end Go.Proofs.YthjbbkhnfemikaaDoor
