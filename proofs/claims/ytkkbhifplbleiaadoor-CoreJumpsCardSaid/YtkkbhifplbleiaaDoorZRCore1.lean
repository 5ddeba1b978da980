/- The document's own Fetch: a contract. (Made by a program.) -/
import Derived.Test.YtkkbhifplbleiaaDoorZCore4
import Derived.Test.YtkkbhifplbleiaaDoorZGRWalk
import Derived.Test.YtkkbhifplbleiaaDoorZGRef
namespace Go.Proofs.YtkkbhifplbleiaaDoor
open Go.RowKit
section
variable {m b n N : Nat} {xs : List Int} {W : World}
/-- where a place is there a word is -/
theorem rd_word (hl : xs.length = n * 16) {root addr : Int} {user : Bool} (hb : atB xs n root addr false user = true) : ∃ k : Nat, atV xs n root addr false user = (k : Int) ∧ xs[k]? = some (rdV xs n root addr user) := by
  obtain ⟨k, hk, hk2⟩ := at_in hb
  refine ⟨k, hk, ?_⟩
  unfold rdV
  rw [if_pos hb]
  have hx : xs[k]? = some xs[k] := List.getElem?_eq_getElem (by omega)
  rw [wordI_get hx hk, hx]
end
end Go.Proofs.YtkkbhifplbleiaaDoor
