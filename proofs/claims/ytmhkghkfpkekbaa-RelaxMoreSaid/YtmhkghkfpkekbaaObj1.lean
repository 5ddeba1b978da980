/- The operation at a word; branches, far jumps (package obj): contracts. -/
import Derived.Test.YtmhkghkfpkekbaaObj0
import Derived.BigGuardPart
namespace Go.Proofs.Ytmhkghkfpkekbaa
open Go.RowKit
theorem wantImm_zero (op : Int) : wantImm op 0 = 0 := by unfold wantImm; split <;> rfl
/-- behind Of: the operation -/
def OpAt (w : World) (n : Int) (e : Ending) (w' : World) : Prop :=
  ∃ a b c d : Int, ∃ t : Bool, e = .returned (.tuple #[.agg #[.int .i64 n, .int .i64 a, .int .i64 b, .int .i64 c, .int .u32 d], .bool t]) ∧ w.grownBy w' none
section
variable {w : World} {V : OV} {x : PO}
end
end Go.Proofs.Ytmhkghkfpkekbaa
