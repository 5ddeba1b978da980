/- A bare machine's end, traps, interrupts: contracts. -/
import Derived.Test.YtpkgckjlhjcdmaaDoorZGBareA
import Derived.Test.YtpkgckjlhjcdmaaDoorZGCpu
namespace Go.Proofs.YtpkgckjlhjcdmaaDoor
open Go.RowKit
section
variable {w : World} {B p m bm d n cap : Nat} {q : Int} {M : Mc} {vs vw : Value}
theorem take_no (ca ad : Int) (h : M.c.tv = 0) : takeP M ca ad = ⟨M.xs, M.c, seeD M.d (4, ca, 0), M.now, true, M.ws⟩ := by unfold takeP; rw [if_pos h]
theorem take_yes (ca ad : Int) (h : M.c.tv ≠ 0) : takeP M ca ad = ⟨M.xs, enterP M.c ca ad, M.d, M.now, M.ov, M.ws⟩ := by unfold takeP; rw [if_neg h]
theorem wait_cases (M : Mc) : waitM M = 0 ∨ waitM M = 2 ∨ waitM M = 3 := by
  unfold waitM waitV
  repeat' split
  all_goals first | exact .inl rfl | exact .inr (.inl rfl) | exact .inr (.inr rfl) | (rename_i h; cases h)
theorem int_none (h : waitM M = 0) : intP M = M := by unfold intP; rw [if_pos h]
theorem int_rang (h : waitM M = 2) : intP M = takeP (rangM M) 2 0 := by unfold intP; rw [if_neg (by rw [h]; decide), if_pos h, h]
theorem int_key (h : waitM M = 3) : intP M = takeP M 3 0 := by unfold intP; rw [if_neg (by rw [h]; decide), if_neg (by rw [h]; decide), h]
end
end Go.Proofs.YtpkgckjlhjcdmaaDoor
