/- The walk of the law IsaRegs where C is a number. -/
import Derived.Test.YtkmphiehfacddaaIsa4
import Derived.Test.YtkmphiehfacddaaBase
import Derived.Deep.Cut
import Derived.BigGuardPart
namespace Go.Proofs.Ytkmphiehfacddaa
open Go.RowKit
set_option maxHeartbeats 4000000 in
theorem regs_num (a0 a1 a2 a3 : Int) (w : World) (hc : (clsI a0 == 0) = false) (hn : rN a0 = true) :
    Calls Try.prog 4 #[.int .i64 a0, .int .i64 a1, .int .i64 a2, .int .i64 a3] w fun e w' => e = .returned (.bool true) ∧ Below w.heap.size w w' := by
  obtain ⟨x1, x2, x3, x4⟩ := alw_conds (rA a0) 15 (insB a0 a1 0 0 0) a1 (insA_is (by simpa using hc) a1)
  obtain ⟨y1, y2, y3, y4⟩ := alw_conds (rB a0) 15 (insB a0 0 a2 0 0) a2 (insBs_is (by simpa using hc) a2)
  obtain ⟨z1, z2, z3, z4⟩ := alw_conds (rC a0) 255 (insB a0 0 0 a3 0) a3 (insC_is' (by simpa using hc) hn a3)
  have H1 := hid (insA_is (by simpa using hc) a1)
  have H2 := hid (insBs_is (by simpa using hc) a2)
  have H3 := hid (insC_is' (by simpa using hc) hn a3)
  go_enter Try.func4, Try.ntmps4
  go_upto_region 14 with (first | (go_at_call 6; refine (first_any _).mono ?_; rintro e w' ⟨rfl, hB⟩) | (go_at_call 14; refine (uses_any _ _).mono ?_; rintro e w' ⟨rfl, rfl⟩) | (go_at_call 15; refine (rclass_any _ _).mono ?_; rintro e w' ⟨rfl, rfl⟩) | (go_at_call 10; refine (word_any _ _ _ _ _ _).mono ?_; rintro e w' ⟨rfl, hb1⟩; replace hB := hB.trans (hb1.mono hB.size); clear hb1))
  go_wp2
  all_goals
    go_ret
    have e1 := H1.out
    have e2 := H2.out
    have e3 := H3.out
    clear H1 H2 H3 x1 x2 x3 x4 y1 y2 y3 y4 z1 z2 z3 z4
    first | exact ⟨rfl, hB⟩ | (exfalso; clear hB; simp_all; done) | (exfalso; clear hB; simp_all; omega) | exact ⟨ret_b (by clear hB; simp_all; done), hB⟩ | exact ⟨ret_b (by clear hB; simp_all; omega), hB⟩
end Go.Proofs.Ytkmphiehfacddaa
