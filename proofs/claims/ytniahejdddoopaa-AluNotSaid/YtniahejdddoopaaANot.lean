/- The walk of the law AluNot. -/
import Derived.Test.YtniahejdddoopaaANot1a
import Derived.Test.YtniahejdddoopaaANot1b
import Derived.Test.YtniahejdddoopaaANot2a
import Derived.Test.YtniahejdddoopaaANot2b
import Derived.Test.YtniahejdddoopaaANot3a
import Derived.Test.YtniahejdddoopaaANot3b
import Derived.Test.YtniahejdddoopaaANot4a
import Derived.Test.YtniahejdddoopaaANot4b
import Derived.Test.YtniahejdddoopaaANot5
import Derived.Test.YtniahejdddoopaaANot6
import Derived.Test.YtniahejdddoopaaANot7
namespace Go.Proofs.Ytniahejdddoopaa
open Go.RowKit
theorem anot_walk (op a b c imm : Int) (l : List Int) (W : World) (i0 : 0 ≤ imm) (i1 : imm ≤ 4294967295) (hl : Regs l) :
    Calls Try.prog 6 #[.agg #[.int .i64 op, .int .i64 a, .int .i64 b, .int .i64 c, .int .u32 imm], .agg (wA l)] W fun e w' => e = .returned (.bool true) ∧ Below W.heap.size W w' := by
  have n (k : Int) (h : op ≠ k) : (op == k) = false := by simpa using h
  have y (k : Int) (h : op = k) : (op == k) = true := by simpa using h
  rcases not_ways (op := op) (a := a) (b := b) (c := c) (imm := imm) rfl rfl with ⟨p1, p2, hT⟩ | ⟨p1, hT⟩ | ⟨p1, hT⟩ | ⟨p1, hT⟩ | ⟨p1, hB, hT⟩ | ⟨p1, p3, p4, p5, hB, hT⟩ | ⟨p1, p2, hB, hT⟩
  · cases hB : aluB op a b c imm
    · exact anot_1b op a b c imm l W i0 i1 hl p1 p2 hB hT
    · exact anot_1a op a b c imm l W i0 i1 hl p1 p2 hB hT
  · cases hB : aluB op a b c imm
    · exact anot_2b op a b c imm l W i0 i1 hl (by omega) (by omega) (y _ p1) hB hT
    · exact anot_2a op a b c imm l W i0 i1 hl (by omega) (by omega) (y _ p1) hB hT
  · cases hB : aluB op a b c imm
    · exact anot_3b op a b c imm l W i0 i1 hl (by omega) (by omega) (n _ (by omega)) (y _ p1) hB hT
    · exact anot_3a op a b c imm l W i0 i1 hl (by omega) (by omega) (n _ (by omega)) (y _ p1) hB hT
  · cases hB : aluB op a b c imm
    · exact anot_4b op a b c imm l W i0 i1 hl (by omega) (by omega) (n _ (by omega)) (n _ (by omega)) (y _ p1) hB hT
    · exact anot_4a op a b c imm l W i0 i1 hl (by omega) (by omega) (n _ (by omega)) (n _ (by omega)) (y _ p1) hB hT
  · exact anot_5 op a b c imm l W i0 i1 hl p1 (n _ (by omega)) (n _ (by omega)) (n _ (by omega)) hB hT
  · exact anot_6 op a b c imm l W i0 i1 hl p1 (by omega) p3 p4 p5 hB hT
  · exact anot_7 op a b c imm l W i0 i1 hl p1 p2 (by omega) (by omega) (n _ (by omega)) (n _ (by omega)) (n _ (by omega)) hB hT
end Go.Proofs.Ytniahejdddoopaa
