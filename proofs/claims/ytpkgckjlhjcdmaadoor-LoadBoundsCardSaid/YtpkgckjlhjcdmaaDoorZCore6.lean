/- core.target, core.jump: contracts. (Made by a program.) -/
import Derived.Test.YtpkgckjlhjcdmaaDoorZCore3
import Derived.Test.YtpkgckjlhjcdmaaDoorZAlu5
import Derived.Test.YtpkgckjlhjcdmaaDoorZGIsaA
import Derived.BigQuiet
namespace Go.Proofs.YtpkgckjlhjcdmaaDoor
open Go.RowKit
theorem regs16_size {l : List Int} (h : l.length = 16) : (Tryd.prog.info? 67).map (·.size) = some (l.map (Value.int .u32)).length := by rw [regs_info, List.length_map, h]
theorem disp_wrap (pc c : Int) : IntKind.u32.wrap (pc + IntKind.u32.wrap ((c + 128) % 256 - 128)) = (pc + ((c + 128) % 256 - 128)) % 4294967296 := by
  rw [IntKind.wrap_u32, IntKind.wrap_u32]; omega
section
variable {l : List Int} {pc : Int} {ie eie : Bool} {epc tv cc cd ca ad op a b c im ln : Int}
/-- what is asked of a jump's register -/
def jrB (op a : Int) : Prop := op = 23 → 0 ≤ a ∧ a < 16
theorem taken_jal (h : insB 22 a b c im = true) : takenB 22 a b c im l = true := by
  unfold takenB askB goesB
  rw [h]; rfl
end
end Go.Proofs.YtpkgckjlhjcdmaaDoor
