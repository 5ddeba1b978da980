/- Lines of a law's own, in a slice that grows. -/
import Derived.Test.YtogdpaaofihkgaaGreatDoorYMkX
import Derived.Test.YtogdpaaofihkgaaGreatDoorYLnk17
import Derived.Test.YtogdpaaofihkgaaGreatDoorYOWr0
import Derived.Test.YtogdpaaofihkgaaGreatDoorYBase
namespace Go.Proofs.YtogdpaaofihkgaaGreatDoor
open Go.RowKit
structure LxW (w0 w : World) (v : Value) (ls : List Lx) : Prop where
  own : w.ownsRow w0.heap.size 29 8 v ls.length (csL lxC ls)
  g : w0.grownBy w none
section
variable {w0 w w1 : World} {v : Value} {ls : List Lx}
theorem LxW.kept0 (h : LxW w0 w v ls) (hg : w.grownBy w1 none) : LxW w0 w1 v ls := ⟨own_keep0 h.own hg, grown_trans h.g hg⟩
theorem LxW.cs (h : LxW w0 w v ls) : CsAt w v ls.length (csL lxC ls) := CsAt.own h.own
theorem LxW.add (h : LxW w0 w v ls) {v' : Value} (ms : List Lx) (ho : w1.ownsRow w0.heap.size 29 8 v' (ls.length + ms.length) (csL lxC ls ++ csL lxC ms)) (hg : w.grownBy w1 v.ownBlock) : LxW w0 w1 v' (ls ++ ms) := by
  refine ⟨?_, grown_new' (grown_trans (grown_none h.g) hg) (fun j hj => (h.own.lt j hj).1)⟩
  rw [List.length_append, csL_append]
  exact ho
theorem info_lnx : ∃ i : TypeInfo, Tryz.prog.info? 29 = some i ∧ i.zero = some (.agg #[.int .i64 0, .int .i64 0, .int .i64 0, .int .i64 0, .int .u32 0, .string ⟨#[]⟩, .string ⟨#[]⟩, .bool false]) ∧ i.size = 8 ∧ i.bytes = 80 := info_parts (P := Tryz.prog) (e := 29) (z := .agg #[.int .i64 0, .int .i64 0, .int .i64 0, .int .i64 0, .int .u32 0, .string ⟨#[]⟩, .string ⟨#[]⟩, .bool false]) (size := 8) (bytes := 80) (by kernel_rfl)
end
end Go.Proofs.YtogdpaaofihkgaaGreatDoor
