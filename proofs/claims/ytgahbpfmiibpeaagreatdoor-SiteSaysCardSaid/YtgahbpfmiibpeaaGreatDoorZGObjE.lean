/- Lists compared (slices.Equal; the document's own): contracts. (Made by gobje.py.) -/
import Derived.Test.YtgahbpfmiibpeaaGreatDoorZGObjB
import Derived.BigQuiet
import Derived.Deep.QuietTactic
import Derived.Laws.StructEq
namespace Go.Proofs.YtgahbpfmiibpeaaGreatDoor
open Go.RowKit



theorem rl_guard : Tryz.prog.eqGuardType Tryz.prog.depth 90 = false := by kernel_rfl
set_option maxRecDepth 100000 in
theorem run_neq_rl (a b : Rl) (W : World) : (binOp .neq 90 a.agg b.agg).run Tryz.prog W = .ok (.bool (!decide (a = b))) W := by
  have hS : Tryz.prog.underlying 90 = some (.struct (Tryz.prog.fieldsOf 90)) := by kernel_rfl
  have hp : Tryz.prog.stoodInHeld 90 = false := by kernel_rfl
  have u3 := Tryz.underlying3
  have u4 := Tryz.underlying4
  have u9 := Tryz.underlying9
  have a3 := Tryz.isAgg3
  have a4 := Tryz.isAgg4
  have a9 := Tryz.isAgg9
  have z3 := Tryz.sizeOf3
  have z4 := Tryz.sizeOf4
  have z9 := Tryz.sizeOf9
  obtain ⟨x0, x1, x2, x3⟩ := a
  obtain ⟨y0, y1, y2, y3⟩ := b
  rw [run_neq_struct, show (10000 : Nat) = 9999 + 1 from rfl, run_equalIn_agg W 9999 90 _ _ hS hp]
  simp only [Program.fieldsOf, Tryz.underlying90]
  go_simp
  by_cases h0 : x0 = y0 <;> by_cases h1 : x1 = y1 <;> by_cases h2 : x2 = y2 <;> by_cases h3 : x3 = y3 <;> simp [h0, h1, h2, h3]
theorem quiet_neq_rl {o : Oper} {a : Act} {K : Act → Prop} (W : World) (x y : Operand) (ho : o.op = .binOp .neq 90 x y 90) (l k : Rl) (hx : a.eval x = l.agg) (hy : a.eval y = k.agg)
    (r : Bool) (hr : decide (l = k) = r) (hk : K (a.put o.dst (.bool (!r)))) : o.quiet Tryz.prog a (fun w' => ∃ n, w' = W.drewN n) K :=
  ⟨_, fun w _ => by
    unfold Oper.quietAt execOp
    simp [ho, hx, hy, run_eqGuard_agg w .neq 90 x y _ _ rl_guard, run_neq_rl l k w, hr, Result.andThen, Oper.quietUpon], hk⟩

theorem sy_guard : Tryz.prog.eqGuardType Tryz.prog.depth 88 = false := by kernel_rfl
set_option maxRecDepth 100000 in
theorem run_neq_sy (a b : Sy) (W : World) : (binOp .neq 88 a.agg b.agg).run Tryz.prog W = .ok (.bool (!decide (a = b))) W := by
  have hS : Tryz.prog.underlying 88 = some (.struct (Tryz.prog.fieldsOf 88)) := by kernel_rfl
  have hp : Tryz.prog.stoodInHeld 88 = false := by kernel_rfl
  have u3 := Tryz.underlying3
  have u4 := Tryz.underlying4
  have u9 := Tryz.underlying9
  have a3 := Tryz.isAgg3
  have a4 := Tryz.isAgg4
  have a9 := Tryz.isAgg9
  have z3 := Tryz.sizeOf3
  have z4 := Tryz.sizeOf4
  have z9 := Tryz.sizeOf9
  obtain ⟨x0, x1, x2, x3⟩ := a
  obtain ⟨y0, y1, y2, y3⟩ := b
  rw [run_neq_struct, show (10000 : Nat) = 9999 + 1 from rfl, run_equalIn_agg W 9999 88 _ _ hS hp]
  simp only [Program.fieldsOf, Tryz.underlying88]
  go_simp
  by_cases h0 : x0 = y0 <;> by_cases h1 : x1 = y1 <;> by_cases h2 : x2 = y2 <;> cases x3 <;> cases y3 <;> simp [h0, h1, h2, toList_iff]
theorem quiet_neq_sy {o : Oper} {a : Act} {K : Act → Prop} (W : World) (x y : Operand) (ho : o.op = .binOp .neq 88 x y 88) (l k : Sy) (hx : a.eval x = l.agg) (hy : a.eval y = k.agg)
    (r : Bool) (hr : decide (l = k) = r) (hk : K (a.put o.dst (.bool (!r)))) : o.quiet Tryz.prog a (fun w' => ∃ n, w' = W.drewN n) K :=
  ⟨_, fun w _ => by
    unfold Oper.quietAt execOp
    simp [ho, hx, hy, run_eqGuard_agg w .neq 88 x y _ _ sy_guard, run_neq_sy l k w, hr, Result.andThen, Oper.quietUpon], hk⟩
end Go.Proofs.YtgahbpfmiibpeaaGreatDoor
/- Lists compared (slices.Equal; the document's own): contracts. (Made by gobje.py.) -/
namespace Go.Proofs.YtgahbpfmiibpeaaGreatDoor
open Go.RowKit



end Go.Proofs.YtgahbpfmiibpeaaGreatDoor
