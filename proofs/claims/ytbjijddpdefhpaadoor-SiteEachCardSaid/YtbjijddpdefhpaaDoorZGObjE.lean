/- Lists compared (slices.Equal; the document's own): contracts. (Made by gobje.py.) -/
import Derived.Test.YtbjijddpdefhpaaDoorZGObjB
import Derived.BigQuiet
import Derived.Deep.QuietTactic
import Derived.Laws.StructEq
namespace Go.Proofs.YtbjijddpdefhpaaDoor
open Go.RowKit



theorem rl_guard : Tryd.prog.eqGuardType Tryd.prog.depth 46 = false := by kernel_rfl
set_option maxRecDepth 100000 in
theorem run_neq_rl (a b : Rl) (W : World) : (binOp .neq 46 a.agg b.agg).run Tryd.prog W = .ok (.bool (!decide (a = b))) W := by
  have hS : Tryd.prog.underlying 46 = some (.struct (Tryd.prog.fieldsOf 46)) := by kernel_rfl
  have hp : Tryd.prog.stoodInHeld 46 = false := by kernel_rfl
  have u3 := Tryd.underlying3
  have u4 := Tryd.underlying4
  have u9 := Tryd.underlying9
  have a3 := Tryd.isAgg3
  have a4 := Tryd.isAgg4
  have a9 := Tryd.isAgg9
  have z3 := Tryd.sizeOf3
  have z4 := Tryd.sizeOf4
  have z9 := Tryd.sizeOf9
  obtain ⟨x0, x1, x2, x3⟩ := a
  obtain ⟨y0, y1, y2, y3⟩ := b
  rw [run_neq_struct, show (10000 : Nat) = 9999 + 1 from rfl, run_equalIn_agg W 9999 46 _ _ hS hp]
  simp only [Program.fieldsOf, Tryd.underlying46]
  go_simp
  by_cases h0 : x0 = y0 <;> by_cases h1 : x1 = y1 <;> by_cases h2 : x2 = y2 <;> by_cases h3 : x3 = y3 <;> simp [h0, h1, h2, h3]
theorem quiet_neq_rl {o : Oper} {a : Act} {K : Act → Prop} (W : World) (x y : Operand) (ho : o.op = .binOp .neq 46 x y 46) (l k : Rl) (hx : a.eval x = l.agg) (hy : a.eval y = k.agg)
    (r : Bool) (hr : decide (l = k) = r) (hk : K (a.put o.dst (.bool (!r)))) : o.quiet Tryd.prog a (fun w' => ∃ n, w' = W.drewN n) K :=
  ⟨_, fun w _ => by
    unfold Oper.quietAt execOp
    simp [ho, hx, hy, run_eqGuard_agg w .neq 46 x y _ _ rl_guard, run_neq_rl l k w, hr, Result.andThen, Oper.quietUpon], hk⟩

theorem sy_guard : Tryd.prog.eqGuardType Tryd.prog.depth 44 = false := by kernel_rfl
set_option maxRecDepth 100000 in
theorem run_neq_sy (a b : Sy) (W : World) : (binOp .neq 44 a.agg b.agg).run Tryd.prog W = .ok (.bool (!decide (a = b))) W := by
  have hS : Tryd.prog.underlying 44 = some (.struct (Tryd.prog.fieldsOf 44)) := by kernel_rfl
  have hp : Tryd.prog.stoodInHeld 44 = false := by kernel_rfl
  have u3 := Tryd.underlying3
  have u4 := Tryd.underlying4
  have u9 := Tryd.underlying9
  have a3 := Tryd.isAgg3
  have a4 := Tryd.isAgg4
  have a9 := Tryd.isAgg9
  have z3 := Tryd.sizeOf3
  have z4 := Tryd.sizeOf4
  have z9 := Tryd.sizeOf9
  obtain ⟨x0, x1, x2, x3⟩ := a
  obtain ⟨y0, y1, y2, y3⟩ := b
  rw [run_neq_struct, show (10000 : Nat) = 9999 + 1 from rfl, run_equalIn_agg W 9999 44 _ _ hS hp]
  simp only [Program.fieldsOf, Tryd.underlying44]
  go_simp
  by_cases h0 : x0 = y0 <;> by_cases h1 : x1 = y1 <;> by_cases h2 : x2 = y2 <;> cases x3 <;> cases y3 <;> simp [h0, h1, h2, toList_iff]
theorem quiet_neq_sy {o : Oper} {a : Act} {K : Act → Prop} (W : World) (x y : Operand) (ho : o.op = .binOp .neq 44 x y 44) (l k : Sy) (hx : a.eval x = l.agg) (hy : a.eval y = k.agg)
    (r : Bool) (hr : decide (l = k) = r) (hk : K (a.put o.dst (.bool (!r)))) : o.quiet Tryd.prog a (fun w' => ∃ n, w' = W.drewN n) K :=
  ⟨_, fun w _ => by
    unfold Oper.quietAt execOp
    simp [ho, hx, hy, run_eqGuard_agg w .neq 44 x y _ _ sy_guard, run_neq_sy l k w, hr, Result.andThen, Oper.quietUpon], hk⟩
end Go.Proofs.YtbjijddpdefhpaaDoor
/- Lists compared (slices.Equal; the document's own): contracts. (Made by gobje.py.) -/
namespace Go.Proofs.YtbjijddpdefhpaaDoor
open Go.RowKit



end Go.Proofs.YtbjijddpdefhpaaDoor
