/- facademake's Op: contracts. -/
import Derived.Test.YtgahbpfmiibpeaaGreatDoorZGCore
namespace Go.Proofs.YtgahbpfmiibpeaaGreatDoor
open Go.RowKit
/-- a line of an instruction -/
def lnC (op a : Int) : Array Value := #[.int .i64 op, .int .i64 a, .int .i64 0, .int .i64 0, .int .u32 0, .string ByteArray.empty, .string ByteArray.empty, .bool false]
theorem zero_line (w : World) : (zeroValue 60).run Tryz.prog w = .ok (.agg (lnC 0 0)) w := by kernel_rfl
theorem build_line (op : Int) (w : World) : (Instr.build 60 #[(0, .agg (inC op 0 0 0 0))]).run Tryz.prog w = .ok (.agg (lnC op 0)) w := by kernel_rfl
theorem build_op (op : Int) (w : World) : (Instr.build 48 #[(0, .int .i64 op)]).run Tryz.prog w = .ok (.agg (inC op 0 0 0 0)) w := by kernel_rfl
theorem line_one (op a : Int) : (lnC op a).all (·.oneCell') = true := by simp [lnC, Value.oneCell']
section
variable {ops : Array Oper} {rest : List Oper} {o : Oper} {A : Act} {w : World} {Q : Exit → Act → World → Prop}
theorem wpList_build_op (hgd : o.guard = none) (x : Operand) (ho : o.op = .build 48 #[(0, x)]) {op : Int} (hx : A.eval x = .int .i64 op) (h : wpList Tryz.prog ops Q rest (A.put o.dst (.agg (inC op 0 0 0 0))) w) : wpList Tryz.prog ops Q (o :: rest) A w := by
  refine wpList_plain hgd fun K hK => ?_
  unfold Oper.wp
  simp [execOp, ho, hx, build_op op w, Result.andThen]
  exact hK _ _ h
theorem wpList_build_line (hgd : o.guard = none) (x : Operand) (ho : o.op = .build 60 #[(0, x)]) {op : Int} (hx : A.eval x = .agg (inC op 0 0 0 0)) (h : wpList Tryz.prog ops Q rest (A.put o.dst (.agg (lnC op 0))) w) : wpList Tryz.prog ops Q (o :: rest) A w := by
  refine wpList_plain hgd fun K hK => ?_
  unfold Oper.wp
  simp [execOp, ho, hx, build_line op w, Result.andThen]
  exact hK _ _ h
end
theorem RwAt.sA {w : World} {B : Nat} {t : TypeId} {op a : Int} (h : RwAt w B t (lnC op a)) (v : Int) : RwAt (w.setCell ⟨B, 1, none⟩ (.int .i64 v)) B t (lnC op v) := h.set 1 _
set_option maxRecDepth 100000 in
set_option maxHeartbeats 1000000 in
theorem op_nil (op : Int) (W : World) : Calls Tryz.prog 25 #[.int .i64 op, .slice none 0 0] W fun e w' => e = .returned (.agg (lnC op 0)) ∧ W.grownBy w' none := by
  have Hz := zero_line
  obtain ⟨b1, b2, e1, e2⟩ : ∃ b1 b2, b1 = W.heap.size ∧ b2 = b1 + 1 := ⟨_, _, rfl, rfl⟩
  have hg : W.grownBy (((W.alloc (.cells (lnC 0 0) 60)).alloc (.cells (lnC 0 0) 60)).setRow (W.heap.size + 1) (lnC op 0)) none := grown_setRow (grown_alloc (grown_alloc (grown_refl _ _) _) _) (Nat.le_succ _) _
  have H1 : Hid (RwAt (((W.alloc (.cells (lnC 0 0) 60)).alloc (.cells (lnC 0 0) 60)).setRow (W.heap.size + 1) (lnC op 0)) W.heap.size 60 (lnC 0 0)) := hid (((RwAt.new W _ _).alloc _).rowOther _ _ (by omega))
  have H2 : Hid (RwAt (((W.alloc (.cells (lnC 0 0) 60)).alloc (.cells (lnC 0 0) 60)).setRow (W.heap.size + 1) (lnC op 0)) (W.heap.size + 1) 60 (lnC op 0)) := hid ((RwAt.new2 W _ _ _).row _)
  have HG := hid hg
  clear hg
  go_enter Tryz.func25, Tryz.ntmps25
  go_upto_region 2 with (first
    | (refine wpList_build_op rfl _ rfl rfl ?_)
    | (refine wpList_build_line rfl _ rfl rfl ?_)
    | (refine wpList_store_rw rfl 60 _ _ rfl rfl rfl (RwAt.new2 _ _ _ _) (by kernel_rfl) rfl (line_one _ _) ?_)
    | fail)
  generalize (((W.alloc (.cells (lnC 0 0) 60)).alloc (.cells (lnC 0 0) 60)).setRow (W.heap.size + 1) (lnC op 0)) = w2 at H1 H2 HG ⊢
  have HB : Hid (W.heap.size ≤ b1) := hid (Nat.le_of_eq e1.symm)
  rw [← e1, ← e2] at H2
  rw [← e1] at H1
  rw [← e1, ← e2]
  clear e1 e2
  have E1 := hid (H1.out.row (lnC op 0))
  have EG := hid (grown_setRow HG.out HB.out (lnC op 0))
  go_wp2_with (first
    | (refine wpList_load_rw rfl 60 _ rfl rfl H2.out rfl Tryz.underlying60 (by kernel_rfl) ?_)
    | (refine wpList_store_rw rfl 60 _ _ rfl rfl rfl H1.out (by kernel_rfl) rfl (line_one _ _) ?_)
    | fail)
  refine bodyPost_ret (results_cell_row Tryz.results25 _ _ b1 _ _ _ _ rfl E1.out.blk Tryz.underlying60 rfl (by kernel_rfl)) rfl ?_
  exact ⟨rfl, EG.out⟩
set_option maxRecDepth 100000 in
set_option maxHeartbeats 1000000 in
theorem op_one (op a : Int) (g : Nat) (W : World) (hc : W.cell? ⟨g, 0, none⟩ = some (.int .i64 a)) (hgW : g < W.heap.size) : Calls Tryz.prog 25 #[.int .i64 op, .slice (some ⟨g, 0, none⟩) 1 1] W fun e w' => e = .returned (.agg (lnC op a)) ∧ W.grownBy w' none := by
  have Hz := zero_line
  obtain ⟨b1, b2, e1, e2⟩ : ∃ b1 b2, b1 = W.heap.size ∧ b2 = b1 + 1 := ⟨_, _, rfl, rfl⟩
  have hg : W.grownBy (((W.alloc (.cells (lnC 0 0) 60)).alloc (.cells (lnC 0 0) 60)).setRow (W.heap.size + 1) (lnC op 0)) none := grown_setRow (grown_alloc (grown_alloc (grown_refl _ _) _) _) (Nat.le_succ _) _
  have H1 : Hid (RwAt (((W.alloc (.cells (lnC 0 0) 60)).alloc (.cells (lnC 0 0) 60)).setRow (W.heap.size + 1) (lnC op 0)) W.heap.size 60 (lnC 0 0)) := hid (((RwAt.new W _ _).alloc _).rowOther _ _ (by omega))
  have H2 : Hid (RwAt (((W.alloc (.cells (lnC 0 0) 60)).alloc (.cells (lnC 0 0) 60)).setRow (W.heap.size + 1) (lnC op 0)) (W.heap.size + 1) 60 (lnC op 0)) := hid ((RwAt.new2 W _ _ _).row _)
  have HG := hid hg
  have HC := hid hc
  have HW := hid hgW
  clear hg hc hgW
  go_enter Tryz.func25, Tryz.ntmps25
  go_upto_region 2 with (first
    | (refine wpList_build_op rfl _ rfl rfl ?_)
    | (refine wpList_build_line rfl _ rfl rfl ?_)
    | (refine wpList_store_rw rfl 60 _ _ rfl rfl rfl (RwAt.new2 _ _ _ _) (by kernel_rfl) rfl (line_one _ _) ?_)
    | fail)
  generalize (((W.alloc (.cells (lnC 0 0) 60)).alloc (.cells (lnC 0 0) 60)).setRow (W.heap.size + 1) (lnC op 0)) = w2 at H1 H2 HG ⊢
  have HB : Hid (W.heap.size ≤ b1) := hid (Nat.le_of_eq e1.symm)
  have NE : Hid (b1 ≠ b2) := hid (by omega)
  have HB2 : Hid (W.heap.size ≤ b2) := hid (by omega)
  rw [← e1, ← e2] at H2
  rw [← e1] at H1
  rw [← e1, ← e2]
  clear e1 e2
  have kc := (grown_cell (p := ⟨g, 0, none⟩) HG.out HW.out (by simp)).trans HC.out
  have k1 : w2.cell? ⟨b2, 1, none⟩ = some (.int .i64 0) := H2.out.cell 1 rfl
  have kf := fun j => H2.out.free j
  have H3 := hid (H2.out.sA a)
  have H4 := hid (H1.out.other b2 1 (.int .i64 a) NE.out)
  have HG4 := hid (grown_setN HG.out HB2.out 1 (.int .i64 a))
  go_upto_region 4 with (fail)
  clear kc k1 kf H1 H2 HG
  generalize w2.setCell ⟨b2, 1, none⟩ (.int .i64 a) = w3 at H3 H4 HG4 ⊢
  have E1 := hid (H4.out.row (lnC op a))
  have EG := hid (grown_setRow HG4.out HB.out (lnC op a))
  go_wp2_with (first
    | (refine wpList_load_rw rfl 60 _ rfl rfl H3.out rfl Tryz.underlying60 (by kernel_rfl) ?_)
    | (refine wpList_store_rw rfl 60 _ _ rfl rfl rfl H4.out (by kernel_rfl) rfl (line_one _ _) ?_)
    | fail)
  refine bodyPost_ret (results_cell_row Tryz.results25 _ _ b1 _ _ _ _ rfl E1.out.blk Tryz.underlying60 rfl (by kernel_rfl)) rfl ?_
  exact ⟨rfl, EG.out⟩
end Go.Proofs.YtgahbpfmiibpeaaGreatDoor
