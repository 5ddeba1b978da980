/- A processor (api.CPU) as a value, in a block; how that is carried on. -/
import Derived.Test.YtogdpaaofihkgaaGreatDoorYBase
import Derived.Test.YtogdpaaofihkgaaGreatDoorRows
import Derived.WalkKit
import Derived.ProofKit
import Derived.OpenShut
import Derived.Below
import Derived.ChangeSame
import Derived.Laws.MakeOwn
import Derived.Deep.MidRow
import Derived.Deep.Draws
import Derived.WalkSpells
import Derived.WalkLawsBesides
import Derived.Handy
import Derived.RegionTactic
import Derived.Deep.QuietTactic
import Derived.Deep.WholeRow
import Derived.BigQuiet
import Derived.IntWalk
import Derived.Outline
import Derived.Laws.AppendOwn
import Derived.LoopTactic
import Derived.Carry
import Derived.ChangeSlices
import Derived.WideKeyArgs
import Derived.Lib.SmallJoins
import Derived.Deep.AppendLies
import Derived.Laws.BitsLemmas
import Derived.StillTailTactics
import Derived.Deep.Cut
import Derived.ChangeKeysEq
import Derived.OwnWalk
import Derived.Laws.CopyOwn
import Derived.Deep.RegionHeld3
import Derived.Test.YtogdpaaofihkgaaGreatDoorYIsa2
import Derived.LaidEql
import Derived.Stop.LaidErr
import Derived.Laws.ResultCell
import Derived.Test.YtogdpaaofihkgaaGreatDoorYObj12
import Derived.BigGuardPart
import Derived.WideShapes
import Derived.Laws.StructEq
import Derived.Lib.SliceRun
import Derived.Test.YtogdpaaofihkgaaGreatDoorYObj5
import Derived.Lib.AppendStr
import Derived.Deep.Slices
import Derived.ChangeArms
import Derived.Deep.CutRange
import Derived.Deep.CutBlock
import Derived.Test.YtogdpaaofihkgaaGreatDoorYOWr0
import Derived.Laws.BytesArg
import Derived.Laws.Rows
import Derived.Test.YtogdpaaofihkgaaGreatDoorYRvB
import Derived.Test.YtogdpaaofihkgaaGreatDoorYObjS
import Derived.MapKept
import Derived.Laws.OwnMore
import Derived.Laws.BitsAllLaws
import Derived.Deep.RegionLaw
import Derived.Test.YtogdpaaofihkgaaGreatDoorYSymX
import Derived.Test.YtogdpaaofihkgaaGreatDoorYLnk10
namespace Go.Proofs.YtogdpaaofihkgaaGreatDoor
open Go.RowKit
section
variable {x : Cp} (h : x.l.length = 16)
include h
end
section
variable {w w1 : World} {B : Nat} {x : Cp}
end
/-! ### whole processors, loaded and stored -/
section
variable {ops : Array Oper} {rest : List Oper} {o : Oper} {a : Act} {w : World} {Q : Exit → Act → World → Prop} {g : Nat} {y : Cp}
end
/-! ### what the calls make of a processor -/
/-- what was written is new -/
theorem grown_setN {w w1 : World} (h : w.grownBy w1 none) {B : Nat} (hB : w.heap.size ≤ B) (k : Nat) (v : Value) : w.grownBy (w1.setCell ⟨B, k, none⟩ v) none :=
  ⟨h.os, h.tape, h.output, by have := h.size; simpa using this, fun i hi hr => (heap_setCell_other _ _ _ _ (by show i ≠ B; omega)).trans (h.block i hi hr)⟩
end Go.Proofs.YtogdpaaofihkgaaGreatDoor
namespace Go.Proofs.YtogdpaaofihkgaaGreatDoor
open Go.RowKit
section
variable {w w1 : World} {B : Nat} {t : TypeId} {cs : Array Value}
end
/-! ### regions that load whole structs first -/
section
variable {P : Program} {ops : Array Oper} {rest : List Oper} {o : Oper} {a : Act} {w : World} {Q : Act → Prop}
end
section
variable {ops : Array Oper} {rest : List Oper} {o : Oper} {a : Act} {w : World}
end
/-! ### stops and instructions -/
section
variable {w : World} {B : Nat} {t : TypeId} {ca ad op a b c im ln : Int}
end
/-! ### registers of a processor in a block, written -/
section
variable {w : World} {B : Nat}
theorem RwAt.rowOther {t : TypeId} {cs : Array Value} (h : RwAt w B t cs) (C : Nat) (c : Array Value) (hC : B ≠ C) : RwAt (w.setRow C c) B t cs :=
  ⟨(setRow_other w C B c hC).trans h.blk⟩
end
end Go.Proofs.YtogdpaaofihkgaaGreatDoor
namespace Go.Proofs.YtogdpaaofihkgaaGreatDoor
open Go.RowKit
/-- a line of an instruction -/
def lnC (op a : Int) : Array Value := #[.int .i64 op, .int .i64 a, .int .i64 0, .int .i64 0, .int .u32 0, .string ByteArray.empty, .string ByteArray.empty, .bool false]
theorem zero_line (w : World) : (zeroValue 29).run Tryz.prog w = .ok (.agg (lnC 0 0)) w := by kernel_rfl
theorem build_line (op : Int) (w : World) : (Instr.build 29 #[(0, .agg (inC op 0 0 0 0))]).run Tryz.prog w = .ok (.agg (lnC op 0)) w := by kernel_rfl
theorem build_op (op : Int) (w : World) : (Instr.build 27 #[(0, .int .i64 op)]).run Tryz.prog w = .ok (.agg (inC op 0 0 0 0)) w := by kernel_rfl
theorem line_one (op a : Int) : (lnC op a).all (·.oneCell') = true := by simp [lnC, Value.oneCell']
section
variable {ops : Array Oper} {rest : List Oper} {o : Oper} {A : Act} {w : World} {Q : Exit → Act → World → Prop}
theorem wpList_build_op (hgd : o.guard = none) (x : Operand) (ho : o.op = .build 27 #[(0, x)]) {op : Int} (hx : A.eval x = .int .i64 op) (h : wpList Tryz.prog ops Q rest (A.put o.dst (.agg (inC op 0 0 0 0))) w) : wpList Tryz.prog ops Q (o :: rest) A w := by
  refine wpList_plain hgd fun K hK => ?_
  unfold Oper.wp
  simp [execOp, ho, hx, build_op op w, Result.andThen]
  exact hK _ _ h
theorem wpList_build_line (hgd : o.guard = none) (x : Operand) (ho : o.op = .build 29 #[(0, x)]) {op : Int} (hx : A.eval x = .agg (inC op 0 0 0 0)) (h : wpList Tryz.prog ops Q rest (A.put o.dst (.agg (lnC op 0))) w) : wpList Tryz.prog ops Q (o :: rest) A w := by
  refine wpList_plain hgd fun K hK => ?_
  unfold Oper.wp
  simp [execOp, ho, hx, build_line op w, Result.andThen]
  exact hK _ _ h
end
theorem RwAt.sA {w : World} {B : Nat} {t : TypeId} {op a : Int} (h : RwAt w B t (lnC op a)) (v : Int) : RwAt (w.setCell ⟨B, 1, none⟩ (.int .i64 v)) B t (lnC op v) := h.set 1 _
set_option maxRecDepth 100000 in
set_option maxHeartbeats 1000000 in
theorem op_nil (op : Int) (W : World) : Calls Tryz.prog 9 #[.int .i64 op, .slice none 0 0] W fun e w' => e = .returned (.agg (lnC op 0)) ∧ W.grownBy w' none := by
  have Hz := zero_line
  obtain ⟨b1, b2, e1, e2⟩ : ∃ b1 b2, b1 = W.heap.size ∧ b2 = b1 + 1 := ⟨_, _, rfl, rfl⟩
  have hg : W.grownBy (((W.alloc (.cells (lnC 0 0) 29)).alloc (.cells (lnC 0 0) 29)).setRow (W.heap.size + 1) (lnC op 0)) none := grown_setRow (grown_alloc (grown_alloc (grown_refl _ _) _) _) (Nat.le_succ _) _
  have H1 : Hid (RwAt (((W.alloc (.cells (lnC 0 0) 29)).alloc (.cells (lnC 0 0) 29)).setRow (W.heap.size + 1) (lnC op 0)) W.heap.size 29 (lnC 0 0)) := hid (((RwAt.new W _ _).alloc _).rowOther _ _ (by omega))
  have H2 : Hid (RwAt (((W.alloc (.cells (lnC 0 0) 29)).alloc (.cells (lnC 0 0) 29)).setRow (W.heap.size + 1) (lnC op 0)) (W.heap.size + 1) 29 (lnC op 0)) := hid ((RwAt.new2 W _ _ _).row _)
  have HG := hid hg
  clear hg
  go_enter Tryz.func9, Tryz.ntmps9
  go_upto_region 2 with (first
    | (refine wpList_build_op rfl _ rfl rfl ?_)
    | (refine wpList_build_line rfl _ rfl rfl ?_)
    | (refine wpList_store_rw rfl 29 _ _ rfl rfl rfl (RwAt.new2 _ _ _ _) (by kernel_rfl) rfl (line_one _ _) ?_)
    | fail)
  generalize (((W.alloc (.cells (lnC 0 0) 29)).alloc (.cells (lnC 0 0) 29)).setRow (W.heap.size + 1) (lnC op 0)) = w2 at H1 H2 HG ⊢
  have HB : Hid (W.heap.size ≤ b1) := hid (Nat.le_of_eq e1.symm)
  rw [← e1, ← e2] at H2
  rw [← e1] at H1
  rw [← e1, ← e2]
  clear e1 e2
  have E1 := hid (H1.out.row (lnC op 0))
  have EG := hid (grown_setRow HG.out HB.out (lnC op 0))
  go_wp2_with (first
    | (refine wpList_load_rw rfl 29 _ rfl rfl H2.out rfl Tryz.underlying29 (by kernel_rfl) ?_)
    | (refine wpList_store_rw rfl 29 _ _ rfl rfl rfl H1.out (by kernel_rfl) rfl (line_one _ _) ?_)
    | fail)
  refine bodyPost_ret (results_cell_row Tryz.results9 _ _ b1 _ _ _ _ rfl E1.out.blk Tryz.underlying29 rfl (by kernel_rfl)) rfl ?_
  exact ⟨rfl, EG.out⟩
set_option maxRecDepth 100000 in
set_option maxHeartbeats 1000000 in
theorem op_one (op a : Int) (g : Nat) (W : World) (hc : W.cell? ⟨g, 0, none⟩ = some (.int .i64 a)) (hgW : g < W.heap.size) : Calls Tryz.prog 9 #[.int .i64 op, .slice (some ⟨g, 0, none⟩) 1 1] W fun e w' => e = .returned (.agg (lnC op a)) ∧ W.grownBy w' none := by
  have Hz := zero_line
  obtain ⟨b1, b2, e1, e2⟩ : ∃ b1 b2, b1 = W.heap.size ∧ b2 = b1 + 1 := ⟨_, _, rfl, rfl⟩
  have hg : W.grownBy (((W.alloc (.cells (lnC 0 0) 29)).alloc (.cells (lnC 0 0) 29)).setRow (W.heap.size + 1) (lnC op 0)) none := grown_setRow (grown_alloc (grown_alloc (grown_refl _ _) _) _) (Nat.le_succ _) _
  have H1 : Hid (RwAt (((W.alloc (.cells (lnC 0 0) 29)).alloc (.cells (lnC 0 0) 29)).setRow (W.heap.size + 1) (lnC op 0)) W.heap.size 29 (lnC 0 0)) := hid (((RwAt.new W _ _).alloc _).rowOther _ _ (by omega))
  have H2 : Hid (RwAt (((W.alloc (.cells (lnC 0 0) 29)).alloc (.cells (lnC 0 0) 29)).setRow (W.heap.size + 1) (lnC op 0)) (W.heap.size + 1) 29 (lnC op 0)) := hid ((RwAt.new2 W _ _ _).row _)
  have HG := hid hg
  have HC := hid hc
  have HW := hid hgW
  clear hg hc hgW
  go_enter Tryz.func9, Tryz.ntmps9
  go_upto_region 2 with (first
    | (refine wpList_build_op rfl _ rfl rfl ?_)
    | (refine wpList_build_line rfl _ rfl rfl ?_)
    | (refine wpList_store_rw rfl 29 _ _ rfl rfl rfl (RwAt.new2 _ _ _ _) (by kernel_rfl) rfl (line_one _ _) ?_)
    | fail)
  generalize (((W.alloc (.cells (lnC 0 0) 29)).alloc (.cells (lnC 0 0) 29)).setRow (W.heap.size + 1) (lnC op 0)) = w2 at H1 H2 HG ⊢
  have HB : Hid (W.heap.size ≤ b1) := hid (Nat.le_of_eq e1.symm)
  have NE : Hid (b1 ≠ b2) := hid (by omega)
  have HB2 : Hid (W.heap.size ≤ b2) := hid (by omega)
  rw [← e1, ← e2] at H2
  rw [← e1] at H1
  rw [← e1, ← e2]
  clear e1 e2
  have kc := (grown_cell (p := ⟨g, 0, none⟩) HG.out HW.out (by simp)).trans HC.out
  have k1 : w2.cell? ⟨b2, 1, none⟩ = some (.int .i64 0) := H2.out.cell 1 rfl
  have kf := fun j => H2.out.free j
  have H3 := hid (H2.out.sA a)
  have H4 := hid (H1.out.other b2 1 (.int .i64 a) NE.out)
  have HG4 := hid (grown_setN HG.out HB2.out 1 (.int .i64 a))
  go_upto_region 4 with (fail)
  clear kc k1 kf H1 H2 HG
  generalize w2.setCell ⟨b2, 1, none⟩ (.int .i64 a) = w3 at H3 H4 HG4 ⊢
  have E1 := hid (H4.out.row (lnC op a))
  have EG := hid (grown_setRow HG4.out HB.out (lnC op a))
  go_wp2_with (first
    | (refine wpList_load_rw rfl 29 _ rfl rfl H3.out rfl Tryz.underlying29 (by kernel_rfl) ?_)
    | (refine wpList_store_rw rfl 29 _ _ rfl rfl rfl H4.out (by kernel_rfl) rfl (line_one _ _) ?_)
    | fail)
  refine bodyPost_ret (results_cell_row Tryz.results9 _ _ b1 _ _ _ _ rfl E1.out.blk Tryz.underlying29 rfl (by kernel_rfl)) rfl ?_
  exact ⟨rfl, EG.out⟩
end Go.Proofs.YtogdpaaofihkgaaGreatDoor
namespace Go.Proofs.YtogdpaaofihkgaaGreatDoor
open Go.RowKit
theorem numB_lt (n : Int) {k : Nat} (hk : 0 < k) : numB n k < k := by unfold numB; have := Int.emod_lt_of_pos n (show (0 : Int) < k by omega); have := Int.emod_nonneg n (show (k : Int) ≠ 0 by omega); omega
end Go.Proofs.YtogdpaaofihkgaaGreatDoor
namespace Go.Proofs.YtogdpaaofihkgaaGreatDoor
open Go.RowKit
/-! ### cells in a slice -/
section
variable {w w1 : World} {v : Value} {n : Nat} {cs : List Value}
end
/-! ### relocations and symbols -/
theorem rlsC_append : ∀ l m : List Rl, rlsC (l ++ m) = rlsC l ++ rlsC m
  | [], _ => rfl
  | s :: r, m => by rw [List.cons_append, rlsC, rlsC_append r m, rlsC, List.append_assoc]
/-! ### objects -/
end Go.Proofs.YtogdpaaofihkgaaGreatDoor
namespace Go.Proofs.YtogdpaaofihkgaaGreatDoor
open Go.RowKit
theorem info_symb : ∃ i : TypeInfo, Tryz.prog.info? 60 = some i ∧ i.zero = some (.agg #[.string ⟨#[]⟩, .int .i64 0, .int .i64 0, .bool false]) ∧ i.size = 4 ∧ i.bytes = 40 := info_parts (P := Tryz.prog) (e := 60) (z := .agg #[.string ⟨#[]⟩, .int .i64 0, .int .i64 0, .bool false]) (size := 4) (bytes := 40) (by kernel_rfl)
/-! ### an object copied -/
section
variable {w0 w w1 : World} {G : Nat} {V : OV} {x : PO}
end
end Go.Proofs.YtogdpaaofihkgaaGreatDoor
namespace Go.Proofs.YtogdpaaofihkgaaGreatDoor
open Go.RowKit
section
variable {W w w1 : World} {G0 G1 : Nat} {V V1 : OV} {x x1 : PO}
theorem ap_new {w : World} {B size n size' n' : Nat} {t t' : TypeId} {u v v' : Value} {cs cs' : List Value} (_hu : w.ownsRow B t size u n cs) (hv : w.ownsRow B t' size' v n' cs') (h : Ap u v) (hm : u.ownBlock = v'.ownBlock ∨ ∃ g, v'.ownBlock = some g ∧ w.heap.size ≤ g) : Ap v' v := by
  rcases hm with e | ⟨g, e, hg⟩
  · unfold Ap at h ⊢; rw [← e]; exact h
  · right; rw [e]; intro e2
    have := (hv.lt g e2.symm).2
    omega
theorem ap_sym {u v : Value} (h : Ap u v) : Ap v u := by
  rcases h with h | h
  · by_cases hv : v.ownBlock = none
    · exact .inl hv
    · right; rw [h]; exact hv
  · exact .inr (fun e => h e.symm)
theorem pairs {V : OV} (h : [V.d, V.c, V.m, V.r, V.q, V.s].Pairwise Ap) : Ap V.d V.c ∧ Ap V.d V.m ∧ Ap V.d V.r ∧ Ap V.d V.q ∧ Ap V.d V.s ∧ Ap V.c V.m ∧ Ap V.c V.r ∧ Ap V.c V.q ∧ Ap V.c V.s ∧ Ap V.m V.r ∧ Ap V.m V.q ∧ Ap V.m V.s ∧ Ap V.r V.q ∧ Ap V.r V.s ∧ Ap V.q V.s := by
  simp only [List.pairwise_cons, List.mem_cons, List.not_mem_nil, or_false, forall_eq_or_imp, forall_eq, List.Pairwise.nil, and_true, false_implies, implies_true] at h
  obtain ⟨⟨a01, a02, a03, a04, a05⟩, ⟨a12, a13, a14, a15⟩, ⟨a23, a24, a25⟩, ⟨a34, a35⟩, a45⟩ := h
  exact ⟨a01, a02, a03, a04, a05, a12, a13, a14, a15, a23, a24, a25, a34, a35, a45⟩
theorem unpairs {V : OV} (a01 : Ap V.d V.c) (a02 : Ap V.d V.m) (a03 : Ap V.d V.r) (a04 : Ap V.d V.q) (a05 : Ap V.d V.s) (a12 : Ap V.c V.m) (a13 : Ap V.c V.r) (a14 : Ap V.c V.q) (a15 : Ap V.c V.s) (a23 : Ap V.m V.r) (a24 : Ap V.m V.q) (a25 : Ap V.m V.s) (a34 : Ap V.r V.q) (a35 : Ap V.r V.s) (a45 : Ap V.q V.s) : [V.d, V.c, V.m, V.r, V.q, V.s].Pairwise Ap := by
  simp only [List.pairwise_cons, List.mem_cons, List.not_mem_nil, or_false, forall_eq_or_imp, forall_eq, List.Pairwise.nil, and_true, false_implies, implies_true]
  exact ⟨⟨a01, a02, a03, a04, a05⟩, ⟨a12, a13, a14, a15⟩, ⟨a23, a24, a25⟩, ⟨a34, a35⟩, a45⟩
theorem OS.tS (h : OS W w G0 G1 V V1 x x1) {w5 : World} {g cap N : Nat} (hN : N = x1.S.length) (hg : w.grownBy w5 V1.s.ownBlock) (hm : V1.s.ownBlock = some g ∨ g = w.heap.size)
    (ho : w5.ownsRow W.heap.size 60 4 (.slice (some ⟨g, 0, none⟩) (N + 1) cap) (N + 1) (sysC (x1.S) ++ [.string ⟨#[]⟩, .int .i64 0, .int .i64 0, .bool false])) :
    OS W (w5.setCell ⟨G1, 5, none⟩ (.slice (some ⟨g, 0, none⟩) (N + 1) cap)) G0 G1 V { V1 with s := .slice (some ⟨g, 0, none⟩) (N + 1) cap } x { x1 with S := x1.S ++ [sy0] } := by
  subst hN
  obtain ⟨a01, a02, a03, a04, a05, a12, a13, a14, a15, a23, a24, a25, a34, a35, a45⟩ := pairs h.own.ap
  have n0 := h.ne V1.d (by simp)
  have n1 := h.ne V1.c (by simp)
  have n2 := h.ne V1.m (by simp)
  have n3 := h.ne V1.r (by simp)
  have n4 := h.ne V1.q (by simp)
  have n5 := h.ne V1.s (by simp)
  have hgs : w5.grownBy (w5.setCell ⟨G1, 5, none⟩ (.slice (some ⟨g, 0, none⟩) (x1.S.length + 1) cap)) (some G1) := grown_setCell (grown_refl _ _) _ _
  have hB : ∀ k, V1.s.ownBlock = some k → W.heap.size ≤ k := fun k hk => (h.own.s.lt k hk).1
  have hle := h.le
  have l0 := h.g0.lt
  have l1 := h.g1.lt
  have hgB : W.heap.size ≤ g := by rcases hm with hm | hm; exact hB g hm; omega
  have hg0 : g ≠ G0 := by rcases hm with hm | hm; (intro e; rw [e] at hm; exact n5.1 hm); omega
  have hg1 : g ≠ G1 := by rcases hm with hm | hm; (intro e; rw [e] at hm; exact n5.2 hm); omega
  have ms : V1.s.ownBlock = (Value.slice (some ⟨g, 0, none⟩) (x1.S.length + 1) cap).ownBlock ∨ ∃ k, (Value.slice (some ⟨g, 0, none⟩) (x1.S.length + 1) cap).ownBlock = some k ∧ w.heap.size ≤ k := by
    rcases hm with hm | hm
    · left; rw [hm]; rfl
    · right; exact ⟨g, rfl, by omega⟩
  have k1 : RwAt w5 G1 39 #[V1.d, V1.c, V1.m, V1.r, V1.q, V1.s] := h.g1.kept hg (fun e => n5.2 e.symm)
  have k2 := k1.set 5 (.slice (some ⟨g, 0, none⟩) (x1.S.length + 1) cap)
  refine ⟨(h.below.grown hg hle hB).setCell (by exact h.ge1) _, (h.g0.kept hg (fun e => n5.1 e.symm)).other _ _ _ h.d01, ⟨?_⟩, h.o0, ⟨?_, ?_, ?_, ?_, ?_, ?_, ?_⟩, h.ge0, h.ge1, ?_, h.d01⟩
  · rw [k2.blk]; rfl
  · exact (h.own.d.kept hg (a05)).kept hgs (.inr n0.2)
  · exact (h.own.c.kept hg (a15)).kept hgs (.inr n1.2)
  · exact (h.own.m.kept hg (a25)).kept hgs (.inr n2.2)
  · exact (h.own.r.kept hg (a35)).kept hgs (.inr n3.2)
  · exact (h.own.q.kept hg (a45)).kept hgs (.inr n4.2)
  · have := ho.kept hgs (.inr (by simpa [Value.ownBlock] using hg1))
    simpa [sysC_append, sysC, syC, sy0] using this
  · exact unpairs a01 a02 a03 a04 (ap_sym (ap_new h.own.s h.own.d (ap_sym a05) ms)) a12 a13 a14 (ap_sym (ap_new h.own.s h.own.c (ap_sym a15) ms)) a23 a24 (ap_sym (ap_new h.own.s h.own.m (ap_sym a25) ms)) a34 (ap_sym (ap_new h.own.s h.own.r (ap_sym a35) ms)) (ap_sym (ap_new h.own.s h.own.q (ap_sym a45) ms))
  · intro u hu
    simp only [List.mem_cons, List.not_mem_nil, or_false] at hu
    rcases hu with rfl | rfl | rfl | rfl | rfl | rfl
    · exact n0
    · exact n1
    · exact n2
    · exact n3
    · exact n4
    · exact ⟨by simpa [Value.ownBlock] using hg0, by simpa [Value.ownBlock] using hg1⟩
end
end Go.Proofs.YtogdpaaofihkgaaGreatDoor
namespace Go.Proofs.YtogdpaaofihkgaaGreatDoor
open Go.RowKit
section
variable {W w w1 : World} {G1 : Nat} {Ts : List Nat} {V1 : OV} {x1 : PO}
theorem OBx.tS (h : OBx W w G1 Ts V1 x1) {w5 : World} {g cap N M : Nat} (ys : List Sy) (hN : N = x1.S.length) (hM : ys.length = M) (hg : w.grownBy w5 V1.s.ownBlock) (hm : V1.s.ownBlock = some g ∨ g = w.heap.size)
    (ho : w5.ownsRow W.heap.size 60 4 (.slice (some ⟨g, 0, none⟩) (N + M) cap) (N + M) (sysC (x1.S) ++ sysC (ys))) :
    OBx W (w5.setCell ⟨G1, 5, none⟩ (.slice (some ⟨g, 0, none⟩) (N + M) cap)) G1 Ts { V1 with s := .slice (some ⟨g, 0, none⟩) (N + M) cap } { x1 with S := x1.S ++ ys } := by
  subst hN
  subst hM
  obtain ⟨a01, a02, a03, a04, a05, a12, a13, a14, a15, a23, a24, a25, a34, a35, a45⟩ := pairs h.own.ap
  have n0 := h.ne V1.d (by simp)
  have n1 := h.ne V1.c (by simp)
  have n2 := h.ne V1.m (by simp)
  have n3 := h.ne V1.r (by simp)
  have n4 := h.ne V1.q (by simp)
  have n5 := h.ne V1.s (by simp)
  have hgs : w5.grownBy (w5.setCell ⟨G1, 5, none⟩ (.slice (some ⟨g, 0, none⟩) (x1.S.length + ys.length) cap)) (some G1) := grown_setCell (grown_refl _ _) _ _
  have hB : ∀ k, V1.s.ownBlock = some k → W.heap.size ≤ k := fun k hk => (h.own.s.lt k hk).1
  have hle := h.le
  have l1 := h.g1.lt
  have hg1 : g ≠ G1 := by rcases hm with hm | hm; (intro e; rw [e] at hm; exact n5.1 hm); omega
  have hgT : ∀ T ∈ Ts, g ≠ T := fun T hT => by rcases hm with hm | hm; (intro e; rw [e] at hm; exact n5.2 T hT hm); (have := h.lts T hT; omega)
  have ms : V1.s.ownBlock = (Value.slice (some ⟨g, 0, none⟩) (x1.S.length + ys.length) cap).ownBlock ∨ ∃ k, (Value.slice (some ⟨g, 0, none⟩) (x1.S.length + ys.length) cap).ownBlock = some k ∧ w.heap.size ≤ k := by
    rcases hm with hm | hm
    · left; rw [hm]; rfl
    · right; exact ⟨g, rfl, by omega⟩
  have k1 : RwAt w5 G1 39 #[V1.d, V1.c, V1.m, V1.r, V1.q, V1.s] := h.g1.kept hg (fun e => n5.1 e.symm)
  have k2 := k1.set 5 (.slice (some ⟨g, 0, none⟩) (x1.S.length + ys.length) cap)
  refine ⟨(h.below.grown hg hle hB).setCell (by exact h.ge1) _, ⟨?_⟩, ⟨?_, ?_, ?_, ?_, ?_, ?_, ?_⟩, h.ge1, ?_, fun T hT => Nat.lt_of_lt_of_le (h.lts T hT) (Nat.le_trans hg.size hgs.size)⟩
  · rw [k2.blk]; rfl
  · exact (h.own.d.kept hg (a05)).kept hgs (.inr n0.1)
  · exact (h.own.c.kept hg (a15)).kept hgs (.inr n1.1)
  · exact (h.own.m.kept hg (a25)).kept hgs (.inr n2.1)
  · exact (h.own.r.kept hg (a35)).kept hgs (.inr n3.1)
  · exact (h.own.q.kept hg (a45)).kept hgs (.inr n4.1)
  · have := ho.kept hgs (.inr (by simpa [Value.ownBlock] using hg1))
    simpa [sysC_append] using this
  · exact unpairs a01 a02 a03 a04 (ap_sym (ap_new h.own.s h.own.d (ap_sym a05) ms)) a12 a13 a14 (ap_sym (ap_new h.own.s h.own.c (ap_sym a15) ms)) a23 a24 (ap_sym (ap_new h.own.s h.own.m (ap_sym a25) ms)) a34 (ap_sym (ap_new h.own.s h.own.r (ap_sym a35) ms)) (ap_sym (ap_new h.own.s h.own.q (ap_sym a45) ms))
  · intro u hu
    simp only [List.mem_cons, List.not_mem_nil, or_false] at hu
    rcases hu with rfl | rfl | rfl | rfl | rfl | rfl
    · exact n0
    · exact n1
    · exact n2
    · exact n3
    · exact n4
    · exact ⟨by simpa [Value.ownBlock] using hg1, fun T hT => by simpa [Value.ownBlock] using hgT T hT⟩
end
end Go.Proofs.YtogdpaaofihkgaaGreatDoor
namespace Go.Proofs.YtogdpaaofihkgaaGreatDoor
open Go.RowKit
/-- a label's line -/
def lbC (nm : ByteArray) : Array Value := #[.int .i64 0, .int .i64 0, .int .i64 0, .int .i64 0, .int .u32 0, .string nm, .string ByteArray.empty, .bool false]
theorem build_lab (nm : ByteArray) (w : World) : (Instr.build 29 #[(1, .string nm)]).run Tryz.prog w = .ok (.agg (lbC nm)) w := by kernel_rfl
theorem lab_one (nm : ByteArray) : (lbC nm).all (·.oneCell') = true := by simp [lbC, Value.oneCell']
section
variable {ops : Array Oper} {rest : List Oper} {o : Oper} {A : Act} {w : World} {Q : Exit → Act → World → Prop}
theorem wpList_build_lab (hgd : o.guard = none) (x : Operand) (ho : o.op = .build 29 #[(1, x)]) {nm : ByteArray} (hx : A.eval x = .string nm) (h : wpList Tryz.prog ops Q rest (A.put o.dst (.agg (lbC nm))) w) : wpList Tryz.prog ops Q (o :: rest) A w := by
  refine wpList_plain hgd fun K hK => ?_
  unfold Oper.wp
  simp [execOp, ho, hx, build_lab nm w, Result.andThen]
  exact hK _ _ h
end
set_option maxRecDepth 100000 in
set_option maxHeartbeats 1000000 in
theorem at_any (nm : ByteArray) (W : World) : Calls Tryz.prog 7 #[.string nm] W fun e w' => e = .returned (.agg (lbC nm)) ∧ W.grownBy w' none := by
  have Hz := zero_line
  have H1 := hid ((RwAt.new W 29 (lnC 0 0)).row (lbC nm))
  have HG := hid (grown_setRow (grown_alloc (grown_refl W none) (.cells (lnC 0 0) 29)) (Nat.le_refl W.heap.size) (lbC nm))
  go_enter Tryz.func7, Tryz.ntmps7
  go_wp2_with (first
    | (refine wpList_build_lab rfl _ rfl rfl ?_)
    | (refine wpList_store_rw rfl 29 _ _ rfl rfl rfl (RwAt.new _ _ _) (by kernel_rfl) rfl (lab_one _) ?_)
    | fail)
  refine bodyPost_ret (results_cell_row Tryz.results7 _ _ W.heap.size _ _ _ _ rfl H1.out.blk Tryz.underlying29 rfl (by kernel_rfl)) rfl ?_
  exact ⟨rfl, HG.out⟩
structure RWo (w0 : World) (lv : Value) (xs : List Int) (v : Value) (k : Nat) (w : World) : Prop where
  by_ : w.ownsRow w0.heap.size 25 1 v (xs.take k).length ((xs.take k).map (Value.int .u32))
  g : w0.grownBy w none
  sl : SlAt w .u32 lv xs
set_option maxRecDepth 100000 in
set_option maxHeartbeats 2000000 in
theorem rwords_any {w : World} {lv : Value} {xs : List Int} (hl : SlAt w .u32 lv xs) (hn : xs.length ≤ 1000000) :
    Calls Tryz.prog 18 #[lv] w fun e w' => ∃ v, e = .returned v ∧ w'.ownsRow w.heap.size 25 1 v xs.length (xs.map (Value.int .u32)) ∧ w.grownBy w' none := by
  obtain ⟨p, c, rfl⟩ := hl.len'
  obtain ⟨i, hi, hz0, hz1, hz2⟩ := info_u32
  obtain ⟨w1, hmk, how, hgr⟩ := run_make_own (P := Tryz.prog) w w.heap.size 34 25 i _ 1 Tryz.underlying34 hi hz0 hz1 .i64 .i64 xs.length (by rw [hz2]; omega) (by unfold maxLen; omega) (Nat.le_refl _)
  have Hi := hid hi
  have Hz0 := hid hz0
  have Hz1 := hid hz1
  have Hz2 := hid hz2
  have HSl := hid hl
  have HA : Hid (RWo w (.slice p xs.length c) xs (.slice (some ⟨w.heap.size, 0, none⟩) 0 xs.length) 0 w1) := hid ⟨by simpa using how, hgr, hl.kept0 hgr⟩
  have Hn := hid hn
  have nl : (xs.length : Int) ≤ 9223372036854775807 := by omega
  clear hl hn hi hz0 hz1 hz2 how hgr
  go_enter Tryz.func18, Tryz.ntmps18
  go_wp2
  clear hmk
  go_loopw [3, 4] (fun b i wr => ∃ k : Nat, k ≤ xs.length ∧ i = .int .i64 k ∧ Hid (RWo w (.slice p xs.length c) xs b k wr)) (fun _ i _ => xs.length - (intOf i).toNat)
  case atStart => exact ⟨0, Nat.zero_le _, rfl, HA⟩
  case round =>
    obtain ⟨k, hk, rfl, HR⟩ := hrel
    have k0 : (0 : Int) ≤ (k : Int) := by omega
    by_cases hlt : k < xs.length
    · have kn : (k : Int) < (xs.length : Int) := by omega
      obtain ⟨x, hx⟩ : ∃ x, xs[k]? = some x := ⟨_, List.getElem?_eq_getElem hlt⟩
      obtain ⟨b, o, c', hv, hb, hc⟩ := HR.out.sl.at_ (by omega)
      obtain ⟨rfl, rfl⟩ : p = some ⟨b, o, none⟩ ∧ c = c' := by simpa using hv
      have ex := hc k x hx
      have Hx := hid hx
      have Hlt := hid hlt
      clear hc hv hx hlt
      have HB := hid (own_keep0 HR.out.by_ (World.grownBy_alloc wr (.cells #[.int .u32 x] 25) none))
      obtain ⟨L, HL⟩ : ∃ L, Hid ((xs.take k).length = L) := ⟨_, hid rfl⟩
      have HLn : Hid (L + 1 ≤ 1000000) := hid (by
        have h1 := HL.out
        have h2 := Hn.out
        have h3 := Hlt.out
        rw [List.length_take] at h1
        omega)
      have HBo := hid HB.out
      rw [HL.out] at HBo
      have Hnews : Hid (∀ j u, [Value.int .u32 x][j]? = some u → (wr.alloc (.cells #[.int .u32 x] 25)).cell? ((⟨wr.heap.size, 0, none⟩ : Addr).add j) = some u) := hid (World.news_of_block (heap_alloc_new wr _))
      go_wp2_with (first
        | (refine wpList_append_lies _ rfl _ _ 34 rfl w.heap.size 25 i _ 1 4 Tryz.underlying34 Hi.out Hz0.out Hz1.out Hz2.out rfl (by decide) _ L _ rfl HBo.out ⟨wr.heap.size, 0, none⟩ 1 1 _ rfl rfl Hnews.out (by simp [Value.oneCell']) (by decide) (by have := HLn.out; unfold maxLen; omega) (by have := HLn.out; omega) (Nat.le_trans HR.out.g.size (by simp)) _ rfl ?_; intro g cap w2 hown hgrow hat hlt2; have HO := hid hown; have HG := hid hgrow; have HT := hid hat; clear hown hgrow hat)
        | fail)
      go_roundw
      case rel =>
        refine ⟨k + 1, by omega, by go_num, hid ?_⟩
        have hww : xs.take (k + 1) = xs.take k ++ [x] := by rw [List.take_add_one, Hx.out]; rfl
        have hL := HL.out
        have hgw : w.grownBy w2 none := grown_new' (grown_trans (grown_none HR.out.g) (grown_trans (World.grownBy_alloc wr _ _) HG.out)) (fun j hj => (HR.out.by_.lt j hj).1)
        refine ⟨?_, hgw, ?_⟩
        · rw [hww, List.length_append, hL, List.map_append]
          exact HO.out
        · exact HSl.out.kept0 hgw
      case measure => simp [intOf]; have := Hlt.out; omega
    · obtain rfl : k = xs.length := by omega
      clear hlt
      go_wp2
      go_ret
      have h1 := HR.out.by_
      rw [List.take_length] at h1
      exact ⟨_, rfl, h1, HR.out.g⟩
theorem lzero_sym (w : World) : (zeroValue 60).run Tryz.prog w = .ok (.agg #[.string ⟨#[]⟩, .int .i64 0, .int .i64 0, .bool false]) w := by kernel_rfl
set_option maxRecDepth 100000 in
set_option maxHeartbeats 2000000 in
/-- the first symbol of an object that has none -/
theorem sym_first {W w : World} {G : Nat} {Ts : List Nat} {V : OV} {x : PO} (h : OBx W w G Ts V x) (hs : V.s = .slice none 0 0) (hS : x.S = []) (nm : ByteArray) :
    Calls Tryz.prog 19 #[.pointer (some ⟨G, 0, none⟩), .string nm] w fun e w' => e = .returned (.int .i64 0) ∧ ∃ g cap, OBx W w' G Ts { V with s := .slice (some ⟨g, 0, none⟩) 1 cap } { x with S := [⟨nm, 3, 0, true⟩] } ∧ w.grownBy w' (some G) := by
  obtain ⟨d, c, m, r, q, s⟩ := V
  obtain ⟨D, C, M, R, Q, S⟩ := x
  simp only at hs hS
  subst hs; subst hS
  have HO := hid h
  have Hzs := lzero_sym
  have e5 := h.g1.cell 5 (v := .slice none 0 0) rfl
  obtain ⟨i, hi, hz0, hz1, hz2⟩ := info_symb
  have Hi := hid hi
  have Hz0 := hid hz0
  have Hz1 := hid hz1
  have Hz2 := hid hz2
  have H1 := hid (h.kept0 (World.grownBy_alloc w (.cells #[.string nm, .int .i64 3, .int .i64 0, .bool true] 60) none))
  have HOw := hid H1.out.own.s
  have Hnews : Hid (∀ j u, [Value.string nm, .int .i64 3, .int .i64 0, .bool true][j]? = some u → (w.alloc (.cells #[.string nm, .int .i64 3, .int .i64 0, .bool true] 60)).cell? ((⟨w.heap.size, 0, none⟩ : Addr).add j) = some u) := hid (World.news_of_block (heap_alloc_new w _))
  clear h hi hz0 hz1 hz2
  go_enter Tryz.func19, Tryz.ntmps19
  go_wp2
  go_loop [5] (fun i => i = .int .i64 0) (fun _ => 0)
  case atStart => rfl
  case round =>
    obtain rfl := hrel
    go_wp2_with (first
      | (refine wpList_append_lies _ rfl _ _ 37 rfl W.heap.size 60 i _ 4 40 Tryz.underlying37 Hi.out Hz0.out Hz1.out Hz2.out rfl (by decide) _ 0 _ rfl HOw.out ⟨w.heap.size, 0, none⟩ 1 1 _ rfl rfl Hnews.out (by simp [Value.oneCell']) (by decide) (by unfold maxLen; omega) (by omega) H1.out.le _ rfl ?_; intro g cap w6 hown hgrow hat hlt2; have hgrow0 : (w.alloc (.cells #[.string nm, .int .i64 3, .int .i64 0, .bool true] 60)).grownBy w6 none := hgrow; have hat0 : (Value.slice none 0 0).ownBlock = some g ∨ g = (w.alloc (.cells #[.string nm, .int .i64 3, .int .i64 0, .bool true] 60)).heap.size := hat; have HOn := hid hown; have HG := hid hgrow0; have HT := hid hat0; have e6 := (H1.out.g1.kept0 hgrow0).cell 5 (v := .slice none 0 0) rfl; have z6 := (H1.out.g1.kept0 hgrow0).free 5; have HB6 := hid (H1.out.g1.kept0 hgrow0); clear hown hgrow hat hlt2 hgrow0 hat0)
      | fail)
    have hx := OBx.tS (V1 := ⟨d, c, m, r, q, .slice none 0 0⟩) (x1 := ⟨D, C, M, R, Q, []⟩) (N := 0) (M := 1) H1.out [⟨nm, 3, 0, true⟩] rfl rfl HG.out HT.out (by simpa [sysC, syC] using HOn.out)
    have hgg : w.grownBy (w6.setCell ⟨G, 5, none⟩ (.slice (some ⟨g, 0, none⟩) (0 + 1) cap)) (some G) := grown_trans (grown_none (grown_trans (World.grownBy_alloc w _ none) HG.out)) (grown_setCell (grown_refl _ _) _ _)
    have Hx := hid hx
    have Hgg := hid hgg
    clear hx hgg
    go_ret
    exact ⟨rfl, ⟨g, cap, by simpa using Hx.out⟩, by simpa using Hgg.out⟩
end Go.Proofs.YtogdpaaofihkgaaGreatDoor
namespace Go.Proofs.YtogdpaaofihkgaaGreatDoor
open Go.RowKit
set_option maxHeartbeats 400000 in
theorem rclass_any (op : Int) (w : World) :
    Calls Tryz.prog 29 #[.int .i64 op] w fun e w' => e = .returned (.int .i64 (clsI op)) ∧ w = w' := by
  go_enter Tryz.func29, Tryz.ntmps29
  go_wp2
  all_goals
    go_ret
    refine ⟨ret_i ?_, rfl⟩
    try simp only [beq_iff_eq, beq_eq_false_iff_ne, ne_eq] at *
    unfold clsI
    repeat' split
    all_goals omega
def rA (op : Int) : Bool := decide (¬ (op = 1 ∨ op = 34 ∨ op = 42 ∨ op = 64 ∨ op = 65 ∨ op = 19 ∨ op = 22 ∨ op = 96 ∨ op = 16))
def rB (op : Int) : Bool := decide (op = 2 ∨ op = 37 ∨ op = 38 ∨ op = 41 ∨ (3 ≤ op ∧ op ≤ 13) ∨ op = 24)
def rC (op : Int) : Bool := decide (op = 16 ∨ op = 17 ∨ op = 18 ∨ (3 ≤ op ∧ op ≤ 13) ∨ op = 24)
def rN (op : Int) : Bool := decide (op = 16 ∨ op = 17 ∨ op = 18 ∨ op = 12 ∨ op = 13)
theorem rA_has {op : Int} (h : clsI op ≠ 0) : hasA op = if rA op = true then 1 else 0 := by
  unfold rA hasA; unfold clsI at h; simp only [decide_eq_true_eq]
  repeat' split at h
  all_goals (repeat' split) <;> omega
theorem rB_has (op : Int) : hasB op = if rB op = true then 1 else 0 := by
  unfold rB hasB; simp only [decide_eq_true_eq]
theorem rC_has (op : Int) : hasC op = if rC op = true then (if rN op = true then 2 else 1) else 0 := by
  unfold rC rN hasC; simp only [decide_eq_true_eq]
  (repeat' split) <;> omega
theorem ret_4b {a b c d a' b' c' d' : Bool} (h : a = a') (h1 : b = b') (h2 : c = c') (h3 : d = d') :
    Ending.returned (.tuple #[.bool a, .bool b, .bool c, .bool d]) = .returned (.tuple #[.bool a', .bool b', .bool c', .bool d']) := by rw [h, h1, h2, h3]
set_option maxHeartbeats 1000000 in
theorem uses_any (op : Int) (w : World) :
    Calls Tryz.prog 28 #[.int .i64 op] w fun e w' => e = .returned (.tuple #[.bool (rA op), .bool (rB op), .bool (rC op), .bool (rN op)]) ∧ w = w' := by
  go_enter Tryz.func28, Tryz.ntmps28
  go_wp2
  all_goals
    refine bodyPost_ret (by simp [results, Tryz.results28, go_sem]; try rfl) rfl ?_
    refine ⟨ret_4b ?_ ?_ ?_ ?_, rfl⟩
    all_goals simp only [beq_iff_eq, beq_eq_false_iff_ne, ne_eq] at *
    all_goals first | unfold rA | unfold rB | unfold rC | unfold rN
    all_goals simp only [true_eq_decide_iff, false_eq_decide_iff]
    all_goals omega
end Go.Proofs.YtogdpaaofihkgaaGreatDoor
namespace Go.Proofs.YtogdpaaofihkgaaGreatDoor
open Go.RowKit
set_option maxHeartbeats 1000000 in
theorem rtwo_any (op : Int) (w : World) :
    Calls Tryz.prog 21 #[.int .i64 op] w fun e w' => e = .returned (.bool (twoB op)) ∧ w = w' := by
  go_enter Tryz.func21, Tryz.ntmps21
  go_wp2
  all_goals
    go_ret
    refine ⟨ret_b ?_, rfl⟩
    rw [Bool.eq_iff_iff]
    unfold twoB
    simp only [beq_iff_eq, decide_eq_true_eq] at *
    first | omega | (simp_all; done) | (simp_all; omega)
def regB (n : Int) (has : Bool) : Bool := decide (n = 0) || has && decide (0 < n) && decide (n < 16)
set_option maxHeartbeats 1000000 in
theorem reg_any (n : Int) (has : Bool) (w : World) :
    Calls Tryz.prog 30 #[.int .i64 n, .bool has] w fun e w' => e = .returned (.bool (regB n has)) ∧ w = w' := by
  by_cases h0 : n = 0
  · subst h0
    go_enter Tryz.func30, Tryz.ntmps30
    go_wp2
    go_ret
    exact ⟨ret_b (by simp [regB]), rfl⟩
  · have e0 : (n == 0) = false := by simpa using h0
    have H0 := hid h0
    clear h0
    cases has
    · go_enter Tryz.func30, Tryz.ntmps30
      go_wp2
      go_ret
      exact ⟨ret_b (by simp [regB, H0.out]), rfl⟩
    · by_cases h1 : 0 < n
      · go_enter Tryz.func30, Tryz.ntmps30
        go_wp2
        go_ret
        exact ⟨ret_b (by simp [regB, H0.out, h1]), rfl⟩
      · go_enter Tryz.func30, Tryz.ntmps30
        go_wp2
        go_ret
        exact ⟨ret_b (by simp [regB, H0.out]; try omega), rfl⟩
theorem alw_reg (x : Bool) (n : Int) : alwB (if x = true then 1 else 0) n = regB n x := by
  unfold alwB regB
  cases x
  · simp
  · rw [Bool.eq_iff_iff]; simp; omega
theorem ins_ref (op a b c imm : Int) : insB op a b c imm = (decide (clsI op ≠ 0) && regB a (rA op) && regB b (rB op) && (twoB op || decide (imm = 0)) && (if rN op = true then decide (0 ≤ c ∧ c ≤ 255) else regB c (rC op))) := by
  unfold insB
  by_cases h : clsI op = 0
  · simp [h]
  · rw [rA_has h, rB_has, alw_reg, alw_reg]
    have hC : alwB (hasC op) c = (if rN op = true then decide (0 ≤ c ∧ c ≤ 255) else regB c (rC op)) := by
      rw [rC_has]
      cases hn : rN op
      · simp only [Bool.false_eq_true, if_false]
        exact alw_reg _ _
      · have hc : rC op = true := by
          unfold rN at hn; have := of_decide_eq_true hn
          unfold rC; exact decide_eq_true (by omega)
        rw [hc]; unfold alwB; simp
    rw [hC]
    cases regB a (rA op) <;> cases regB b (rB op) <;> cases twoB op <;> simp [h, Bool.and_comm]
end Go.Proofs.YtogdpaaofihkgaaGreatDoor
namespace Go.Proofs.YtogdpaaofihkgaaGreatDoor
open Go.RowKit
theorem rins_yes {op a b c imm : Int} (h : insB op a b c imm = true) :
    (clsI op != 0) = true ∧ regB a (rA op) = true ∧ regB b (rB op) = true ∧ (twoB op = true ∨ twoB op = false ∧ (imm == 0) = true) ∧ (rN op = true ∨ rN op = false ∧ regB c (rC op) = true) := by
  rw [ins_ref] at h
  simp only [Bool.and_eq_true, Bool.or_eq_true, decide_eq_true_eq] at h
  obtain ⟨⟨⟨⟨h1, h2⟩, h3⟩, h4⟩, h5⟩ := h
  refine ⟨by simpa using h1, h2, h3, ?_, ?_⟩
  · cases ht : twoB op
    · right; simp [ht] at h4; simp [h4]
    · left; rfl
  · cases hn : rN op
    · right; simp [hn] at h5; simp [h5]
    · left; rfl
theorem rins_no {op a b c imm : Int} (h : insB op a b c imm = false) :
    ((clsI op != 0) = false ∧ rN op = rN op) ∨
    ((clsI op != 0) = true ∧ regB a (rA op) = false) ∨
    ((clsI op != 0) = true ∧ regB a (rA op) = true ∧ regB b (rB op) = false) ∨
    ((clsI op != 0) = true ∧ regB a (rA op) = true ∧ regB b (rB op) = true ∧ twoB op = false ∧ (imm == 0) = false) ∨
    ((clsI op != 0) = true ∧ regB a (rA op) = true ∧ regB b (rB op) = true ∧ twoB op = true ∧ rN op = true ∧ c < 0) ∨
    ((clsI op != 0) = true ∧ regB a (rA op) = true ∧ regB b (rB op) = true ∧ twoB op = true ∧ rN op = true ∧ 0 ≤ c ∧ decide (c ≤ 255) = false) ∨
    ((clsI op != 0) = true ∧ regB a (rA op) = true ∧ regB b (rB op) = true ∧ twoB op = true ∧ rN op = false ∧ regB c (rC op) = false) ∨
    ((clsI op != 0) = true ∧ regB a (rA op) = true ∧ regB b (rB op) = true ∧ twoB op = false ∧ (imm == 0) = true ∧ rN op = true ∧ c < 0) ∨
    ((clsI op != 0) = true ∧ regB a (rA op) = true ∧ regB b (rB op) = true ∧ twoB op = false ∧ (imm == 0) = true ∧ rN op = true ∧ 0 ≤ c ∧ decide (c ≤ 255) = false) ∨
    ((clsI op != 0) = true ∧ regB a (rA op) = true ∧ regB b (rB op) = true ∧ twoB op = false ∧ (imm == 0) = true ∧ rN op = false ∧ regB c (rC op) = false) := by
  rw [ins_ref] at h
  by_cases h1 : clsI op = 0
  · left; simp [h1]
  · right
    have e1 : (clsI op != 0) = true := by simpa using h1
    cases h2 : regB a (rA op)
    · left; simp [e1]
    · right
      cases h3 : regB b (rB op)
      · left; simp [e1]
      · right
        cases ht : twoB op
        · by_cases hi : imm = 0
          · right; right; right; right
            cases hn : rN op
            · right; right
              simp [h1, h2, h3, ht, hi, hn] at h; simp [e1, hi, h]
            · simp [h1, h2, h3, ht, hi, hn] at h
              by_cases hc : c < 0
              · left; simp [e1, hi, hc]
              · right; left; simp [e1, hi]; omega
          · left; simp [e1, hi]
        · right
          cases hn : rN op
          · right; right; left
            simp [h1, h2, h3, ht, hn] at h; simp [e1, h]
          · simp [h1, h2, h3, ht, hn] at h
            by_cases hc : c < 0
            · left; simp [e1, hc]
            · right; left; simp [e1]; omega
set_option maxHeartbeats 2000000 in
theorem rword_yes (op a b c imm : Int) (w : World) (h : insB op a b c imm = true) :
    Calls Tryz.prog 20 #[.agg #[.int .i64 op, .int .i64 a, .int .i64 b, .int .i64 c, .int .u32 imm]] w fun e w' => e = .returned (.tuple #[.int .u32 (wrdI op a b c), .bool true]) ∧ Below w.heap.size w w' := by
  obtain ⟨⟨o1, o2⟩, ⟨a1, a2⟩, ⟨b1, b2⟩, ⟨c1, c2⟩⟩ := ins_bd h
  have H : Hid (bits BinOp.or IntKind.u32 (bits BinOp.or IntKind.u32 (bits BinOp.or IntKind.u32 (op * 16777216) (a * 65536)) (b * 256)) c = wrdI op a b c) := wrd_or op a b c ⟨by omega, by omega⟩ ⟨a1, a2⟩ ⟨b1, b2⟩ ⟨c1, c2⟩
  obtain ⟨h1, h2, h3, h4, h5⟩ := rins_yes h
  clear h
  rcases h4 with h4 | ⟨h4, h6⟩ <;> rcases h5 with h5 | ⟨h5, h7⟩
  all_goals
    go_enter Tryz.func20, Tryz.ntmps20
    go_wp2_with (first | (go_at_call 28; refine (uses_any _ _).mono ?_; rintro e w' ⟨rfl, rfl⟩) | (go_at_call 29; refine (rclass_any _ _).mono ?_; rintro e w' ⟨rfl, rfl⟩) | (go_at_call 30; refine (reg_any _ _ _).mono ?_; rintro e w' ⟨rfl, rfl⟩) | (go_at_call 21; refine (rtwo_any _ _).mono ?_; rintro e w' ⟨rfl, rfl⟩))
    go_ret2
    exact ⟨ret_wb H.out, by go_grown⟩
set_option maxHeartbeats 4000000 in
theorem rword_no (op a b c imm : Int) (w : World) (h : insB op a b c imm = false) :
    Calls Tryz.prog 20 #[.agg #[.int .i64 op, .int .i64 a, .int .i64 b, .int .i64 c, .int .u32 imm]] w fun e w' => e = .returned (.tuple #[.int .u32 0, .bool false]) ∧ Below w.heap.size w w' := by
  have h' := rins_no h
  clear h
  rcases h' with ⟨h1, _⟩ | ⟨h1, h2⟩ | ⟨h1, h2, h3⟩ | ⟨h1, h2, h3, h4, h5⟩ | ⟨h1, h2, h3, h4, h5, h6⟩ | ⟨h1, h2, h3, h4, h5, h6, h7⟩ | ⟨h1, h2, h3, h4, h5, h6⟩ | ⟨h1, h2, h3, h4, h5, h6, h7⟩ | ⟨h1, h2, h3, h4, h5, h6, h7, h8⟩ | ⟨h1, h2, h3, h4, h5, h6, h7⟩
  all_goals
    go_enter Tryz.func20, Tryz.ntmps20
    go_wp2_with (first | (go_at_call 28; refine (uses_any _ _).mono ?_; rintro e w' ⟨rfl, rfl⟩) | (go_at_call 29; refine (rclass_any _ _).mono ?_; rintro e w' ⟨rfl, rfl⟩) | (go_at_call 30; refine (reg_any _ _ _).mono ?_; rintro e w' ⟨rfl, rfl⟩) | (go_at_call 21; refine (rtwo_any _ _).mono ?_; rintro e w' ⟨rfl, rfl⟩))
    all_goals
      go_ret2
      exact ⟨rfl, by go_grown⟩
theorem rword_any (op a b c imm : Int) (w : World) :
    Calls Tryz.prog 20 #[.agg #[.int .i64 op, .int .i64 a, .int .i64 b, .int .i64 c, .int .u32 imm]] w fun e w' => e = .returned (.tuple #[.int .u32 (wordV op a b c imm), .bool (insB op a b c imm)]) ∧ Below w.heap.size w w' := by
  cases h : insB op a b c imm
  · rw [wordV_no h]; exact rword_no op a b c imm w h
  · rw [wordV_yes h]; exact rword_yes op a b c imm w h
end Go.Proofs.YtogdpaaofihkgaaGreatDoor
namespace Go.Proofs.YtogdpaaofihkgaaGreatDoor
theorem lxC_length (l : Lx) : (lxC l).length = 8 := rfl
theorem objX_succ (D : List Int) {ls : List Lx} {k : Nat} {l : Lx} (h : ls[k]? = some l) : objX D (ls.take (k + 1)) = lxD (objX D (ls.take k)) l := by
  unfold objX
  rw [List.take_add_one, h, List.foldl_append]; rfl
theorem syIx_le (S : List Sy) (n : ByteArray) : syIx S n ≤ S.length := List.findIdx_le_length
theorem syS_length (S : List Sy) (n : ByteArray) : (syS S n).length ≤ S.length + 1 ∧ syIx S n < (syS S n).length ∧ S.length ≤ (syS S n).length := by
  have := syIx_le S n
  unfold syS
  split
  · omega
  · rw [List.length_append, List.length_singleton]; omega
theorem relX_is (x : PO) (a : Nat) (k : Int) (n : ByteArray) : (relX x a k n).D = x.D ∧ (relX x a k n).C = x.C ∧ (relX x a k n).M = x.M ∧ (relX x a k n).R = x.R ∧ (relX x a k n).Q.length ≤ x.Q.length + 1 ∧ (relX x a k n).S.length ≤ x.S.length + 1 := by
  unfold relX
  have := syS_length x.S n
  split
  · exact ⟨rfl, rfl, rfl, rfl, by omega, by omega⟩
  · exact ⟨rfl, rfl, rfl, rfl, by simp, by simp only; omega⟩
/-- what lines make: bounds -/
structure LxOk (n : Nat) (x : PO) : Prop where
  c : x.C.length ≤ 2 * n
  m : x.M.length = x.C.length
  r : x.R = []
  q : x.Q.length ≤ n
  s : x.S.length ≤ n
theorem lxD_ok {n : Nat} {x : PO} (h : LxOk n x) (l : Lx) : LxOk (n + 1) (lxD x l) := by
  have hs := syS_length x.S l.nm
  have hc := h.c
  have hm := h.m
  have hq := h.q
  have hS := h.s
  unfold lxD
  split
  · exact ⟨by simp only; omega, h.m, h.r, by simp only; omega, by simp only [List.length_set]; omega⟩
  · split
    · obtain ⟨_, e1, e2, e3, e4, e5⟩ := relX_is x x.C.length 1 l.sy
      exact ⟨by simp [wrdX, e1]; omega, by simp [wrdX, e1, e2, hm], by simp [wrdX, e3, h.r], by simp only [wrdX]; omega, by simp only [wrdX]; omega⟩
    · split
      · obtain ⟨_, e1, e2, e3, e4, e5⟩ := relX_is x (x.C.length + 1) 1 l.sy
        exact ⟨by simp [wrdX, e1]; omega, by simp [wrdX, e1, e2, hm], by simp [wrdX, e3, h.r], by simp only [wrdX]; omega, by simp only [wrdX]; omega⟩
      · obtain ⟨_, e1, e2, e3, e4, e5⟩ := relX_is x x.C.length 2 l.sy
        exact ⟨by simp [wrdX, e1]; omega, by simp [wrdX, e1, e2, hm], by simp [wrdX, e3, h.r], by simp only [wrdX]; omega, by simp only [wrdX]; omega⟩
theorem objX_ok (D : List Int) (ls : List Lx) : ∀ k, k ≤ ls.length → LxOk k (objX D (ls.take k))
  | 0, _ => ⟨Nat.le_refl 0, rfl, rfl, Nat.le_refl 0, Nat.le_refl 0⟩
  | k + 1, h => by
    rw [objX_succ D (List.getElem?_eq_getElem (show k < ls.length by omega))]
    exact lxD_ok (objX_ok D ls k (by omega)) _
end Go.Proofs.YtogdpaaofihkgaaGreatDoor
namespace Go.Proofs.YtogdpaaofihkgaaGreatDoor
open Go.RowKit
section
variable {W w w5 : World} {vc vm : Value} {lc lm : List Int}
theorem ap_other {u v : Value} (h : Ap u v) : v.ownBlock = none ∨ v.ownBlock ≠ u.ownBlock := by
  rcases h with h | h
  · rw [h]
    cases v.ownBlock with
    | none => exact .inl rfl
    | some k => exact .inr (by simp)
  · exact .inr (fun e => h e.symm)
theorem TwoR.addC (h : TwoR W w vc lc vm lm) {g cap k : Nat} (ys : List Int) (hk : ys.length = k) (hg : w.grownBy w5 vc.ownBlock) (hat : vc.ownBlock = some g ∨ g = w.heap.size)
    (ho : w5.ownsRow W.heap.size 25 1 (.slice (some ⟨g, 0, none⟩) (lc.length + k) cap) (lc.length + k) (lc.map (Value.int .u32) ++ ys.map (Value.int .u32))) :
    TwoR W w5 (.slice (some ⟨g, 0, none⟩) (lc.length + k) cap) (lc ++ ys) vm lm := by
  subst hk
  refine ⟨?_, h.m.kept hg (ap_other h.ap), grown_new' (grown_trans (grown_none h.g) hg) (fun j hj => (h.c.lt j hj).1), ?_⟩
  · rw [List.length_append, List.map_append]; exact ho
  · right
    rcases hat with e | e
    · rcases h.ap with f | f
      · rw [f] at e; cases e
      · exact fun e2 => f (e.trans e2)
    · intro e2
      have := (h.m.lt g e2.symm).2
      omega
theorem TwoR.addM (h : TwoR W w vc lc vm lm) {g cap k : Nat} (ys : List Int) (hk : ys.length = k) (hg : w.grownBy w5 vm.ownBlock) (hat : vm.ownBlock = some g ∨ g = w.heap.size)
    (ho : w5.ownsRow W.heap.size 5 1 (.slice (some ⟨g, 0, none⟩) (lm.length + k) cap) (lm.length + k) (lm.map (Value.int .u8) ++ ys.map (Value.int .u8))) :
    TwoR W w5 vc lc (.slice (some ⟨g, 0, none⟩) (lm.length + k) cap) (lm ++ ys) := by
  subst hk
  have e0 : ∀ j, vc.ownBlock = some j → vc.ownBlock ≠ vm.ownBlock := fun j hj e => by rcases h.ap with f | f; (rw [hj] at f; cases f); exact f e
  refine ⟨h.c.kept hg h.ap, ?_, grown_new' (grown_trans (grown_none h.g) hg) (fun j hj => (h.m.lt j hj).1), ?_⟩
  · rw [List.length_append, List.map_append]; exact ho
  · cases hc : vc.ownBlock with
    | none => exact .inl hc
    | some j =>
      right
      rw [hc]
      rcases hat with e | e
      · intro e2
        exact e0 j hc (by rw [hc, e2, e]; rfl)
      · intro e2
        have := (h.c.lt j hc).2
        have e3 : j = g := Option.some.inj e2
        omega
end
end Go.Proofs.YtogdpaaofihkgaaGreatDoor
namespace Go.Proofs.YtogdpaaofihkgaaGreatDoor
open Go.RowKit
section
variable {w0 w w1 : World} {base H : Nat} {R : List Ro} {V : OV} {x : PO}
end
theorem syIx_at {S : List Sy} {n : ByteArray} {k : Nat} {s : Sy} (hk : S[k]? = some s) (h : s.n = n) (hb : ∀ j t, j < k → S[j]? = some t → t.n ≠ n) : syIx S n = k := by
  have hkl := (List.getElem?_eq_some_iff.1 hk).1
  unfold syIx
  rw [List.findIdx_eq hkl]
  refine ⟨by rw [(List.getElem?_eq_some_iff.1 hk).2]; simpa using h, fun j hj => ?_⟩
  have := hb j _ hj (List.getElem?_eq_getElem (by omega))
  simpa using this
theorem syIx_none {S : List Sy} {n : ByteArray} (hb : ∀ j t, j < S.length → S[j]? = some t → t.n ≠ n) : syIx S n = S.length := by
  unfold syIx
  rw [List.findIdx_eq_length]
  intro t ht
  obtain ⟨j, hj⟩ := List.getElem?_of_mem ht
  have := hb j t (List.getElem?_eq_some_iff.1 hj).1 hj
  simpa using this
theorem syS_in {S : List Sy} {n : ByteArray} (h : syIx S n < S.length) : syS S n = S := by unfold syS; rw [if_pos h]
theorem syS_out {S : List Sy} {n : ByteArray} (h : syIx S n = S.length) : syS S n = S ++ [⟨n, 3, 0, true⟩] := by unfold syS; rw [if_neg (by omega)]
set_option maxRecDepth 100000 in
set_option maxHeartbeats 4000000 in
theorem sym_x {w0 w : World} {base H : Nat} {R : List Ro} {V : OV} {x : PO} (h : OgB w0 w base H R V x) (hS : x.S.length ≤ 100000) (nm : ByteArray) :
    Calls Tryz.prog 19 #[.pointer (some ⟨H, 0, none⟩), .string nm] w fun e w' => e = .returned (.int .i64 (syIx x.S nm : Nat)) ∧ ∃ vs, OgB w0 w' base H R ⟨V.d, V.c, V.m, V.r, V.q, vs⟩ ⟨x.D, x.C, x.M, x.R, x.Q, syS x.S nm⟩ := by
  obtain ⟨d, c, m, r, q, s⟩ := V
  obtain ⟨D, C, M, R', Q, S⟩ := x
  simp only at hS
  obtain ⟨sp, sc, es⟩ := own_slice h.sRow
  simp only at es
  subst es
  obtain ⟨N, hN⟩ : ∃ n, S.length = n := ⟨_, rfl⟩
  have HN := hid hN
  rw [hN] at h hS
  have HO := hid h
  have e5 := h.row.cell 5 (v := .slice sp N sc) rfl
  have n0 : (0 : Int) ≤ (N : Int) := by omega
  have n1 : (N : Int) ≤ 100000 := by omega
  have Hn1 : Hid (N ≤ 100000) := hid hS
  have Hzs := lzero_sym
  clear h hN hS
  go_enter Tryz.func19, Tryz.ntmps19
  go_wp2
  go_loop [5] (fun i => ∃ k : Nat, k ≤ N ∧ i = .int .i64 k ∧ Hid (∀ j t, j < k → S[j]? = some t → t.n ≠ nm)) (fun i => N - (intOf i).toNat)
  case atStart => exact ⟨0, Nat.zero_le _, rfl, hid (fun j t hj => by omega)⟩
  case round =>
    obtain ⟨k, hk, rfl, HK⟩ := hrel
    have k0 : (0 : Int) ≤ (k : Int) := by omega
    by_cases hlt : k < N
    · have kn : (k : Int) < (N : Int) := by omega
      obtain ⟨t, ht⟩ : ∃ t, S[k]? = some t := ⟨_, List.getElem?_eq_getElem (by rw [HN.out]; exact hlt)⟩
      obtain ⟨g, cg, hv⟩ := own_some HO.out.sRow (by simp only; rw [HN.out]; omega)
      simp only [HN.out, Value.slice.injEq, true_and] at hv
      obtain ⟨rfl, rfl⟩ := hv
      have hc := HO.out.name HN.out ht
      have Ht := hid ht
      have Hlt := hid hlt
      obtain ⟨tn, ti, tv, tg⟩ := t
      simp only at hc
      clear ht hlt
      by_cases he : tn = nm
      · have Hix : Hid (syIx S nm = k) := hid (syIx_at Ht.out he HK.out)
        have hb : (tn.toList == nm.toList) = true := by rw [beq_iff_eq]; exact toList_iff.2 he
        have heq : ∀ W : World, (Op.stringOp .eql tn nm).run Tryz.prog W = .ok (.bool true) W := fun W => by unfold Op.stringOp; simp only [hb]; rfl
        clear he
        go_wp2
        go_ret
        refine ⟨ret_i (by rw [Hix.out]), ?_⟩
        rw [syS_in (by rw [Hix.out, HN.out]; exact Hlt.out)]
        exact ⟨_, HO.out⟩
      · have hb : (tn.toList == nm.toList) = false := by rw [beq_eq_false_iff_ne]; exact fun e => he (toList_iff.1 e)
        have heq : ∀ W : World, (Op.stringOp .eql tn nm).run Tryz.prog W = .ok (.bool false) W := fun W => by unfold Op.stringOp; simp only [hb]; rfl
        have HK2 : Hid (∀ j t, j < k + 1 → S[j]? = some t → t.n ≠ nm) := hid (fun j t hj hjt => by
          rcases Nat.lt_succ_iff_lt_or_eq.1 hj with h | rfl
          · exact HK.out j t h hjt
          · rw [Ht.out] at hjt; cases hjt; exact he)
        clear he
        go_wp2
        go_round
        case rel => exact ⟨k + 1, Hlt.out, by go_num, HK2⟩
        case measure => simp [intOf]; have := Hlt.out; omega
    · obtain rfl : k = N := by omega
      clear hlt hk
      have kn : ¬ ((k : Int) < (k : Int)) := by omega
      have Hix : Hid (syIx S nm = S.length) := hid (syIx_none (by rw [HN.out]; exact HK.out))
      obtain ⟨i, hi, hz0, hz1, hz2⟩ := info_symb
      have Hi := hid hi
      have Hz0 := hid hz0
      have Hz1 := hid hz1
      have Hz2 := hid hz2
      have H1 := hid (HO.out.kept0 (World.grownBy_alloc w (.cells #[.string nm, .int .i64 3, .int .i64 0, .bool true] 60) none))
      have HOw := hid H1.out.sRow
      simp only [HN.out] at HOw
      have Hnews : Hid (∀ j u, [Value.string nm, .int .i64 3, .int .i64 0, .bool true][j]? = some u → (w.alloc (.cells #[.string nm, .int .i64 3, .int .i64 0, .bool true] 60)).cell? ((⟨w.heap.size, 0, none⟩ : Addr).add j) = some u) := hid (World.news_of_block (heap_alloc_new w _))
      clear hi hz0 hz1 hz2
      go_wp2_with (first
        | (refine wpList_append_lies _ rfl _ _ 37 rfl base 60 i _ 4 40 Tryz.underlying37 Hi.out Hz0.out Hz1.out Hz2.out rfl (by decide) _ k _ rfl HOw.out ⟨w.heap.size, 0, none⟩ 1 1 _ rfl rfl Hnews.out (by simp [Value.oneCell']) (by decide) (by have := Hn1.out; unfold maxLen; omega) (by have := Hn1.out; omega) H1.out.size _ rfl ?_
           intro gB capB wB hown hgrow hat hlt2
           have hg4 : (w.alloc (.cells #[.string nm, .int .i64 3, .int .i64 0, .bool true] 60)).grownBy wB (Value.slice sp k sc).ownBlock := hgrow
           have HE := hid (H1.out.addS (v' := .slice (some ⟨gB, 0, none⟩) (k + 1) capB) ⟨nm, 3, 0, true⟩ (by simp only [HN.out]; exact hown) hg4 (by rcases hat with e | e; (exact .inl e.symm); (exact .inr (by rw [← e]; rfl))))
           have hne := H1.out.neH ⟨.slice sp k sc, 60, 4, S.length, sysC S⟩ (by simp [obRo])
           have c4' := (H1.out.row.kept hg4 (Ne.symm hne)).cell 5 (v := .slice sp k sc) rfl
           have z4' := (H1.out.row.kept hg4 (Ne.symm hne)).free 5
           clear hown hgrow hat hlt2 hg4 hne)
        | fail)
      go_ret
      refine ⟨ret_i (by rw [Hix.out, HN.out]), ?_⟩
      rw [syS_out Hix.out]
      exact ⟨_, HE.out⟩
end Go.Proofs.YtogdpaaofihkgaaGreatDoor
