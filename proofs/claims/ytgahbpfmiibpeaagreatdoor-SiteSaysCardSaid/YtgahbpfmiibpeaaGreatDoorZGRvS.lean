/- The document's Valid (facaderef9): what its loops carry. -/
import Derived.Test.YtgahbpfmiibpeaaGreatDoorZGRv
import Derived.Deep.Cut
import Derived.Deep.CutRange
import Derived.Deep.CutBlock
import Derived.Deep.RegionHeld3
import Derived.StillTailTactics
namespace Go.Proofs.YtgahbpfmiibpeaaGreatDoor
open Go.RowKit
def badI : Option Nat → Int
  | none => 0
  | some c => ((101 + c : Nat) : Int)
/-- the first of n that is wrong, at its place -/
def scanV (f : Nat → Option Nat) (n : Nat) : Fl := (scanP f n).map fun y => (y.1, some y.2)
theorem scanV_none {f : Nat → Option Nat} {n : Nat} (h : ∀ k, k < n → f k = none) : scanV f n = none := by unfold scanV; rw [scanP_none h]; rfl
theorem scanV_some {f : Nat → Option Nat} {n c k : Nat} (hc : f k = some c) (h : ∀ j, j < k → f j = none) (hk : k < n) : scanV f n = some (c, some k) := by unfold scanV; rw [scanP_some hc h hk]; rfl
theorem badI_zero {y : Option Nat} : badI y = 0 ↔ y = none := by
  cases y with
  | none => exact ⟨fun _ => rfl, fun _ => rfl⟩
  | some c => exact ⟨fun h => by simp only [badI] at h; omega, fun h => by cases h⟩
theorem step_store_rw {ops : Array Oper} {o : Oper} {a : Act} {w : World} {K : Act → World → Prop} {Q : Exit → Act → World → Prop} {E : Prop} (hgd : o.guard = none) (t : TypeId) (p q : Operand) (ho : o.op = .store t p q) {g : Nat} (hx : a.eval p = .pointer (some ⟨g, 0, none⟩)) {cs : Array Value} (hy : a.eval q = .agg cs) {z : Array Value} (hz : RwAt w g t z)
    (hi : (Tryz.prog.info? t).map (·.size) = some cs.size) (hs : z.size = cs.size) (h1 : cs.all (·.oneCell') = true) (h : K (a.put o.dst undef) (w.setRow g cs)) :
    if Region.wanted o (yielded ops a.tmps) = true then Oper.wp Tryz.prog o a w K Q else E := by
  have hw : Region.wanted o (yielded ops a.tmps) = true := by simp [Region.wanted, hgd]
  rw [if_pos hw]
  exact wp_store_row t p q ho g cs hx hy _ _ hz.blk hi hs h1 h
theorem ins_want (o a b c i : Int) : insB o a b c (wantImm o i) = insB o a b c 0 := by
  cases ht : twoB o
  · rw [wantImm_no ht]
  · rw [wantImm_yes ht]
    unfold insB
    simp [ht]
theorem ofV_word {x : PO} {k : Nat} {y : Int} (hy : x.C.getD k 0 = y) : ∃ q0 q1 q2 q3 q4, ofV y (secN x k) = .tuple #[.agg #[.int .i64 q0, .int .i64 q1, .int .i64 q2, .int .i64 q3, .int .u32 q4], .bool (wIns x k)] ∧ (wIns x k = true → q0 = wOp x k) := by
  unfold ofV wIns wOp
  rw [hy, ins_want]
  split
  · rename_i h
    rw [h]
    exact ⟨_, _, _, _, _, rfl, fun _ => rfl⟩
  · rename_i h
    rw [Bool.eq_false_iff.2 h]
    exact ⟨_, _, _, _, _, rfl, fun h => by cases h⟩
theorem sec9_fit {x : PO} (hf : OFit x) (k : Nat) : 0 ≤ secN x k ∧ secN x k < 4294967296 := by
  unfold secN
  rw [List.getD_eq_getElem?_getD]
  cases h : x.C[k + 1]? with
  | none => simp
  | some y => exact hf.c y (List.mem_of_getElem? h)
/-- behind a struct that was made anew, and written into its box, before or behind what else was called -/
theorem cut_set {W0 w : World} {X : Nat} (q0 q1 q2 q3 q4 : Int) (bi : Bool) (hX : RwAt w X 48 #[.int .i64 0, .int .i64 0, .int .i64 0, .int .i64 0, .int .u32 0]) (hg : W0.grownBy w none) (hle : W0.heap.size ≤ X) :
    ∃ Y, Value.pointer (some ⟨X, 0, none⟩) = .pointer (some ⟨Y, 0, none⟩) ∧ Value.bool bi = .bool bi ∧ Hid (RwAt (((((w.setCell ⟨X, 0, none⟩ (.int .i64 q0)).setCell ⟨X, 1, none⟩ (.int .i64 q1)).setCell ⟨X, 2, none⟩ (.int .i64 q2)).setCell ⟨X, 3, none⟩ (.int .i64 q3)).setCell ⟨X, 4, none⟩ (.int .u32 q4)) Y 48 #[.int .i64 q0, .int .i64 q1, .int .i64 q2, .int .i64 q3, .int .u32 q4] ∧ W0.grownBy (((((w.setCell ⟨X, 0, none⟩ (.int .i64 q0)).setCell ⟨X, 1, none⟩ (.int .i64 q1)).setCell ⟨X, 2, none⟩ (.int .i64 q2)).setCell ⟨X, 3, none⟩ (.int .i64 q3)).setCell ⟨X, 4, none⟩ (.int .u32 q4)) none) := by
  refine ⟨X, rfl, rfl, hid ⟨?_, grown_new' (grown_trans (grown_none hg) (grown_setCell (grown_setCell (grown_setCell (grown_setCell (grown_setCell (grown_refl _ _) _ _) _ _) _ _) _ _) _ _)) (fun j hj => by obtain rfl := Option.some.inj hj; exact hle)⟩⟩
  simpa using ((((hX.set 0 (.int .i64 q0)).set 1 (.int .i64 q1)).set 2 (.int .i64 q2)).set 3 (.int .i64 q3)).set 4 (.int .u32 q4)
theorem cut_new {W0 w : World} (q0 q1 q2 q3 q4 : Int) (bi : Bool) (hg : W0.grownBy w none) :
    ∃ Y, Value.pointer (some ⟨w.heap.size, 0, none⟩) = .pointer (some ⟨Y, 0, none⟩) ∧ Value.bool bi = .bool bi ∧ Hid (RwAt (w.alloc (.cells #[.int .i64 q0, .int .i64 q1, .int .i64 q2, .int .i64 q3, .int .u32 q4] 48)) Y 48 #[.int .i64 q0, .int .i64 q1, .int .i64 q2, .int .i64 q3, .int .u32 q4] ∧ W0.grownBy (w.alloc (.cells #[.int .i64 q0, .int .i64 q1, .int .i64 q2, .int .i64 q3, .int .u32 q4] 48)) none) :=
  ⟨_, rfl, rfl, hid ⟨RwAt.new _ _ _, grown_trans hg (World.grownBy_alloc _ _ none)⟩⟩
structure RCw (W w : World) (G R : Nat) (V : OV) (f : Nat → Option Nat) (k : Nat) : Prop where
  box : RwAt w G 27 #[V.d, V.c, V.m, V.r, V.q, V.s]
  res : RwAt w R 31 #[.int .i64 0, .bool false, .int .i64 0]
  g : W.grownBy w none
  no : ∀ j, j < k → f j = none
theorem RCw.kept0 {W w w1 : World} {G R : Nat} {V : OV} {f : Nat → Option Nat} {k : Nat} (h : RCw W w G R V f k) (hg : w.grownBy w1 none) : RCw W w1 G R V f k := ⟨h.box.kept0 hg, h.res.kept0 hg, grown_trans h.g hg, h.no⟩
theorem info_flt9 : (Tryz.prog.info? 31).map (·.size) = some 3 := by kernel_rfl
theorem zero_flt (w : World) : (zeroValue 31).run Tryz.prog w = .ok (.agg #[.int .i64 0, .bool false, .int .i64 0]) w := by kernel_rfl
end Go.Proofs.YtgahbpfmiibpeaaGreatDoor
/- The document's Valid (facaderef9): symbols as plain data: how its loops ask. -/
namespace Go.Proofs.YtgahbpfmiibpeaaGreatDoor
/-- whether one of the first j symbols has the name of symbol i -/
def twiceN (x : PO) (i j : Nat) : Bool := (x.S.take j).any fun s => decide (s.n = (symN x i).n)
theorem twiceN_zero (x : PO) (i : Nat) : twiceN x i 0 = false := by simp [twiceN]
theorem twiceN_succ {x : PO} {i j : Nat} {s : Sy} (h : x.S[j]? = some s) : twiceN x i (j + 1) = (twiceN x i j || decide (s.n = (symN x i).n)) := by
  unfold twiceN
  rw [List.take_add_one, h, List.any_append]
  simp
theorem twiceN_mono {x : PO} {i j : Nat} (h : twiceN x i j = true) {k : Nat} (hk : j ≤ k) : twiceN x i k = true := by
  unfold twiceN at h ⊢
  rw [List.any_eq_true] at h ⊢
  obtain ⟨s, hs, e⟩ := h
  exact ⟨s, (List.take_sublist_take_left hk).subset hs, e⟩
/-- what is amiss with a name -/
def nameF (x : PO) (i : Nat) : Option Nat :=
  if (symN x i).n.size = 0 ∨ 32 < (symN x i).n.size then some 2 else if twiceN x i i = true then some 5 else none
theorem symF_is (x : PO) (i : Nat) : symF x i = match nameF x i with
    | some c => some c
    | none => if standsB x (symN x i) = true then none else some 2 := by
  unfold symF nameF
  by_cases h1 : (symN x i).n.size = 0 ∨ 32 < (symN x i).n.size
  · rw [if_pos h1, if_pos h1]
  · rw [if_neg h1, if_neg h1]
    show (if twiceN x i i = true then some 5 else _) = _
    by_cases h2 : twiceN x i i = true
    · rw [if_pos h2, if_pos h2]
    · rw [if_neg h2, if_neg h2]
end Go.Proofs.YtgahbpfmiibpeaaGreatDoor
