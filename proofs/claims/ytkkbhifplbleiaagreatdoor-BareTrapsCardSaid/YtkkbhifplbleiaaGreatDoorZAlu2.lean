/- What a step's reckons and jumps do (package alu): contracts. -/
import Derived.Test.YtkkbhifplbleiaaGreatDoorZAlu1
import Derived.Test.YtkkbhifplbleiaaGreatDoorZGIsa
import Derived.Deep.RegionWith
import Derived.Deep.RegionHeld3
namespace Go.Proofs.YtkkbhifplbleiaaGreatDoor
open Go.RowKit
theorem build_16 (op a b c imm x0 x1 x2 x3 x4 x5 x6 x7 x8 x9 x10 x11 x12 x13 x14 x15 : Int) (w : World) :
    (Instr.build 204 #[(0, .agg #[.int .i64 op, .int .i64 a, .int .i64 b, .int .i64 c, .int .u32 imm]), (1, .agg (wA [x0, x1, x2, x3, x4, x5, x6, x7, x8, x9, x10, x11, x12, x13, x14, x15]))]).run Tryz.prog w = .ok (.agg (#[.int .i64 op, .int .i64 a, .int .i64 b, .int .i64 c, .int .u32 imm] ++ wA [x0, x1, x2, x3, x4, x5, x6, x7, x8, x9, x10, x11, x12, x13, x14, x15])) w := by kernel_rfl
theorem run_build_step (op a b c imm : Int) {l : List Int} (hl : l.length = 16) (w : World) :
    (Instr.build 204 #[(0, .agg #[.int .i64 op, .int .i64 a, .int .i64 b, .int .i64 c, .int .u32 imm]), (1, .agg (wA l))]).run Tryz.prog w = .ok (.agg (#[.int .i64 op, .int .i64 a, .int .i64 b, .int .i64 c, .int .u32 imm] ++ wA l)) w := by
  match l, hl with
  | [x0, x1, x2, x3, x4, x5, x6, x7, x8, x9, x10, x11, x12, x13, x14, x15], _ => exact build_16 op a b c imm x0 x1 x2 x3 x4 x5 x6 x7 x8 x9 x10 x11 x12 x13 x14 x15 w
theorem wpList_build_step {ops : Array Oper} {rest : List Oper} {o : Oper} {A : Act} {w : World} {Q : Exit → Act → World → Prop} (hgd : o.guard = none) (x y : Operand) (ho : o.op = .build 204 #[(0, x), (1, y)])
    {op a b c imm : Int} {l : List Int} (hl : l.length = 16) (hx : A.eval x = .agg #[.int .i64 op, .int .i64 a, .int .i64 b, .int .i64 c, .int .u32 imm]) (hy : A.eval y = .agg (wA l))
    (h : wpList Tryz.prog ops Q rest (A.put o.dst (.agg (#[.int .i64 op, .int .i64 a, .int .i64 b, .int .i64 c, .int .u32 imm] ++ wA l))) w) : wpList Tryz.prog ops Q (o :: rest) A w := by
  refine wpList_plain hgd fun K hK => ?_
  unfold Oper.wp
  simp [execOp, ho, hx, hy, run_build_step op a b c imm hl w, Result.andThen]
  exact hK _ _ h
theorem func_nil (k : FuncId) (xs : Array Value) (w : World) : (binOp .eql 157 (.func (.func k) xs #[]) .nilFunc).run Tryz.prog w = .ok (.bool false) w := by kernel_rfl
theorem nil_nil (w : World) : (binOp .eql 157 .nilFunc .nilFunc).run Tryz.prog w = .ok (.bool true) w := by kernel_rfl
theorem maybe_any (op a b c imm : Int) (W : World) :
    Calls Tryz.prog 145 #[.agg #[.int .i64 op, .int .i64 a, .int .i64 b, .int .i64 c, .int .u32 imm]] W fun e w' => e = .returned (.bool (insB op a b c imm)) ∧ W.grownBy w' none := by
  go_enter Tryz.func145, Tryz.ntmps145
  go_wp2_with fail
  refine (word_any _ _ _ _ _ _).mono ?_
  rintro e w1 ⟨rfl, hb⟩
  have HG : Hid (W.grownBy w1 none) := hid (grown_trans (World.grownBy_alloc _ _ _) (below_is_grown hb))
  clear hb
  go_wp2
  go_ret
  exact ⟨rfl, HG.out⟩
set_option maxHeartbeats 1000000 in
/-- Do, where reckons answers a method: the word that it reads becomes register A -/
theorem do_core {op a b c imm : Int} {l : List Int} (W : World) (hl : Regs l) (hi : insB op a b c imm = true) (a0 : 0 ≤ a) (a1 : a < 16) (F : FuncId) (V : Int)
    (hreck : ∀ W B, StepAt W B op a b c imm l → Calls Tryz.prog 146 #[.pointer (some ⟨B, 0, none⟩)] W fun e w' => e = .returned (.func (.func F) #[.pointer (some ⟨B, 0, none⟩)] #[]) ∧ W.grownBy w' none)
    (hcall : ∀ xs w, (callFunc F xs).run Tryz.prog w = .ok (.enter F xs) w)
    (hmeth : ∀ W B, StepAt W B op a b c imm l → Calls Tryz.prog F #[.pointer (some ⟨B, 0, none⟩)] W (Reads W V)) :
    Calls Tryz.prog 127 #[.agg #[.int .i64 op, .int .i64 a, .int .i64 b, .int .i64 c, .int .u32 imm], .agg (wA l)] W fun e w' => e = .returned (.tuple #[.agg (wA (l.set a.toNat V)), .bool true]) ∧ W.grownBy w' none := by
  have Hreck := hid hreck
  have Hmeth := hid hmeth
  have Hcall := hid hcall
  clear hreck hmeth hcall
  have Hi := hid hi
  have Hs5 := hid (regs_len_info (l.set a.toNat V) (by rw [List.length_set]; exact hl.len))
  have Hz : Hid ((wA (List.replicate 16 0)).size = (wA (l.set a.toNat V)).size) := hid (by rw [wA_size, wA_size, List.length_set, hl.len]; rfl)
  have HL := hid hl
  have Hs := hid hl.info
  have Hq : Hid ((Tryz.prog.info? 112).map (·.size) = some 5) := hid (by kernel_rfl)
  clear hi hl
  go_enter Tryz.func127, Tryz.ntmps127
  go_wp2_with fail
  refine (maybe_any _ _ _ _ _ _).mono ?_
  rintro e w1 ⟨rfl, hg⟩
  have HI : Hid (w1.heap[W.heap.size]? = some (.cells #[.int .i64 op, .int .i64 a, .int .i64 b, .int .i64 c, .int .u32 imm] 112 (0, 0))) := hid ((hg.block _ (by simp; omega) (by simp)).trans ((heap_alloc_old _ _ (by simp; try omega)).trans ((heap_alloc_old _ _ (by simp; try omega)).trans (heap_alloc_last W _))))
  have HR : Hid (RegAt w1 (W.heap.size + 1) l) := hid ((hg.block _ (by simp) (by simp)).trans ((heap_alloc_old _ _ (by simp; try omega)).trans (heap_alloc2_new W _ _)))
  have HZ : Hid (RegAt w1 (W.heap.size + 1 + 1) (List.replicate 16 0)) := hid ((hg.block _ (by simp) (by simp)).trans (show _ = some (Obj.cells (wA (List.replicate 16 0)) 37 (0, 0)) by
    have := heap_alloc2_new (W.alloc (.cells #[.int .i64 op, .int .i64 a, .int .i64 b, .int .i64 c, .int .u32 imm] 112)) (.cells (wA l) 37) (.cells (wA (List.replicate 16 0)) 37)
    rw [World.size_alloc] at this; exact this))
  have Hg := hid hg
  clear hg
  rw [Hi.out]
  have Hn := hid HL.out.len
  go_wp2_with (first
    | (refine wpList_build_step rfl _ _ rfl Hn.out rfl rfl ?_)
    | (refine wpList_load_row rfl 112 _ rfl W.heap.size rfl _ _ _ _ HI.out Tryz.underlying112 rfl Hq.out ?_)
    | (refine wpList_load_row rfl 37 _ rfl (W.heap.size + 1) rfl _ _ _ _ HR.out Tryz.underlying37 rfl Hs.out ?_))
  have HS : Hid (StepAt (w1.alloc (.cells (#[.int .i64 op, .int .i64 a, .int .i64 b, .int .i64 c, .int .u32 imm] ++ wA l) 204)) w1.heap.size op a b c imm l) := hid (heap_alloc_last w1 _)
  refine (Hreck.out _ _ HS.out).mono ?_
  rintro e w2 ⟨rfl, hg⟩
  have HS2 := hid (HS.out.kept0 hg)
  have HG2 := hid (grown_trans (World.grownBy_alloc w1 _ none) hg)
  clear hg HS
  have HI2 := hid ((HG2.out.block _ (Array.getElem?_eq_some_iff.1 HI.out).1 (by simp)).trans HI.out)
  have HR2 := hid (HR.out.kept0 HG2.out)
  have HZ2 := hid (HZ.out.kept0 HG2.out)
  have HG := hid (grown_trans (grown_trans (grown_trans (World.grownBy_alloc W _ none) (World.grownBy_alloc _ _ _)) (World.grownBy_alloc _ _ _)) (grown_trans Hg.out HG2.out))
  clear HI HR HZ Hg HG2
  have hnf := func_nil
  go_wp2_with fail
  clear hnf
  have i1 : w2.cell? ⟨W.heap.size, 1, none⟩ = some (.int .i64 a) := by rw [cell_of_row _ _ _ _ _ _ HI2.out]; rfl
  have r1 := HR2.out.cell (HL.out.get a0 a1)
  have r2 := HR2.out.free a.toNat
  have hcf := Hcall.out
  clear Hcall
  go_region_with (refine (Hmeth.out _ _ (HS2.out.kept0 (grown_drew (grown_refl _ none)))).mono ?_; rintro e w3 ⟨rfl, n, rfl⟩)
  all_goals
    clear hcf
    have HR5 : Hid (RegAt ((w2.drewN (1 + n)).setCell ⟨W.heap.size + 1, a.toNat, none⟩ (.int .u32 V)) (W.heap.size + 1) (l.set a.toNat V)) := hid ((HR2.out.kept0 (grown_drewN (grown_refl _ none) _)).set _ _)
    have HZ5 : Hid (RegAt ((w2.drewN (1 + n)).setCell ⟨W.heap.size + 1, a.toNat, none⟩ (.int .u32 V)) (W.heap.size + 1 + 1) (List.replicate 16 0)) := hid ((HZ2.out.kept0 (grown_drewN (grown_refl _ none) _)).kept (grown_setCell (grown_refl _ _) _ _) (by simp))
    have HG5 : Hid (W.grownBy ((w2.drewN (1 + n)).setCell ⟨W.heap.size + 1, a.toNat, none⟩ (.int .u32 V)) none) := hid (grown_new (grown_setCell (grown_none (grown_drewN HG.out _)) _ _) (by omega))
    clear i1 r1 r2 HR2 HZ2 HI2 HS2 HG
    generalize (w2.drewN (1 + n)).setCell ⟨W.heap.size + 1, a.toNat, none⟩ (.int .u32 V) = w5 at HR5 HZ5 HG5 ⊢
    go_wp2_with (first
      | (refine wpList_load_row rfl 37 _ rfl (W.heap.size + 1) rfl _ _ _ _ HR5.out Tryz.underlying37 rfl Hs5.out ?_)
      | (refine wpList_store_row rfl 37 _ _ rfl (W.heap.size + 1 + 1) _ rfl rfl _ _ HZ5.out Hs5.out Hz.out (wA_one _) ?_))
    have HE := hid (setRow_heap _ _ _ (wA (l.set a.toNat V)) _ _ HZ5.out)
    have HG6 := hid (grown_setRow HG5.out (B := W.heap.size + 1 + 1) (by omega) (wA (l.set a.toNat V)))
    clear HR5 HZ5 HG5
    have hv := run_loadVar_row (P := Tryz.prog) _ _ _ 37 _ _ _ HE.out Tryz.underlying37 rfl Hs5.out
    refine bodyPost_ret (v := .tuple #[.agg (wA (l.set a.toNat V)), .bool true]) (by simp [results, Tryz.results127, asAddr, hv]) rfl ?_
    exact ⟨rfl, HG6.out⟩
end Go.Proofs.YtkkbhifplbleiaaGreatDoor
