/- Do (package alu) where it answers none: contracts. -/
import Derived.Test.YtniahejdddoopaaAlu2
namespace Go.Proofs.Ytniahejdddoopaa
open Go.RowKit

/-- no registers -/
def zeroL : List Int := List.replicate 16 0
/-- Do of what may not be -/
theorem do_no {op a b c imm : Int} {l : List Int} (W : World) (hi : insB op a b c imm = false) :
    Calls Try.prog 10 #[.agg #[.int .i64 op, .int .i64 a, .int .i64 b, .int .i64 c, .int .u32 imm], .agg (wA l)] W fun e w' => e = .returned (.tuple #[.agg (wA zeroL), .bool false]) ∧ W.grownBy w' none := by
  have Hi := hid hi
  have Hs5 := hid (regs_len_info zeroL rfl)
  clear hi
  go_enter Try.func10, Try.ntmps10
  go_wp2_with fail
  refine (maybe_any _ _ _ _ _ _).mono ?_
  rintro e w1 ⟨rfl, hg⟩
  have HZ : Hid (RegAt w1 (W.heap.size + 1 + 1) zeroL) := hid ((hg.block _ (by simp) (by simp)).trans (show _ = some (Obj.cells (wA zeroL) 24 (0, 0)) by
    have := heap_alloc2_new (W.alloc (.cells #[.int .i64 op, .int .i64 a, .int .i64 b, .int .i64 c, .int .u32 imm] 29)) (.cells (wA l) 24) (.cells (wA zeroL) 24)
    rw [World.size_alloc] at this; exact this))
  have HG1 := hid (grown_trans (grown_trans (grown_trans (World.grownBy_alloc W _ none) (World.grownBy_alloc _ _ _)) (World.grownBy_alloc _ _ _)) hg)
  clear hg
  rw [Hi.out]
  go_wp2_with (refine wpList_store_row rfl 24 _ _ rfl (W.heap.size + 1 + 1) (wA zeroL) rfl rfl _ _ HZ.out Hs5.out rfl (wA_one _) ?_)
  have HE := hid (setRow_heap _ _ _ (wA zeroL) _ _ HZ.out)
  have HG6 := hid (grown_setRow HG1.out (B := W.heap.size + 1 + 1) (by omega) (wA zeroL))
  have hv := run_loadVar_row (P := Try.prog) _ _ _ 24 _ _ _ HE.out Try.underlying24 rfl Hs5.out
  refine bodyPost_ret (v := .tuple #[.agg (wA zeroL), .bool false]) (by simp [results, Try.results10, asAddr, hv]) rfl ?_
  exact ⟨rfl, HG6.out⟩
/-- Do, where reckons answers none -/
theorem do_none {op a b c imm : Int} {l : List Int} (W : World) (hl : Regs l) (hi : insB op a b c imm = true)
    (hreck : ∀ W B, StepAt W B op a b c imm l → Calls Try.prog 17 #[.pointer (some ⟨B, 0, none⟩)] W fun e w' => e = .returned .nilFunc ∧ W.grownBy w' none) :
    Calls Try.prog 10 #[.agg #[.int .i64 op, .int .i64 a, .int .i64 b, .int .i64 c, .int .u32 imm], .agg (wA l)] W fun e w' => e = .returned (.tuple #[.agg (wA zeroL), .bool false]) ∧ W.grownBy w' none := by
  have Hreck := hid hreck
  clear hreck
  have Hi := hid hi
  have Hs5 := hid (regs_len_info zeroL rfl)
  have HL := hid hl
  have Hs := hid hl.info
  have Hq : Hid ((Try.prog.info? 29).map (·.size) = some 5) := hid (by kernel_rfl)
  clear hi hl
  go_enter Try.func10, Try.ntmps10
  go_wp2_with fail
  refine (maybe_any _ _ _ _ _ _).mono ?_
  rintro e w1 ⟨rfl, hg⟩
  have HI : Hid (w1.heap[W.heap.size]? = some (.cells #[.int .i64 op, .int .i64 a, .int .i64 b, .int .i64 c, .int .u32 imm] 29 (0, 0))) := hid ((hg.block _ (by simp; omega) (by simp)).trans ((heap_alloc_old _ _ (by simp; try omega)).trans ((heap_alloc_old _ _ (by simp; try omega)).trans (heap_alloc_last W _))))
  have HR : Hid (RegAt w1 (W.heap.size + 1) l) := hid ((hg.block _ (by simp) (by simp)).trans ((heap_alloc_old _ _ (by simp; try omega)).trans (heap_alloc2_new W _ _)))
  have HZ : Hid (RegAt w1 (W.heap.size + 1 + 1) zeroL) := hid ((hg.block _ (by simp) (by simp)).trans (show _ = some (Obj.cells (wA zeroL) 24 (0, 0)) by
    have := heap_alloc2_new (W.alloc (.cells #[.int .i64 op, .int .i64 a, .int .i64 b, .int .i64 c, .int .u32 imm] 29)) (.cells (wA l) 24) (.cells (wA zeroL) 24)
    rw [World.size_alloc] at this; exact this))
  have Hg := hid hg
  clear hg
  rw [Hi.out]
  have Hn := hid HL.out.len
  go_wp2_with (first
    | (refine wpList_build_step rfl _ _ rfl Hn.out rfl rfl ?_)
    | (refine wpList_load_row rfl 29 _ rfl W.heap.size rfl _ _ _ _ HI.out Try.underlying29 rfl Hq.out ?_)
    | (refine wpList_load_row rfl 24 _ rfl (W.heap.size + 1) rfl _ _ _ _ HR.out Try.underlying24 rfl Hs.out ?_))
  have HS : Hid (StepAt (w1.alloc (.cells (#[.int .i64 op, .int .i64 a, .int .i64 b, .int .i64 c, .int .u32 imm] ++ wA l) 42)) w1.heap.size op a b c imm l) := hid (heap_alloc_last w1 _)
  refine (Hreck.out _ _ HS.out).mono ?_
  rintro e w2 ⟨rfl, hg⟩
  have HG2 := hid (grown_trans (World.grownBy_alloc w1 _ none) hg)
  clear hg HS
  have HZ2 := hid (HZ.out.kept0 HG2.out)
  have HG := hid (grown_trans (grown_trans (grown_trans (World.grownBy_alloc W _ none) (World.grownBy_alloc _ _ _)) (World.grownBy_alloc _ _ _)) (grown_trans Hg.out HG2.out))
  clear HI HR HZ Hg HG2
  have hnf := nil_nil
  go_wp2_with (refine wpList_store_row rfl 24 _ _ rfl (W.heap.size + 1 + 1) (wA zeroL) rfl rfl _ _ HZ2.out Hs5.out rfl (wA_one _) ?_)
  have HE := hid (setRow_heap _ _ _ (wA zeroL) _ _ HZ2.out)
  have HG6 := hid (grown_setRow HG.out (B := W.heap.size + 1 + 1) (by omega) (wA zeroL))
  have hv := run_loadVar_row (P := Try.prog) _ _ _ 24 _ _ _ HE.out Try.underlying24 rfl Hs5.out
  refine bodyPost_ret (v := .tuple #[.agg (wA zeroL), .bool false]) (by simp [results, Try.results10, asAddr, hv]) rfl ?_
  exact ⟨rfl, HG6.out⟩
end Go.Proofs.Ytniahejdddoopaa
