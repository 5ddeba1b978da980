/- The document's own Alu, operation by operation: contracts. (Made by genAlu6.py.) -/
import Derived.Test.YtaecbekobpgkoaaDoorZGAluB
import Derived.Test.YtaecbekobpgkoaaDoorZGRef
namespace Go.Proofs.YtaecbekobpgkoaaDoor
open Go.RowKit
theorem i64_and15 (n : Int) : bits .and .i64 n 15 = n % 16 := by
  have q : (BitVec.ofInt 64 15).toNat = 2 ^ 4 - 1 := by decide
  have key : (BitVec.ofInt 64 n &&& BitVec.ofInt 64 15).toNat = (n % ((2 ^ 64 : Nat) : Int)).toNat % 2 ^ 4 := by
    rw [BitVec.toNat_and, BitVec.toNat_ofInt, q, Nat.and_two_pow_sub_one_eq_mod]
  show IntKind.i64.wrap ((BitVec.ofInt 64 n &&& BitVec.ofInt 64 15).toNat : Nat) = n % 16
  rw [key, IntKind.wrap_i64]
  omega
theorem rone_any (t : Bool) (W : World) : Calls Tryd.prog 59 #[.bool t] W fun e w' => e = .returned (.int .u32 (oneI t)) ∧ W = w' := by
  cases t
  all_goals
    go_enter Tryd.func59, Tryd.ntmps59
    go_wp2
    go_ret
    exact ⟨rfl, rfl⟩
/-- what the document's Alu knows behind its question for the word -/
structure RAt (W w1 : World) (op a b c imm : Int) (l : List Int) : Prop where
  hi : w1.heap[W.heap.size]? = some (.cells #[.int .i64 op, .int .i64 a, .int .i64 b, .int .i64 c, .int .u32 imm] 27 (0, 0))
  hr : RegAt w1 (W.heap.size + 1) l
  hz : RegAt w1 (W.heap.size + 1 + 1) zeroL
  hg : W.grownBy w1 none
theorem RAt.mk' {W w1 : World} {op a b c imm : Int} {l : List Int} (hb : ((((W.alloc (.cells #[.int .i64 op, .int .i64 a, .int .i64 b, .int .i64 c, .int .u32 imm] 27)).alloc (.cells (wA l) 44)).alloc (.cells (wA zeroL) 44))).grownBy w1 none) : RAt W w1 op a b c imm l where
  hi := (hb.block _ (by simp; omega) (by simp)).trans ((heap_alloc_old _ _ (by simp; try omega)).trans ((heap_alloc_old _ _ (by simp; try omega)).trans (heap_alloc_last W _)))
  hr := (hb.block _ (by simp) (by simp)).trans ((heap_alloc_old _ _ (by simp; try omega)).trans (heap_alloc2_new W _ _))
  hz := (hb.block _ (by simp) (by simp)).trans (by
    have := heap_alloc2_new (W.alloc (.cells #[.int .i64 op, .int .i64 a, .int .i64 b, .int .i64 c, .int .u32 imm] 27)) (.cells (wA l) 44) (.cells (wA zeroL) 44)
    rw [World.size_alloc] at this; exact this)
  hg := grown_trans (grown_trans (grown_trans (World.grownBy_alloc W _ none) (World.grownBy_alloc _ _ _)) (World.grownBy_alloc _ _ _)) hb
section
variable {W w1 : World} {op a b c imm : Int} {l : List Int}
theorem RAt.k0 (h : RAt W w1 op a b c imm l) : w1.cell? ⟨W.heap.size, 0, none⟩ = some (.int .i64 op) := by rw [cell_of_row _ _ _ _ _ _ h.hi]; rfl
theorem RAt.k1 (h : RAt W w1 op a b c imm l) : w1.cell? ⟨W.heap.size, 1, none⟩ = some (.int .i64 a) := by rw [cell_of_row _ _ _ _ _ _ h.hi]; rfl
theorem RAt.k2 (h : RAt W w1 op a b c imm l) : w1.cell? ⟨W.heap.size, 2, none⟩ = some (.int .i64 b) := by rw [cell_of_row _ _ _ _ _ _ h.hi]; rfl
theorem RAt.k3 (h : RAt W w1 op a b c imm l) : w1.cell? ⟨W.heap.size, 3, none⟩ = some (.int .i64 c) := by rw [cell_of_row _ _ _ _ _ _ h.hi]; rfl
theorem RAt.k4 (h : RAt W w1 op a b c imm l) : w1.cell? ⟨W.heap.size, 4, none⟩ = some (.int .u32 imm) := by rw [cell_of_row _ _ _ _ _ _ h.hi]; rfl
end
theorem set_self {l : List Int} (hl : Regs l) {a : Int} (a0 : 0 ≤ a) (a1 : a < 16) : l.set a.toNat (regI l a) = l := by
  apply List.ext_getElem?
  intro i
  rw [List.getElem?_set]
  have := hl.get a0 a1
  have hn := hl.len
  split
  · rename_i e
    subst e
    rw [if_pos (by omega), this]
  · rfl
section
variable {op a b c imm : Int} {l : List Int}
set_option maxRecDepth 100000 in
set_option maxHeartbeats 1000000 in
theorem ralu_no (W : World) (hi : insB op a b c imm = false) :
    Calls Tryd.prog 42 #[.agg #[.int .i64 op, .int .i64 a, .int .i64 b, .int .i64 c, .int .u32 imm], .agg (wA l)] W fun e w' => e = .returned (.tuple #[.agg (wA zeroL), .bool false]) ∧ W.grownBy w' none := by
  have Hi := hid hi
  have Hs5 := hid (regs_len_info zeroL rfl)
  clear hi
  go_enter Tryd.func42, Tryd.ntmps42
  go_wp2_with fail
  refine (rword_any _ _ _ _ _ _).mono ?_
  rintro e w1 ⟨rfl, hb⟩
  have HA : Hid (RAt W w1 op a b c imm l) := hid (RAt.mk' (below_is_grown hb))
  clear hb
  rw [Hi.out]
  have k0 := HA.out.k0
  go_wp2_with (refine wpList_store_row rfl 44 _ _ rfl (W.heap.size + 1 + 1) (wA zeroL) rfl rfl _ _ HA.out.hz Hs5.out rfl (wA_one _) ?_)
  have HE := hid (setRow_heap _ _ _ (wA zeroL) _ _ HA.out.hz)
  have HG6 := hid (grown_setRow HA.out.hg (B := W.heap.size + 1 + 1) (by omega) (wA zeroL))
  have hv := run_loadVar_row (P := Tryd.prog) _ _ _ 44 _ _ _ HE.out Tryd.underlying44 rfl Hs5.out
  refine bodyPost_ret (v := .tuple #[.agg (wA zeroL), .bool false]) (by simp [results, Tryd.results42, asAddr, hv]) rfl ?_
  exact ⟨rfl, HG6.out⟩
set_option maxRecDepth 100000 in
set_option maxHeartbeats 1000000 in
theorem ralu_1 (W : World) (hl : Regs l) (hi : insB 1 a b c imm = true) :
    Calls Tryd.prog 42 #[.agg #[.int .i64 1, .int .i64 a, .int .i64 b, .int .i64 c, .int .u32 imm], .agg (wA l)] W fun e w' => e = .returned (.tuple #[.agg (wA (l.set a.toNat (regI l a))), .bool true]) ∧ W.grownBy w' none := by
  obtain ⟨_, ha, _, _, _⟩ := ins_parts hi
  have ea := alw_none (by decide) ha
  rw [set_self hl (by omega) (by omega)]
  have Hi := hid hi
  have Hs5 := hid hl.info
  have Hz : Hid ((wA zeroL).size = (wA l).size) := hid (by rw [wA_size, wA_size, hl.len]; rfl)
  clear hi ha ea hl
  go_enter Tryd.func42, Tryd.ntmps42
  go_wp2_with fail
  refine (rword_any _ _ _ _ _ _).mono ?_
  rintro e w1 ⟨rfl, hb⟩
  have HA : Hid (RAt W w1 1 a b c imm l) := hid (RAt.mk' (below_is_grown hb))
  clear hb
  rw [Hi.out]
  have k0 := HA.out.k0
  go_wp2_with (first
    | (refine wpList_load_row rfl 44 _ rfl (W.heap.size + 1) rfl _ _ _ _ HA.out.hr Tryd.underlying44 rfl Hs5.out ?_)
    | (refine wpList_store_row rfl 44 _ _ rfl (W.heap.size + 1 + 1) (wA l) rfl rfl _ _ HA.out.hz Hs5.out Hz.out (wA_one _) ?_))
  have HE := hid (setRow_heap _ _ _ (wA l) _ _ HA.out.hz)
  have HG6 := hid (grown_setRow HA.out.hg (B := W.heap.size + 1 + 1) (by omega) (wA l))
  have hv := run_loadVar_row (P := Tryd.prog) _ _ _ 44 _ _ _ HE.out Tryd.underlying44 rfl Hs5.out
  refine bodyPost_ret (v := .tuple #[.agg (wA l), .bool true]) (by simp [results, Tryd.results42, asAddr, hv]) rfl ?_
  exact ⟨rfl, HG6.out⟩
set_option maxRecDepth 100000 in
set_option maxHeartbeats 1000000 in
theorem ralu_2 (W : World) (hl : Regs l) (hi : insB 2 a b c imm = true) :
    Calls Tryd.prog 42 #[.agg #[.int .i64 2, .int .i64 a, .int .i64 b, .int .i64 c, .int .u32 imm], .agg (wA l)] W fun e w' => e = .returned (.tuple #[.agg (wA (l.set a.toNat (regI l b))), .bool true]) ∧ W.grownBy w' none := by
  obtain ⟨_, ha, hb, hc, _⟩ := ins_parts hi
  obtain ⟨a0, a1⟩ := alw_reg1 (by decide) ha
  obtain ⟨b0, b1⟩ := alw_reg1 (by decide) hb
  have ec := alw_none (by decide) hc
  have c0 : 0 ≤ c := by omega
  have c1 : c < 16 := by omega
  clear ec
  have E := i64_and15 c
  rw [show c % 16 = c by omega] at E
  have x := hl.reg b
  have y := hl.reg c
  have gx := hl.get b0 b1
  have gy := hl.get c0 c1
  have ga := hl.get a0 a1
  obtain ⟨X, HX⟩ : ∃ X, Hid (regI l b = X) := ⟨_, hid rfl⟩
  obtain ⟨Y, HY⟩ : ∃ Y, Hid (regI l c = Y) := ⟨_, hid rfl⟩
  try rw [HX.out]
  try rw [HY.out]
  rw [HX.out] at x gx
  rw [HY.out] at y gy
  obtain ⟨x0, x1⟩ := x
  obtain ⟨y0, y1⟩ := y
  have Hi := hid hi
  have Hs := hid hl.info
  have Hs5 := hid (regs_len_info (l.set a.toNat (X)) (by rw [List.length_set]; exact hl.len))
  have Hz : Hid ((wA zeroL).size = (wA (l.set a.toNat (X))).size) := hid (by rw [wA_size, wA_size, List.length_set, hl.len]; rfl)
  have Gx := hid gx
  have Gy := hid gy
  have Ga := hid ga
  clear hi ha hb hc hl gx gy ga
  go_enter Tryd.func42, Tryd.ntmps42
  go_wp2_with fail
  refine (rword_any _ _ _ _ _ _).mono ?_
  rintro e w1 ⟨rfl, hb⟩
  have HA : Hid (RAt W w1 2 a b c imm l) := hid (RAt.mk' (below_is_grown hb))
  clear hb
  rw [Hi.out]
  have k0 := HA.out.k0
  have k1 := HA.out.k1
  have k2 := HA.out.k2
  have k3 := HA.out.k3
  have k4 := HA.out.k4
  have px := HA.out.hr.cell Gx.out
  have py := HA.out.hr.cell Gy.out
  have pa := HA.out.hr.cell Ga.out
  have fa := HA.out.hr.free a.toNat
  have HR5 : Hid (RegAt (w1.setCell ⟨W.heap.size + 1, a.toNat, none⟩ (.int .u32 (X))) (W.heap.size + 1) (l.set a.toNat (X))) := hid (HA.out.hr.set _ _)
  have HZ5 : Hid (RegAt (w1.setCell ⟨W.heap.size + 1, a.toNat, none⟩ (.int .u32 (X))) (W.heap.size + 1 + 1) zeroL) := hid (HA.out.hz.kept (grown_setCell (grown_refl _ _) _ _) (by simp))
  have HG5 : Hid (W.grownBy (w1.setCell ⟨W.heap.size + 1, a.toNat, none⟩ (.int .u32 (X))) none) := hid (grown_new (grown_setCell (grown_none HA.out.hg) _ _) (by omega))
  go_wp2_with (first
    | (refine wpList_load_row rfl 44 _ rfl (W.heap.size + 1) rfl _ _ _ _ HR5.out Tryd.underlying44 rfl Hs5.out ?_)
    | (refine wpList_store_row rfl 44 _ _ rfl (W.heap.size + 1 + 1) (wA _) rfl rfl _ _ HZ5.out Hs5.out Hz.out (wA_one _) ?_))
  have HE := hid (setRow_heap _ _ _ (wA (l.set a.toNat (X))) _ _ HZ5.out)
  have HG6 := hid (grown_setRow HG5.out (B := W.heap.size + 1 + 1) (by omega) (wA (l.set a.toNat (X))))
  have hv := run_loadVar_row (P := Tryd.prog) _ _ _ 44 _ _ _ HE.out Tryd.underlying44 rfl Hs5.out
  refine bodyPost_ret (v := .tuple #[.agg (wA (l.set a.toNat (X))), .bool true]) (by simp [results, Tryd.results42, asAddr, hv]) rfl ?_
  exact ⟨rfl, HG6.out⟩
set_option maxRecDepth 100000 in
set_option maxHeartbeats 1000000 in
theorem ralu_3 (W : World) (hl : Regs l) (hi : insB 3 a b c imm = true) :
    Calls Tryd.prog 42 #[.agg #[.int .i64 3, .int .i64 a, .int .i64 b, .int .i64 c, .int .u32 imm], .agg (wA l)] W fun e w' => e = .returned (.tuple #[.agg (wA (l.set a.toNat ((regI l b + regI l c) % 4294967296))), .bool true]) ∧ W.grownBy w' none := by
  obtain ⟨_, ha, hb, hc, _⟩ := ins_parts hi
  obtain ⟨a0, a1⟩ := alw_reg1 (by decide) ha
  obtain ⟨b0, b1⟩ := alw_reg1 (by decide) hb
  obtain ⟨c0, c1⟩ := alw_reg1 (by decide) hc
  have E := i64_and15 c
  rw [show c % 16 = c by omega] at E
  have x := hl.reg b
  have y := hl.reg c
  have gx := hl.get b0 b1
  have gy := hl.get c0 c1
  have ga := hl.get a0 a1
  obtain ⟨X, HX⟩ : ∃ X, Hid (regI l b = X) := ⟨_, hid rfl⟩
  obtain ⟨Y, HY⟩ : ∃ Y, Hid (regI l c = Y) := ⟨_, hid rfl⟩
  try rw [HX.out]
  try rw [HY.out]
  rw [HX.out] at x gx
  rw [HY.out] at y gy
  obtain ⟨x0, x1⟩ := x
  obtain ⟨y0, y1⟩ := y
  have Hi := hid hi
  have Hs := hid hl.info
  have Hs5 := hid (regs_len_info (l.set a.toNat ((X + Y) % 4294967296)) (by rw [List.length_set]; exact hl.len))
  have Hz : Hid ((wA zeroL).size = (wA (l.set a.toNat ((X + Y) % 4294967296))).size) := hid (by rw [wA_size, wA_size, List.length_set, hl.len]; rfl)
  have Gx := hid gx
  have Gy := hid gy
  have Ga := hid ga
  clear hi ha hb hc hl gx gy ga
  go_enter Tryd.func42, Tryd.ntmps42
  go_wp2_with fail
  refine (rword_any _ _ _ _ _ _).mono ?_
  rintro e w1 ⟨rfl, hb⟩
  have HA : Hid (RAt W w1 3 a b c imm l) := hid (RAt.mk' (below_is_grown hb))
  clear hb
  rw [Hi.out]
  have k0 := HA.out.k0
  have k1 := HA.out.k1
  have k2 := HA.out.k2
  have k3 := HA.out.k3
  have k4 := HA.out.k4
  have px := HA.out.hr.cell Gx.out
  have py := HA.out.hr.cell Gy.out
  have pa := HA.out.hr.cell Ga.out
  have fa := HA.out.hr.free a.toNat
  have HR5 : Hid (RegAt (w1.setCell ⟨W.heap.size + 1, a.toNat, none⟩ (.int .u32 ((X + Y) % 4294967296))) (W.heap.size + 1) (l.set a.toNat ((X + Y) % 4294967296))) := hid (HA.out.hr.set _ _)
  have HZ5 : Hid (RegAt (w1.setCell ⟨W.heap.size + 1, a.toNat, none⟩ (.int .u32 ((X + Y) % 4294967296))) (W.heap.size + 1 + 1) zeroL) := hid (HA.out.hz.kept (grown_setCell (grown_refl _ _) _ _) (by simp))
  have HG5 : Hid (W.grownBy (w1.setCell ⟨W.heap.size + 1, a.toNat, none⟩ (.int .u32 ((X + Y) % 4294967296))) none) := hid (grown_new (grown_setCell (grown_none HA.out.hg) _ _) (by omega))
  go_wp2_with (first
    | (refine wpList_load_row rfl 44 _ rfl (W.heap.size + 1) rfl _ _ _ _ HR5.out Tryd.underlying44 rfl Hs5.out ?_)
    | (refine wpList_store_row rfl 44 _ _ rfl (W.heap.size + 1 + 1) (wA _) rfl rfl _ _ HZ5.out Hs5.out Hz.out (wA_one _) ?_))
  have HE := hid (setRow_heap _ _ _ (wA (l.set a.toNat ((X + Y) % 4294967296))) _ _ HZ5.out)
  have HG6 := hid (grown_setRow HG5.out (B := W.heap.size + 1 + 1) (by omega) (wA (l.set a.toNat ((X + Y) % 4294967296))))
  have hv := run_loadVar_row (P := Tryd.prog) _ _ _ 44 _ _ _ HE.out Tryd.underlying44 rfl Hs5.out
  refine bodyPost_ret (v := .tuple #[.agg (wA (l.set a.toNat ((X + Y) % 4294967296))), .bool true]) (by simp [results, Tryd.results42, asAddr, hv]) rfl ?_
  exact ⟨rfl, HG6.out⟩
set_option maxRecDepth 100000 in
set_option maxHeartbeats 1000000 in
theorem ralu_4 (W : World) (hl : Regs l) (hi : insB 4 a b c imm = true) :
    Calls Tryd.prog 42 #[.agg #[.int .i64 4, .int .i64 a, .int .i64 b, .int .i64 c, .int .u32 imm], .agg (wA l)] W fun e w' => e = .returned (.tuple #[.agg (wA (l.set a.toNat ((regI l b - regI l c) % 4294967296))), .bool true]) ∧ W.grownBy w' none := by
  obtain ⟨_, ha, hb, hc, _⟩ := ins_parts hi
  obtain ⟨a0, a1⟩ := alw_reg1 (by decide) ha
  obtain ⟨b0, b1⟩ := alw_reg1 (by decide) hb
  obtain ⟨c0, c1⟩ := alw_reg1 (by decide) hc
  have E := i64_and15 c
  rw [show c % 16 = c by omega] at E
  have x := hl.reg b
  have y := hl.reg c
  have gx := hl.get b0 b1
  have gy := hl.get c0 c1
  have ga := hl.get a0 a1
  obtain ⟨X, HX⟩ : ∃ X, Hid (regI l b = X) := ⟨_, hid rfl⟩
  obtain ⟨Y, HY⟩ : ∃ Y, Hid (regI l c = Y) := ⟨_, hid rfl⟩
  try rw [HX.out]
  try rw [HY.out]
  rw [HX.out] at x gx
  rw [HY.out] at y gy
  obtain ⟨x0, x1⟩ := x
  obtain ⟨y0, y1⟩ := y
  have Hi := hid hi
  have Hs := hid hl.info
  have Hs5 := hid (regs_len_info (l.set a.toNat ((X - Y) % 4294967296)) (by rw [List.length_set]; exact hl.len))
  have Hz : Hid ((wA zeroL).size = (wA (l.set a.toNat ((X - Y) % 4294967296))).size) := hid (by rw [wA_size, wA_size, List.length_set, hl.len]; rfl)
  have Gx := hid gx
  have Gy := hid gy
  have Ga := hid ga
  clear hi ha hb hc hl gx gy ga
  go_enter Tryd.func42, Tryd.ntmps42
  go_wp2_with fail
  refine (rword_any _ _ _ _ _ _).mono ?_
  rintro e w1 ⟨rfl, hb⟩
  have HA : Hid (RAt W w1 4 a b c imm l) := hid (RAt.mk' (below_is_grown hb))
  clear hb
  rw [Hi.out]
  have k0 := HA.out.k0
  have k1 := HA.out.k1
  have k2 := HA.out.k2
  have k3 := HA.out.k3
  have k4 := HA.out.k4
  have px := HA.out.hr.cell Gx.out
  have py := HA.out.hr.cell Gy.out
  have pa := HA.out.hr.cell Ga.out
  have fa := HA.out.hr.free a.toNat
  have HR5 : Hid (RegAt (w1.setCell ⟨W.heap.size + 1, a.toNat, none⟩ (.int .u32 ((X - Y) % 4294967296))) (W.heap.size + 1) (l.set a.toNat ((X - Y) % 4294967296))) := hid (HA.out.hr.set _ _)
  have HZ5 : Hid (RegAt (w1.setCell ⟨W.heap.size + 1, a.toNat, none⟩ (.int .u32 ((X - Y) % 4294967296))) (W.heap.size + 1 + 1) zeroL) := hid (HA.out.hz.kept (grown_setCell (grown_refl _ _) _ _) (by simp))
  have HG5 : Hid (W.grownBy (w1.setCell ⟨W.heap.size + 1, a.toNat, none⟩ (.int .u32 ((X - Y) % 4294967296))) none) := hid (grown_new (grown_setCell (grown_none HA.out.hg) _ _) (by omega))
  go_wp2_with (first
    | (refine wpList_load_row rfl 44 _ rfl (W.heap.size + 1) rfl _ _ _ _ HR5.out Tryd.underlying44 rfl Hs5.out ?_)
    | (refine wpList_store_row rfl 44 _ _ rfl (W.heap.size + 1 + 1) (wA _) rfl rfl _ _ HZ5.out Hs5.out Hz.out (wA_one _) ?_))
  have HE := hid (setRow_heap _ _ _ (wA (l.set a.toNat ((X - Y) % 4294967296))) _ _ HZ5.out)
  have HG6 := hid (grown_setRow HG5.out (B := W.heap.size + 1 + 1) (by omega) (wA (l.set a.toNat ((X - Y) % 4294967296))))
  have hv := run_loadVar_row (P := Tryd.prog) _ _ _ 44 _ _ _ HE.out Tryd.underlying44 rfl Hs5.out
  refine bodyPost_ret (v := .tuple #[.agg (wA (l.set a.toNat ((X - Y) % 4294967296))), .bool true]) (by simp [results, Tryd.results42, asAddr, hv]) rfl ?_
  exact ⟨rfl, HG6.out⟩
set_option maxRecDepth 100000 in
set_option maxHeartbeats 1000000 in
theorem ralu_5 (W : World) (hl : Regs l) (hi : insB 5 a b c imm = true) :
    Calls Tryd.prog 42 #[.agg #[.int .i64 5, .int .i64 a, .int .i64 b, .int .i64 c, .int .u32 imm], .agg (wA l)] W fun e w' => e = .returned (.tuple #[.agg (wA (l.set a.toNat (bits BinOp.and IntKind.u32 (regI l b) (regI l c)))), .bool true]) ∧ W.grownBy w' none := by
  obtain ⟨_, ha, hb, hc, _⟩ := ins_parts hi
  obtain ⟨a0, a1⟩ := alw_reg1 (by decide) ha
  obtain ⟨b0, b1⟩ := alw_reg1 (by decide) hb
  obtain ⟨c0, c1⟩ := alw_reg1 (by decide) hc
  have E := i64_and15 c
  rw [show c % 16 = c by omega] at E
  have x := hl.reg b
  have y := hl.reg c
  have gx := hl.get b0 b1
  have gy := hl.get c0 c1
  have ga := hl.get a0 a1
  obtain ⟨X, HX⟩ : ∃ X, Hid (regI l b = X) := ⟨_, hid rfl⟩
  obtain ⟨Y, HY⟩ : ∃ Y, Hid (regI l c = Y) := ⟨_, hid rfl⟩
  try rw [HX.out]
  try rw [HY.out]
  rw [HX.out] at x gx
  rw [HY.out] at y gy
  obtain ⟨x0, x1⟩ := x
  obtain ⟨y0, y1⟩ := y
  have Hi := hid hi
  have Hs := hid hl.info
  have Hs5 := hid (regs_len_info (l.set a.toNat (bits BinOp.and IntKind.u32 X Y)) (by rw [List.length_set]; exact hl.len))
  have Hz : Hid ((wA zeroL).size = (wA (l.set a.toNat (bits BinOp.and IntKind.u32 X Y))).size) := hid (by rw [wA_size, wA_size, List.length_set, hl.len]; rfl)
  have Gx := hid gx
  have Gy := hid gy
  have Ga := hid ga
  clear hi ha hb hc hl gx gy ga
  go_enter Tryd.func42, Tryd.ntmps42
  go_wp2_with fail
  refine (rword_any _ _ _ _ _ _).mono ?_
  rintro e w1 ⟨rfl, hb⟩
  have HA : Hid (RAt W w1 5 a b c imm l) := hid (RAt.mk' (below_is_grown hb))
  clear hb
  rw [Hi.out]
  have k0 := HA.out.k0
  have k1 := HA.out.k1
  have k2 := HA.out.k2
  have k3 := HA.out.k3
  have k4 := HA.out.k4
  have px := HA.out.hr.cell Gx.out
  have py := HA.out.hr.cell Gy.out
  have pa := HA.out.hr.cell Ga.out
  have fa := HA.out.hr.free a.toNat
  have HR5 : Hid (RegAt (w1.setCell ⟨W.heap.size + 1, a.toNat, none⟩ (.int .u32 (bits BinOp.and IntKind.u32 X Y))) (W.heap.size + 1) (l.set a.toNat (bits BinOp.and IntKind.u32 X Y))) := hid (HA.out.hr.set _ _)
  have HZ5 : Hid (RegAt (w1.setCell ⟨W.heap.size + 1, a.toNat, none⟩ (.int .u32 (bits BinOp.and IntKind.u32 X Y))) (W.heap.size + 1 + 1) zeroL) := hid (HA.out.hz.kept (grown_setCell (grown_refl _ _) _ _) (by simp))
  have HG5 : Hid (W.grownBy (w1.setCell ⟨W.heap.size + 1, a.toNat, none⟩ (.int .u32 (bits BinOp.and IntKind.u32 X Y))) none) := hid (grown_new (grown_setCell (grown_none HA.out.hg) _ _) (by omega))
  go_wp2_with (first
    | (refine wpList_load_row rfl 44 _ rfl (W.heap.size + 1) rfl _ _ _ _ HR5.out Tryd.underlying44 rfl Hs5.out ?_)
    | (refine wpList_store_row rfl 44 _ _ rfl (W.heap.size + 1 + 1) (wA _) rfl rfl _ _ HZ5.out Hs5.out Hz.out (wA_one _) ?_))
  have HE := hid (setRow_heap _ _ _ (wA (l.set a.toNat (bits BinOp.and IntKind.u32 X Y))) _ _ HZ5.out)
  have HG6 := hid (grown_setRow HG5.out (B := W.heap.size + 1 + 1) (by omega) (wA (l.set a.toNat (bits BinOp.and IntKind.u32 X Y))))
  have hv := run_loadVar_row (P := Tryd.prog) _ _ _ 44 _ _ _ HE.out Tryd.underlying44 rfl Hs5.out
  refine bodyPost_ret (v := .tuple #[.agg (wA (l.set a.toNat (bits BinOp.and IntKind.u32 X Y))), .bool true]) (by simp [results, Tryd.results42, asAddr, hv]) rfl ?_
  exact ⟨rfl, HG6.out⟩
set_option maxRecDepth 100000 in
set_option maxHeartbeats 1000000 in
theorem ralu_6 (W : World) (hl : Regs l) (hi : insB 6 a b c imm = true) :
    Calls Tryd.prog 42 #[.agg #[.int .i64 6, .int .i64 a, .int .i64 b, .int .i64 c, .int .u32 imm], .agg (wA l)] W fun e w' => e = .returned (.tuple #[.agg (wA (l.set a.toNat (bits BinOp.or IntKind.u32 (regI l b) (regI l c)))), .bool true]) ∧ W.grownBy w' none := by
  obtain ⟨_, ha, hb, hc, _⟩ := ins_parts hi
  obtain ⟨a0, a1⟩ := alw_reg1 (by decide) ha
  obtain ⟨b0, b1⟩ := alw_reg1 (by decide) hb
  obtain ⟨c0, c1⟩ := alw_reg1 (by decide) hc
  have E := i64_and15 c
  rw [show c % 16 = c by omega] at E
  have x := hl.reg b
  have y := hl.reg c
  have gx := hl.get b0 b1
  have gy := hl.get c0 c1
  have ga := hl.get a0 a1
  obtain ⟨X, HX⟩ : ∃ X, Hid (regI l b = X) := ⟨_, hid rfl⟩
  obtain ⟨Y, HY⟩ : ∃ Y, Hid (regI l c = Y) := ⟨_, hid rfl⟩
  try rw [HX.out]
  try rw [HY.out]
  rw [HX.out] at x gx
  rw [HY.out] at y gy
  obtain ⟨x0, x1⟩ := x
  obtain ⟨y0, y1⟩ := y
  have Hi := hid hi
  have Hs := hid hl.info
  have Hs5 := hid (regs_len_info (l.set a.toNat (bits BinOp.or IntKind.u32 X Y)) (by rw [List.length_set]; exact hl.len))
  have Hz : Hid ((wA zeroL).size = (wA (l.set a.toNat (bits BinOp.or IntKind.u32 X Y))).size) := hid (by rw [wA_size, wA_size, List.length_set, hl.len]; rfl)
  have Gx := hid gx
  have Gy := hid gy
  have Ga := hid ga
  clear hi ha hb hc hl gx gy ga
  go_enter Tryd.func42, Tryd.ntmps42
  go_wp2_with fail
  refine (rword_any _ _ _ _ _ _).mono ?_
  rintro e w1 ⟨rfl, hb⟩
  have HA : Hid (RAt W w1 6 a b c imm l) := hid (RAt.mk' (below_is_grown hb))
  clear hb
  rw [Hi.out]
  have k0 := HA.out.k0
  have k1 := HA.out.k1
  have k2 := HA.out.k2
  have k3 := HA.out.k3
  have k4 := HA.out.k4
  have px := HA.out.hr.cell Gx.out
  have py := HA.out.hr.cell Gy.out
  have pa := HA.out.hr.cell Ga.out
  have fa := HA.out.hr.free a.toNat
  have HR5 : Hid (RegAt (w1.setCell ⟨W.heap.size + 1, a.toNat, none⟩ (.int .u32 (bits BinOp.or IntKind.u32 X Y))) (W.heap.size + 1) (l.set a.toNat (bits BinOp.or IntKind.u32 X Y))) := hid (HA.out.hr.set _ _)
  have HZ5 : Hid (RegAt (w1.setCell ⟨W.heap.size + 1, a.toNat, none⟩ (.int .u32 (bits BinOp.or IntKind.u32 X Y))) (W.heap.size + 1 + 1) zeroL) := hid (HA.out.hz.kept (grown_setCell (grown_refl _ _) _ _) (by simp))
  have HG5 : Hid (W.grownBy (w1.setCell ⟨W.heap.size + 1, a.toNat, none⟩ (.int .u32 (bits BinOp.or IntKind.u32 X Y))) none) := hid (grown_new (grown_setCell (grown_none HA.out.hg) _ _) (by omega))
  go_wp2_with (first
    | (refine wpList_load_row rfl 44 _ rfl (W.heap.size + 1) rfl _ _ _ _ HR5.out Tryd.underlying44 rfl Hs5.out ?_)
    | (refine wpList_store_row rfl 44 _ _ rfl (W.heap.size + 1 + 1) (wA _) rfl rfl _ _ HZ5.out Hs5.out Hz.out (wA_one _) ?_))
  have HE := hid (setRow_heap _ _ _ (wA (l.set a.toNat (bits BinOp.or IntKind.u32 X Y))) _ _ HZ5.out)
  have HG6 := hid (grown_setRow HG5.out (B := W.heap.size + 1 + 1) (by omega) (wA (l.set a.toNat (bits BinOp.or IntKind.u32 X Y))))
  have hv := run_loadVar_row (P := Tryd.prog) _ _ _ 44 _ _ _ HE.out Tryd.underlying44 rfl Hs5.out
  refine bodyPost_ret (v := .tuple #[.agg (wA (l.set a.toNat (bits BinOp.or IntKind.u32 X Y))), .bool true]) (by simp [results, Tryd.results42, asAddr, hv]) rfl ?_
  exact ⟨rfl, HG6.out⟩
set_option maxRecDepth 100000 in
set_option maxHeartbeats 1000000 in
theorem ralu_7 (W : World) (hl : Regs l) (hi : insB 7 a b c imm = true) :
    Calls Tryd.prog 42 #[.agg #[.int .i64 7, .int .i64 a, .int .i64 b, .int .i64 c, .int .u32 imm], .agg (wA l)] W fun e w' => e = .returned (.tuple #[.agg (wA (l.set a.toNat (bits BinOp.xor IntKind.u32 (regI l b) (regI l c)))), .bool true]) ∧ W.grownBy w' none := by
  obtain ⟨_, ha, hb, hc, _⟩ := ins_parts hi
  obtain ⟨a0, a1⟩ := alw_reg1 (by decide) ha
  obtain ⟨b0, b1⟩ := alw_reg1 (by decide) hb
  obtain ⟨c0, c1⟩ := alw_reg1 (by decide) hc
  have E := i64_and15 c
  rw [show c % 16 = c by omega] at E
  have x := hl.reg b
  have y := hl.reg c
  have gx := hl.get b0 b1
  have gy := hl.get c0 c1
  have ga := hl.get a0 a1
  obtain ⟨X, HX⟩ : ∃ X, Hid (regI l b = X) := ⟨_, hid rfl⟩
  obtain ⟨Y, HY⟩ : ∃ Y, Hid (regI l c = Y) := ⟨_, hid rfl⟩
  try rw [HX.out]
  try rw [HY.out]
  rw [HX.out] at x gx
  rw [HY.out] at y gy
  obtain ⟨x0, x1⟩ := x
  obtain ⟨y0, y1⟩ := y
  have Hi := hid hi
  have Hs := hid hl.info
  have Hs5 := hid (regs_len_info (l.set a.toNat (bits BinOp.xor IntKind.u32 X Y)) (by rw [List.length_set]; exact hl.len))
  have Hz : Hid ((wA zeroL).size = (wA (l.set a.toNat (bits BinOp.xor IntKind.u32 X Y))).size) := hid (by rw [wA_size, wA_size, List.length_set, hl.len]; rfl)
  have Gx := hid gx
  have Gy := hid gy
  have Ga := hid ga
  clear hi ha hb hc hl gx gy ga
  go_enter Tryd.func42, Tryd.ntmps42
  go_wp2_with fail
  refine (rword_any _ _ _ _ _ _).mono ?_
  rintro e w1 ⟨rfl, hb⟩
  have HA : Hid (RAt W w1 7 a b c imm l) := hid (RAt.mk' (below_is_grown hb))
  clear hb
  rw [Hi.out]
  have k0 := HA.out.k0
  have k1 := HA.out.k1
  have k2 := HA.out.k2
  have k3 := HA.out.k3
  have k4 := HA.out.k4
  have px := HA.out.hr.cell Gx.out
  have py := HA.out.hr.cell Gy.out
  have pa := HA.out.hr.cell Ga.out
  have fa := HA.out.hr.free a.toNat
  have HR5 : Hid (RegAt (w1.setCell ⟨W.heap.size + 1, a.toNat, none⟩ (.int .u32 (bits BinOp.xor IntKind.u32 X Y))) (W.heap.size + 1) (l.set a.toNat (bits BinOp.xor IntKind.u32 X Y))) := hid (HA.out.hr.set _ _)
  have HZ5 : Hid (RegAt (w1.setCell ⟨W.heap.size + 1, a.toNat, none⟩ (.int .u32 (bits BinOp.xor IntKind.u32 X Y))) (W.heap.size + 1 + 1) zeroL) := hid (HA.out.hz.kept (grown_setCell (grown_refl _ _) _ _) (by simp))
  have HG5 : Hid (W.grownBy (w1.setCell ⟨W.heap.size + 1, a.toNat, none⟩ (.int .u32 (bits BinOp.xor IntKind.u32 X Y))) none) := hid (grown_new (grown_setCell (grown_none HA.out.hg) _ _) (by omega))
  go_wp2_with (first
    | (refine wpList_load_row rfl 44 _ rfl (W.heap.size + 1) rfl _ _ _ _ HR5.out Tryd.underlying44 rfl Hs5.out ?_)
    | (refine wpList_store_row rfl 44 _ _ rfl (W.heap.size + 1 + 1) (wA _) rfl rfl _ _ HZ5.out Hs5.out Hz.out (wA_one _) ?_))
  have HE := hid (setRow_heap _ _ _ (wA (l.set a.toNat (bits BinOp.xor IntKind.u32 X Y))) _ _ HZ5.out)
  have HG6 := hid (grown_setRow HG5.out (B := W.heap.size + 1 + 1) (by omega) (wA (l.set a.toNat (bits BinOp.xor IntKind.u32 X Y))))
  have hv := run_loadVar_row (P := Tryd.prog) _ _ _ 44 _ _ _ HE.out Tryd.underlying44 rfl Hs5.out
  refine bodyPost_ret (v := .tuple #[.agg (wA (l.set a.toNat (bits BinOp.xor IntKind.u32 X Y))), .bool true]) (by simp [results, Tryd.results42, asAddr, hv]) rfl ?_
  exact ⟨rfl, HG6.out⟩
set_option maxRecDepth 100000 in
set_option maxHeartbeats 1000000 in
theorem ralu_8 (W : World) (hl : Regs l) (hi : insB 8 a b c imm = true) :
    Calls Tryd.prog 42 #[.agg #[.int .i64 8, .int .i64 a, .int .i64 b, .int .i64 c, .int .u32 imm], .agg (wA l)] W fun e w' => e = .returned (.tuple #[.agg (wA (l.set a.toNat (regI l b * 2 ^ (regI l c % 32).toNat % 4294967296))), .bool true]) ∧ W.grownBy w' none := by
  obtain ⟨_, ha, hb, hc, _⟩ := ins_parts hi
  obtain ⟨a0, a1⟩ := alw_reg1 (by decide) ha
  obtain ⟨b0, b1⟩ := alw_reg1 (by decide) hb
  obtain ⟨c0, c1⟩ := alw_reg1 (by decide) hc
  have E := i64_and15 c
  rw [show c % 16 = c by omega] at E
  have x := hl.reg b
  have y := hl.reg c
  have gx := hl.get b0 b1
  have gy := hl.get c0 c1
  have ga := hl.get a0 a1
  obtain ⟨X, HX⟩ : ∃ X, Hid (regI l b = X) := ⟨_, hid rfl⟩
  obtain ⟨Y, HY⟩ : ∃ Y, Hid (regI l c = Y) := ⟨_, hid rfl⟩
  try rw [HX.out]
  try rw [HY.out]
  rw [HX.out] at x gx
  rw [HY.out] at y gy
  obtain ⟨x0, x1⟩ := x
  obtain ⟨y0, y1⟩ := y
  have E31 := and_31 Y y0 y1
  have e0 : 0 ≤ Y % 32 := by omega
  have e1 : Y % 32 < 32 := by omega
  have Hi := hid hi
  have Hs := hid hl.info
  have Hs5 := hid (regs_len_info (l.set a.toNat (X * 2 ^ (Y % 32).toNat % 4294967296)) (by rw [List.length_set]; exact hl.len))
  have Hz : Hid ((wA zeroL).size = (wA (l.set a.toNat (X * 2 ^ (Y % 32).toNat % 4294967296))).size) := hid (by rw [wA_size, wA_size, List.length_set, hl.len]; rfl)
  have Gx := hid gx
  have Gy := hid gy
  have Ga := hid ga
  clear hi ha hb hc hl gx gy ga
  go_enter Tryd.func42, Tryd.ntmps42
  go_wp2_with fail
  refine (rword_any _ _ _ _ _ _).mono ?_
  rintro e w1 ⟨rfl, hb⟩
  have HA : Hid (RAt W w1 8 a b c imm l) := hid (RAt.mk' (below_is_grown hb))
  clear hb
  rw [Hi.out]
  have k0 := HA.out.k0
  have k1 := HA.out.k1
  have k2 := HA.out.k2
  have k3 := HA.out.k3
  have k4 := HA.out.k4
  have px := HA.out.hr.cell Gx.out
  have py := HA.out.hr.cell Gy.out
  have pa := HA.out.hr.cell Ga.out
  have fa := HA.out.hr.free a.toNat
  have HR5 : Hid (RegAt (w1.setCell ⟨W.heap.size + 1, a.toNat, none⟩ (.int .u32 (X * 2 ^ (Y % 32).toNat % 4294967296))) (W.heap.size + 1) (l.set a.toNat (X * 2 ^ (Y % 32).toNat % 4294967296))) := hid (HA.out.hr.set _ _)
  have HZ5 : Hid (RegAt (w1.setCell ⟨W.heap.size + 1, a.toNat, none⟩ (.int .u32 (X * 2 ^ (Y % 32).toNat % 4294967296))) (W.heap.size + 1 + 1) zeroL) := hid (HA.out.hz.kept (grown_setCell (grown_refl _ _) _ _) (by simp))
  have HG5 : Hid (W.grownBy (w1.setCell ⟨W.heap.size + 1, a.toNat, none⟩ (.int .u32 (X * 2 ^ (Y % 32).toNat % 4294967296))) none) := hid (grown_new (grown_setCell (grown_none HA.out.hg) _ _) (by omega))
  go_wp2_with (first
    | (refine wpList_load_row rfl 44 _ rfl (W.heap.size + 1) rfl _ _ _ _ HR5.out Tryd.underlying44 rfl Hs5.out ?_)
    | (refine wpList_store_row rfl 44 _ _ rfl (W.heap.size + 1 + 1) (wA _) rfl rfl _ _ HZ5.out Hs5.out Hz.out (wA_one _) ?_))
  have HE := hid (setRow_heap _ _ _ (wA (l.set a.toNat (X * 2 ^ (Y % 32).toNat % 4294967296))) _ _ HZ5.out)
  have HG6 := hid (grown_setRow HG5.out (B := W.heap.size + 1 + 1) (by omega) (wA (l.set a.toNat (X * 2 ^ (Y % 32).toNat % 4294967296))))
  have hv := run_loadVar_row (P := Tryd.prog) _ _ _ 44 _ _ _ HE.out Tryd.underlying44 rfl Hs5.out
  refine bodyPost_ret (v := .tuple #[.agg (wA (l.set a.toNat (X * 2 ^ (Y % 32).toNat % 4294967296))), .bool true]) (by simp [results, Tryd.results42, asAddr, hv]) rfl ?_
  exact ⟨rfl, HG6.out⟩
set_option maxRecDepth 100000 in
set_option maxHeartbeats 1000000 in
theorem ralu_9 (W : World) (hl : Regs l) (hi : insB 9 a b c imm = true) :
    Calls Tryd.prog 42 #[.agg #[.int .i64 9, .int .i64 a, .int .i64 b, .int .i64 c, .int .u32 imm], .agg (wA l)] W fun e w' => e = .returned (.tuple #[.agg (wA (l.set a.toNat (regI l b / 2 ^ (regI l c % 32).toNat))), .bool true]) ∧ W.grownBy w' none := by
  obtain ⟨_, ha, hb, hc, _⟩ := ins_parts hi
  obtain ⟨a0, a1⟩ := alw_reg1 (by decide) ha
  obtain ⟨b0, b1⟩ := alw_reg1 (by decide) hb
  obtain ⟨c0, c1⟩ := alw_reg1 (by decide) hc
  have E := i64_and15 c
  rw [show c % 16 = c by omega] at E
  have x := hl.reg b
  have y := hl.reg c
  have gx := hl.get b0 b1
  have gy := hl.get c0 c1
  have ga := hl.get a0 a1
  obtain ⟨X, HX⟩ : ∃ X, Hid (regI l b = X) := ⟨_, hid rfl⟩
  obtain ⟨Y, HY⟩ : ∃ Y, Hid (regI l c = Y) := ⟨_, hid rfl⟩
  try rw [HX.out]
  try rw [HY.out]
  rw [HX.out] at x gx
  rw [HY.out] at y gy
  obtain ⟨x0, x1⟩ := x
  obtain ⟨y0, y1⟩ := y
  have E31 := and_31 Y y0 y1
  have e0 : 0 ≤ Y % 32 := by omega
  have e1 : Y % 32 < 32 := by omega
  have Hi := hid hi
  have Hs := hid hl.info
  have Hs5 := hid (regs_len_info (l.set a.toNat (X / 2 ^ (Y % 32).toNat)) (by rw [List.length_set]; exact hl.len))
  have Hz : Hid ((wA zeroL).size = (wA (l.set a.toNat (X / 2 ^ (Y % 32).toNat))).size) := hid (by rw [wA_size, wA_size, List.length_set, hl.len]; rfl)
  have Gx := hid gx
  have Gy := hid gy
  have Ga := hid ga
  clear hi ha hb hc hl gx gy ga
  go_enter Tryd.func42, Tryd.ntmps42
  go_wp2_with fail
  refine (rword_any _ _ _ _ _ _).mono ?_
  rintro e w1 ⟨rfl, hb⟩
  have HA : Hid (RAt W w1 9 a b c imm l) := hid (RAt.mk' (below_is_grown hb))
  clear hb
  rw [Hi.out]
  have k0 := HA.out.k0
  have k1 := HA.out.k1
  have k2 := HA.out.k2
  have k3 := HA.out.k3
  have k4 := HA.out.k4
  have px := HA.out.hr.cell Gx.out
  have py := HA.out.hr.cell Gy.out
  have pa := HA.out.hr.cell Ga.out
  have fa := HA.out.hr.free a.toNat
  have HR5 : Hid (RegAt (w1.setCell ⟨W.heap.size + 1, a.toNat, none⟩ (.int .u32 (X / 2 ^ (Y % 32).toNat))) (W.heap.size + 1) (l.set a.toNat (X / 2 ^ (Y % 32).toNat))) := hid (HA.out.hr.set _ _)
  have HZ5 : Hid (RegAt (w1.setCell ⟨W.heap.size + 1, a.toNat, none⟩ (.int .u32 (X / 2 ^ (Y % 32).toNat))) (W.heap.size + 1 + 1) zeroL) := hid (HA.out.hz.kept (grown_setCell (grown_refl _ _) _ _) (by simp))
  have HG5 : Hid (W.grownBy (w1.setCell ⟨W.heap.size + 1, a.toNat, none⟩ (.int .u32 (X / 2 ^ (Y % 32).toNat))) none) := hid (grown_new (grown_setCell (grown_none HA.out.hg) _ _) (by omega))
  go_wp2_with (first
    | (refine wpList_load_row rfl 44 _ rfl (W.heap.size + 1) rfl _ _ _ _ HR5.out Tryd.underlying44 rfl Hs5.out ?_)
    | (refine wpList_store_row rfl 44 _ _ rfl (W.heap.size + 1 + 1) (wA _) rfl rfl _ _ HZ5.out Hs5.out Hz.out (wA_one _) ?_))
  have HE := hid (setRow_heap _ _ _ (wA (l.set a.toNat (X / 2 ^ (Y % 32).toNat))) _ _ HZ5.out)
  have HG6 := hid (grown_setRow HG5.out (B := W.heap.size + 1 + 1) (by omega) (wA (l.set a.toNat (X / 2 ^ (Y % 32).toNat))))
  have hv := run_loadVar_row (P := Tryd.prog) _ _ _ 44 _ _ _ HE.out Tryd.underlying44 rfl Hs5.out
  refine bodyPost_ret (v := .tuple #[.agg (wA (l.set a.toNat (X / 2 ^ (Y % 32).toNat))), .bool true]) (by simp [results, Tryd.results42, asAddr, hv]) rfl ?_
  exact ⟨rfl, HG6.out⟩
set_option maxRecDepth 100000 in
set_option maxHeartbeats 1000000 in
theorem ralu_10 (W : World) (hl : Regs l) (hi : insB 10 a b c imm = true) :
    Calls Tryd.prog 42 #[.agg #[.int .i64 10, .int .i64 a, .int .i64 b, .int .i64 c, .int .u32 imm], .agg (wA l)] W fun e w' => e = .returned (.tuple #[.agg (wA (l.set a.toNat (oneI (decide (regI l b < regI l c))))), .bool true]) ∧ W.grownBy w' none := by
  obtain ⟨_, ha, hb, hc, _⟩ := ins_parts hi
  obtain ⟨a0, a1⟩ := alw_reg1 (by decide) ha
  obtain ⟨b0, b1⟩ := alw_reg1 (by decide) hb
  obtain ⟨c0, c1⟩ := alw_reg1 (by decide) hc
  have E := i64_and15 c
  rw [show c % 16 = c by omega] at E
  have x := hl.reg b
  have y := hl.reg c
  have gx := hl.get b0 b1
  have gy := hl.get c0 c1
  have ga := hl.get a0 a1
  obtain ⟨X, HX⟩ : ∃ X, Hid (regI l b = X) := ⟨_, hid rfl⟩
  obtain ⟨Y, HY⟩ : ∃ Y, Hid (regI l c = Y) := ⟨_, hid rfl⟩
  try rw [HX.out]
  try rw [HY.out]
  rw [HX.out] at x gx
  rw [HY.out] at y gy
  obtain ⟨x0, x1⟩ := x
  obtain ⟨y0, y1⟩ := y
  have Hi := hid hi
  have Hs := hid hl.info
  have Hs5 := hid (regs_len_info (l.set a.toNat (oneI (decide (X < Y)))) (by rw [List.length_set]; exact hl.len))
  have Hz : Hid ((wA zeroL).size = (wA (l.set a.toNat (oneI (decide (X < Y))))).size) := hid (by rw [wA_size, wA_size, List.length_set, hl.len]; rfl)
  have Gx := hid gx
  have Gy := hid gy
  have Ga := hid ga
  clear hi ha hb hc hl gx gy ga
  go_enter Tryd.func42, Tryd.ntmps42
  go_wp2_with fail
  refine (rword_any _ _ _ _ _ _).mono ?_
  rintro e w1 ⟨rfl, hb⟩
  have HA : Hid (RAt W w1 10 a b c imm l) := hid (RAt.mk' (below_is_grown hb))
  clear hb
  rw [Hi.out]
  have k0 := HA.out.k0
  have k1 := HA.out.k1
  have k2 := HA.out.k2
  have k3 := HA.out.k3
  have k4 := HA.out.k4
  have px := HA.out.hr.cell Gx.out
  have py := HA.out.hr.cell Gy.out
  have pa := HA.out.hr.cell Ga.out
  have fa := HA.out.hr.free a.toNat
  have HR5 : Hid (RegAt (w1.setCell ⟨W.heap.size + 1, a.toNat, none⟩ (.int .u32 (oneI (decide (X < Y))))) (W.heap.size + 1) (l.set a.toNat (oneI (decide (X < Y))))) := hid (HA.out.hr.set _ _)
  have HZ5 : Hid (RegAt (w1.setCell ⟨W.heap.size + 1, a.toNat, none⟩ (.int .u32 (oneI (decide (X < Y))))) (W.heap.size + 1 + 1) zeroL) := hid (HA.out.hz.kept (grown_setCell (grown_refl _ _) _ _) (by simp))
  have HG5 : Hid (W.grownBy (w1.setCell ⟨W.heap.size + 1, a.toNat, none⟩ (.int .u32 (oneI (decide (X < Y))))) none) := hid (grown_new (grown_setCell (grown_none HA.out.hg) _ _) (by omega))
  go_wp2_with (first
    | (go_at_call 59; refine (rone_any _ _).mono ?_; rintro e w' ⟨rfl, rfl⟩)
    | (refine wpList_load_row rfl 44 _ rfl (W.heap.size + 1) rfl _ _ _ _ HR5.out Tryd.underlying44 rfl Hs5.out ?_)
    | (refine wpList_store_row rfl 44 _ _ rfl (W.heap.size + 1 + 1) (wA _) rfl rfl _ _ HZ5.out Hs5.out Hz.out (wA_one _) ?_))
  have HE := hid (setRow_heap _ _ _ (wA (l.set a.toNat (oneI (decide (X < Y))))) _ _ HZ5.out)
  have HG6 := hid (grown_setRow HG5.out (B := W.heap.size + 1 + 1) (by omega) (wA (l.set a.toNat (oneI (decide (X < Y))))))
  have hv := run_loadVar_row (P := Tryd.prog) _ _ _ 44 _ _ _ HE.out Tryd.underlying44 rfl Hs5.out
  refine bodyPost_ret (v := .tuple #[.agg (wA (l.set a.toNat (oneI (decide (X < Y))))), .bool true]) (by simp [results, Tryd.results42, asAddr, hv]) rfl ?_
  exact ⟨rfl, HG6.out⟩
set_option maxRecDepth 100000 in
set_option maxHeartbeats 1000000 in
theorem ralu_11 (W : World) (hl : Regs l) (hi : insB 11 a b c imm = true) :
    Calls Tryd.prog 42 #[.agg #[.int .i64 11, .int .i64 a, .int .i64 b, .int .i64 c, .int .u32 imm], .agg (wA l)] W fun e w' => e = .returned (.tuple #[.agg (wA (l.set a.toNat (oneI (regI l b == regI l c)))), .bool true]) ∧ W.grownBy w' none := by
  obtain ⟨_, ha, hb, hc, _⟩ := ins_parts hi
  obtain ⟨a0, a1⟩ := alw_reg1 (by decide) ha
  obtain ⟨b0, b1⟩ := alw_reg1 (by decide) hb
  obtain ⟨c0, c1⟩ := alw_reg1 (by decide) hc
  have E := i64_and15 c
  rw [show c % 16 = c by omega] at E
  have x := hl.reg b
  have y := hl.reg c
  have gx := hl.get b0 b1
  have gy := hl.get c0 c1
  have ga := hl.get a0 a1
  obtain ⟨X, HX⟩ : ∃ X, Hid (regI l b = X) := ⟨_, hid rfl⟩
  obtain ⟨Y, HY⟩ : ∃ Y, Hid (regI l c = Y) := ⟨_, hid rfl⟩
  try rw [HX.out]
  try rw [HY.out]
  rw [HX.out] at x gx
  rw [HY.out] at y gy
  obtain ⟨x0, x1⟩ := x
  obtain ⟨y0, y1⟩ := y
  have Hi := hid hi
  have Hs := hid hl.info
  have Hs5 := hid (regs_len_info (l.set a.toNat (oneI (X == Y))) (by rw [List.length_set]; exact hl.len))
  have Hz : Hid ((wA zeroL).size = (wA (l.set a.toNat (oneI (X == Y)))).size) := hid (by rw [wA_size, wA_size, List.length_set, hl.len]; rfl)
  have Gx := hid gx
  have Gy := hid gy
  have Ga := hid ga
  clear hi ha hb hc hl gx gy ga
  go_enter Tryd.func42, Tryd.ntmps42
  go_wp2_with fail
  refine (rword_any _ _ _ _ _ _).mono ?_
  rintro e w1 ⟨rfl, hb⟩
  have HA : Hid (RAt W w1 11 a b c imm l) := hid (RAt.mk' (below_is_grown hb))
  clear hb
  rw [Hi.out]
  have k0 := HA.out.k0
  have k1 := HA.out.k1
  have k2 := HA.out.k2
  have k3 := HA.out.k3
  have k4 := HA.out.k4
  have px := HA.out.hr.cell Gx.out
  have py := HA.out.hr.cell Gy.out
  have pa := HA.out.hr.cell Ga.out
  have fa := HA.out.hr.free a.toNat
  have HR5 : Hid (RegAt (w1.setCell ⟨W.heap.size + 1, a.toNat, none⟩ (.int .u32 (oneI (X == Y)))) (W.heap.size + 1) (l.set a.toNat (oneI (X == Y)))) := hid (HA.out.hr.set _ _)
  have HZ5 : Hid (RegAt (w1.setCell ⟨W.heap.size + 1, a.toNat, none⟩ (.int .u32 (oneI (X == Y)))) (W.heap.size + 1 + 1) zeroL) := hid (HA.out.hz.kept (grown_setCell (grown_refl _ _) _ _) (by simp))
  have HG5 : Hid (W.grownBy (w1.setCell ⟨W.heap.size + 1, a.toNat, none⟩ (.int .u32 (oneI (X == Y)))) none) := hid (grown_new (grown_setCell (grown_none HA.out.hg) _ _) (by omega))
  go_wp2_with (first
    | (go_at_call 59; refine (rone_any _ _).mono ?_; rintro e w' ⟨rfl, rfl⟩)
    | (refine wpList_load_row rfl 44 _ rfl (W.heap.size + 1) rfl _ _ _ _ HR5.out Tryd.underlying44 rfl Hs5.out ?_)
    | (refine wpList_store_row rfl 44 _ _ rfl (W.heap.size + 1 + 1) (wA _) rfl rfl _ _ HZ5.out Hs5.out Hz.out (wA_one _) ?_))
  have HE := hid (setRow_heap _ _ _ (wA (l.set a.toNat (oneI (X == Y)))) _ _ HZ5.out)
  have HG6 := hid (grown_setRow HG5.out (B := W.heap.size + 1 + 1) (by omega) (wA (l.set a.toNat (oneI (X == Y)))))
  have hv := run_loadVar_row (P := Tryd.prog) _ _ _ 44 _ _ _ HE.out Tryd.underlying44 rfl Hs5.out
  refine bodyPost_ret (v := .tuple #[.agg (wA (l.set a.toNat (oneI (X == Y)))), .bool true]) (by simp [results, Tryd.results42, asAddr, hv]) rfl ?_
  exact ⟨rfl, HG6.out⟩
set_option maxRecDepth 100000 in
set_option maxHeartbeats 1000000 in
theorem ralu_24 (W : World) (hl : Regs l) (hi : insB 24 a b c imm = true) :
    Calls Tryd.prog 42 #[.agg #[.int .i64 24, .int .i64 a, .int .i64 b, .int .i64 c, .int .u32 imm], .agg (wA l)] W fun e w' => e = .returned (.tuple #[.agg (wA (l.set a.toNat (regI l b * regI l c % 4294967296))), .bool true]) ∧ W.grownBy w' none := by
  obtain ⟨_, ha, hb, hc, _⟩ := ins_parts hi
  obtain ⟨a0, a1⟩ := alw_reg1 (by decide) ha
  obtain ⟨b0, b1⟩ := alw_reg1 (by decide) hb
  obtain ⟨c0, c1⟩ := alw_reg1 (by decide) hc
  have E := i64_and15 c
  rw [show c % 16 = c by omega] at E
  have x := hl.reg b
  have y := hl.reg c
  have gx := hl.get b0 b1
  have gy := hl.get c0 c1
  have ga := hl.get a0 a1
  obtain ⟨X, HX⟩ : ∃ X, Hid (regI l b = X) := ⟨_, hid rfl⟩
  obtain ⟨Y, HY⟩ : ∃ Y, Hid (regI l c = Y) := ⟨_, hid rfl⟩
  try rw [HX.out]
  try rw [HY.out]
  rw [HX.out] at x gx
  rw [HY.out] at y gy
  obtain ⟨x0, x1⟩ := x
  obtain ⟨y0, y1⟩ := y
  have Hi := hid hi
  have Hs := hid hl.info
  have Hs5 := hid (regs_len_info (l.set a.toNat (X * Y % 4294967296)) (by rw [List.length_set]; exact hl.len))
  have Hz : Hid ((wA zeroL).size = (wA (l.set a.toNat (X * Y % 4294967296))).size) := hid (by rw [wA_size, wA_size, List.length_set, hl.len]; rfl)
  have Gx := hid gx
  have Gy := hid gy
  have Ga := hid ga
  clear hi ha hb hc hl gx gy ga
  go_enter Tryd.func42, Tryd.ntmps42
  go_wp2_with fail
  refine (rword_any _ _ _ _ _ _).mono ?_
  rintro e w1 ⟨rfl, hb⟩
  have HA : Hid (RAt W w1 24 a b c imm l) := hid (RAt.mk' (below_is_grown hb))
  clear hb
  rw [Hi.out]
  have k0 := HA.out.k0
  have k1 := HA.out.k1
  have k2 := HA.out.k2
  have k3 := HA.out.k3
  have k4 := HA.out.k4
  have px := HA.out.hr.cell Gx.out
  have py := HA.out.hr.cell Gy.out
  have pa := HA.out.hr.cell Ga.out
  have fa := HA.out.hr.free a.toNat
  have HR5 : Hid (RegAt (w1.setCell ⟨W.heap.size + 1, a.toNat, none⟩ (.int .u32 (X * Y % 4294967296))) (W.heap.size + 1) (l.set a.toNat (X * Y % 4294967296))) := hid (HA.out.hr.set _ _)
  have HZ5 : Hid (RegAt (w1.setCell ⟨W.heap.size + 1, a.toNat, none⟩ (.int .u32 (X * Y % 4294967296))) (W.heap.size + 1 + 1) zeroL) := hid (HA.out.hz.kept (grown_setCell (grown_refl _ _) _ _) (by simp))
  have HG5 : Hid (W.grownBy (w1.setCell ⟨W.heap.size + 1, a.toNat, none⟩ (.int .u32 (X * Y % 4294967296))) none) := hid (grown_new (grown_setCell (grown_none HA.out.hg) _ _) (by omega))
  go_wp2_with (first
    | (refine wpList_load_row rfl 44 _ rfl (W.heap.size + 1) rfl _ _ _ _ HR5.out Tryd.underlying44 rfl Hs5.out ?_)
    | (refine wpList_store_row rfl 44 _ _ rfl (W.heap.size + 1 + 1) (wA _) rfl rfl _ _ HZ5.out Hs5.out Hz.out (wA_one _) ?_))
  have HE := hid (setRow_heap _ _ _ (wA (l.set a.toNat (X * Y % 4294967296))) _ _ HZ5.out)
  have HG6 := hid (grown_setRow HG5.out (B := W.heap.size + 1 + 1) (by omega) (wA (l.set a.toNat (X * Y % 4294967296))))
  have hv := run_loadVar_row (P := Tryd.prog) _ _ _ 44 _ _ _ HE.out Tryd.underlying44 rfl Hs5.out
  refine bodyPost_ret (v := .tuple #[.agg (wA (l.set a.toNat (X * Y % 4294967296))), .bool true]) (by simp [results, Tryd.results42, asAddr, hv]) rfl ?_
  exact ⟨rfl, HG6.out⟩
set_option maxRecDepth 100000 in
set_option maxHeartbeats 1000000 in
theorem ralu_14 (W : World) (hl : Regs l) (hi : insB 14 a b c imm = true) :
    Calls Tryd.prog 42 #[.agg #[.int .i64 14, .int .i64 a, .int .i64 b, .int .i64 c, .int .u32 imm], .agg (wA l)] W fun e w' => e = .returned (.tuple #[.agg (wA (l.set a.toNat (imm))), .bool true]) ∧ W.grownBy w' none := by
  obtain ⟨_, ha, hb, hc, _⟩ := ins_parts hi
  obtain ⟨a0, a1⟩ := alw_reg1 (by decide) ha
  have eb := alw_none (by decide) hb
  have b0 : 0 ≤ b := by omega
  have b1 : b < 16 := by omega
  clear eb
  have ec := alw_none (by decide) hc
  have c0 : 0 ≤ c := by omega
  have c1 : c < 16 := by omega
  clear ec
  have E := i64_and15 c
  rw [show c % 16 = c by omega] at E
  have x := hl.reg b
  have y := hl.reg c
  have gx := hl.get b0 b1
  have gy := hl.get c0 c1
  have ga := hl.get a0 a1
  obtain ⟨X, HX⟩ : ∃ X, Hid (regI l b = X) := ⟨_, hid rfl⟩
  obtain ⟨Y, HY⟩ : ∃ Y, Hid (regI l c = Y) := ⟨_, hid rfl⟩
  try rw [HX.out]
  try rw [HY.out]
  rw [HX.out] at x gx
  rw [HY.out] at y gy
  obtain ⟨x0, x1⟩ := x
  obtain ⟨y0, y1⟩ := y
  have Hi := hid hi
  have Hs := hid hl.info
  have Hs5 := hid (regs_len_info (l.set a.toNat (imm)) (by rw [List.length_set]; exact hl.len))
  have Hz : Hid ((wA zeroL).size = (wA (l.set a.toNat (imm))).size) := hid (by rw [wA_size, wA_size, List.length_set, hl.len]; rfl)
  have Gx := hid gx
  have Gy := hid gy
  have Ga := hid ga
  clear hi ha hb hc hl gx gy ga
  go_enter Tryd.func42, Tryd.ntmps42
  go_wp2_with fail
  refine (rword_any _ _ _ _ _ _).mono ?_
  rintro e w1 ⟨rfl, hb⟩
  have HA : Hid (RAt W w1 14 a b c imm l) := hid (RAt.mk' (below_is_grown hb))
  clear hb
  rw [Hi.out]
  have k0 := HA.out.k0
  have k1 := HA.out.k1
  have k2 := HA.out.k2
  have k3 := HA.out.k3
  have k4 := HA.out.k4
  have px := HA.out.hr.cell Gx.out
  have py := HA.out.hr.cell Gy.out
  have pa := HA.out.hr.cell Ga.out
  have fa := HA.out.hr.free a.toNat
  have HR5 : Hid (RegAt (w1.setCell ⟨W.heap.size + 1, a.toNat, none⟩ (.int .u32 (imm))) (W.heap.size + 1) (l.set a.toNat (imm))) := hid (HA.out.hr.set _ _)
  have HZ5 : Hid (RegAt (w1.setCell ⟨W.heap.size + 1, a.toNat, none⟩ (.int .u32 (imm))) (W.heap.size + 1 + 1) zeroL) := hid (HA.out.hz.kept (grown_setCell (grown_refl _ _) _ _) (by simp))
  have HG5 : Hid (W.grownBy (w1.setCell ⟨W.heap.size + 1, a.toNat, none⟩ (.int .u32 (imm))) none) := hid (grown_new (grown_setCell (grown_none HA.out.hg) _ _) (by omega))
  go_wp2_with (first
    | (refine wpList_load_row rfl 44 _ rfl (W.heap.size + 1) rfl _ _ _ _ HR5.out Tryd.underlying44 rfl Hs5.out ?_)
    | (refine wpList_store_row rfl 44 _ _ rfl (W.heap.size + 1 + 1) (wA _) rfl rfl _ _ HZ5.out Hs5.out Hz.out (wA_one _) ?_))
  have HE := hid (setRow_heap _ _ _ (wA (l.set a.toNat (imm))) _ _ HZ5.out)
  have HG6 := hid (grown_setRow HG5.out (B := W.heap.size + 1 + 1) (by omega) (wA (l.set a.toNat (imm))))
  have hv := run_loadVar_row (P := Tryd.prog) _ _ _ 44 _ _ _ HE.out Tryd.underlying44 rfl Hs5.out
  refine bodyPost_ret (v := .tuple #[.agg (wA (l.set a.toNat (imm))), .bool true]) (by simp [results, Tryd.results42, asAddr, hv]) rfl ?_
  exact ⟨rfl, HG6.out⟩
set_option maxRecDepth 100000 in
set_option maxHeartbeats 1000000 in
theorem ralu_15 (W : World) (hl : Regs l) (hi : insB 15 a b c imm = true) :
    Calls Tryd.prog 42 #[.agg #[.int .i64 15, .int .i64 a, .int .i64 b, .int .i64 c, .int .u32 imm], .agg (wA l)] W fun e w' => e = .returned (.tuple #[.agg (wA (l.set a.toNat (imm))), .bool true]) ∧ W.grownBy w' none := by
  obtain ⟨_, ha, hb, hc, _⟩ := ins_parts hi
  obtain ⟨a0, a1⟩ := alw_reg1 (by decide) ha
  have eb := alw_none (by decide) hb
  have b0 : 0 ≤ b := by omega
  have b1 : b < 16 := by omega
  clear eb
  have ec := alw_none (by decide) hc
  have c0 : 0 ≤ c := by omega
  have c1 : c < 16 := by omega
  clear ec
  have E := i64_and15 c
  rw [show c % 16 = c by omega] at E
  have x := hl.reg b
  have y := hl.reg c
  have gx := hl.get b0 b1
  have gy := hl.get c0 c1
  have ga := hl.get a0 a1
  obtain ⟨X, HX⟩ : ∃ X, Hid (regI l b = X) := ⟨_, hid rfl⟩
  obtain ⟨Y, HY⟩ : ∃ Y, Hid (regI l c = Y) := ⟨_, hid rfl⟩
  try rw [HX.out]
  try rw [HY.out]
  rw [HX.out] at x gx
  rw [HY.out] at y gy
  obtain ⟨x0, x1⟩ := x
  obtain ⟨y0, y1⟩ := y
  have Hi := hid hi
  have Hs := hid hl.info
  have Hs5 := hid (regs_len_info (l.set a.toNat (imm)) (by rw [List.length_set]; exact hl.len))
  have Hz : Hid ((wA zeroL).size = (wA (l.set a.toNat (imm))).size) := hid (by rw [wA_size, wA_size, List.length_set, hl.len]; rfl)
  have Gx := hid gx
  have Gy := hid gy
  have Ga := hid ga
  clear hi ha hb hc hl gx gy ga
  go_enter Tryd.func42, Tryd.ntmps42
  go_wp2_with fail
  refine (rword_any _ _ _ _ _ _).mono ?_
  rintro e w1 ⟨rfl, hb⟩
  have HA : Hid (RAt W w1 15 a b c imm l) := hid (RAt.mk' (below_is_grown hb))
  clear hb
  rw [Hi.out]
  have k0 := HA.out.k0
  have k1 := HA.out.k1
  have k2 := HA.out.k2
  have k3 := HA.out.k3
  have k4 := HA.out.k4
  have px := HA.out.hr.cell Gx.out
  have py := HA.out.hr.cell Gy.out
  have pa := HA.out.hr.cell Ga.out
  have fa := HA.out.hr.free a.toNat
  have HR5 : Hid (RegAt (w1.setCell ⟨W.heap.size + 1, a.toNat, none⟩ (.int .u32 (imm))) (W.heap.size + 1) (l.set a.toNat (imm))) := hid (HA.out.hr.set _ _)
  have HZ5 : Hid (RegAt (w1.setCell ⟨W.heap.size + 1, a.toNat, none⟩ (.int .u32 (imm))) (W.heap.size + 1 + 1) zeroL) := hid (HA.out.hz.kept (grown_setCell (grown_refl _ _) _ _) (by simp))
  have HG5 : Hid (W.grownBy (w1.setCell ⟨W.heap.size + 1, a.toNat, none⟩ (.int .u32 (imm))) none) := hid (grown_new (grown_setCell (grown_none HA.out.hg) _ _) (by omega))
  go_wp2_with (first
    | (refine wpList_load_row rfl 44 _ rfl (W.heap.size + 1) rfl _ _ _ _ HR5.out Tryd.underlying44 rfl Hs5.out ?_)
    | (refine wpList_store_row rfl 44 _ _ rfl (W.heap.size + 1 + 1) (wA _) rfl rfl _ _ HZ5.out Hs5.out Hz.out (wA_one _) ?_))
  have HE := hid (setRow_heap _ _ _ (wA (l.set a.toNat (imm))) _ _ HZ5.out)
  have HG6 := hid (grown_setRow HG5.out (B := W.heap.size + 1 + 1) (by omega) (wA (l.set a.toNat (imm))))
  have hv := run_loadVar_row (P := Tryd.prog) _ _ _ 44 _ _ _ HE.out Tryd.underlying44 rfl Hs5.out
  refine bodyPost_ret (v := .tuple #[.agg (wA (l.set a.toNat (imm))), .bool true]) (by simp [results, Tryd.results42, asAddr, hv]) rfl ?_
  exact ⟨rfl, HG6.out⟩
set_option maxRecDepth 100000 in
set_option maxHeartbeats 1000000 in
theorem ralu_none (W : World) (hl : Regs l) (hi : insB op a b c imm = true) (h1 : (op == 1) = false) (h2 : (op == 2) = false) (h3 : (op == 3) = false) (h4 : (op == 4) = false) (h5 : (op == 5) = false) (h6 : (op == 6) = false) (h7 : (op == 7) = false) (h8 : (op == 8) = false) (h9 : (op == 9) = false) (h10 : (op == 10) = false) (h11 : (op == 11) = false) (h24 : (op == 24) = false) (h14 : (op == 14) = false) (h15 : (op == 15) = false) :
    Calls Tryd.prog 42 #[.agg #[.int .i64 op, .int .i64 a, .int .i64 b, .int .i64 c, .int .u32 imm], .agg (wA l)] W fun e w' => e = .returned (.tuple #[.agg (wA zeroL), .bool false]) ∧ W.grownBy w' none := by
  obtain ⟨_, ha, hb, hc, _⟩ := ins_parts hi
  have b0 : 0 ≤ b ∧ b < 16 := by
    by_cases e : hasB op = 1
    · exact alw_reg1 e hb
    · have e0 : hasB op = 0 := by unfold hasB at e ⊢; split at e <;> simp_all
      have := alw_none e0 hb; omega
  obtain ⟨b0, b1⟩ := b0
  have E := i64_and15 c
  obtain ⟨C, hC⟩ : ∃ C, c % 16 = C := ⟨_, rfl⟩
  have C0 : 0 ≤ C := by omega
  have C1 : C < 16 := by omega
  rw [hC] at E
  have gx := hl.get b0 b1
  have gy := hl.get C0 C1
  have Hi := hid hi
  have Gx := hid gx
  have Gy := hid gy
  have Hs5 := hid (regs_len_info zeroL rfl)
  clear hi ha hb hc hl gx gy hC
  go_enter Tryd.func42, Tryd.ntmps42
  go_wp2_with fail
  refine (rword_any _ _ _ _ _ _).mono ?_
  rintro e w1 ⟨rfl, hb⟩
  have HA : Hid (RAt W w1 op a b c imm l) := hid (RAt.mk' (below_is_grown hb))
  clear hb
  rw [Hi.out]
  have k0 := HA.out.k0
  have k1 := HA.out.k1
  have k2 := HA.out.k2
  have k3 := HA.out.k3
  have px := HA.out.hr.cell Gx.out
  have py := HA.out.hr.cell Gy.out
  go_wp2_with (refine wpList_store_row rfl 44 _ _ rfl (W.heap.size + 1 + 1) (wA zeroL) rfl rfl _ _ HA.out.hz Hs5.out rfl (wA_one _) ?_)
  have HE := hid (setRow_heap _ _ _ (wA zeroL) _ _ HA.out.hz)
  have HG6 := hid (grown_setRow HA.out.hg (B := W.heap.size + 1 + 1) (by omega) (wA zeroL))
  have hv := run_loadVar_row (P := Tryd.prog) _ _ _ 44 _ _ _ HE.out Tryd.underlying44 rfl Hs5.out
  refine bodyPost_ret (v := .tuple #[.agg (wA zeroL), .bool false]) (by simp [results, Tryd.results42, asAddr, hv]) rfl ?_
  exact ⟨rfl, HG6.out⟩
end
theorem ralu_any (op a b c imm : Int) {l : List Int} (hl : Regs l) (W : World) :
    Calls Tryd.prog 42 #[.agg #[.int .i64 op, .int .i64 a, .int .i64 b, .int .i64 c, .int .u32 imm], .agg (wA l)] W fun e w' => e = .returned (.tuple #[.agg (wA (aluL op a b c imm l)), .bool (aluB op a b c imm)]) ∧ W.grownBy w' none := by
  cases hi : insB op a b c imm
  · have h1 : aluB op a b c imm = false := by unfold aluB; rw [hi]; rfl
    have h2 : aluL op a b c imm l = zeroL := by unfold aluL; rw [if_neg (by simp [h1])]
    rw [h1, h2]
    exact ralu_no W hi
  · cases hk : reckB op
    · have h1 : aluB op a b c imm = false := by unfold aluB; rw [hi, hk]; rfl
      have h2 : aluL op a b c imm l = zeroL := by unfold aluL; rw [if_neg (by simp [h1])]
      rw [h1, h2]
      have hk' := of_decide_eq_false hk
      have q : ∀ k : Int, ((1 ≤ k ∧ k ≤ 11) ∨ k = 14 ∨ k = 15 ∨ k = 24) → (op == k) = false := fun k h => by
        rw [beq_eq_false_iff_ne]; intro e; exact hk' (by rw [e]; exact h)
      exact ralu_none W hl hi (q 1 (by decide)) (q 2 (by decide)) (q 3 (by decide)) (q 4 (by decide)) (q 5 (by decide)) (q 6 (by decide)) (q 7 (by decide)) (q 8 (by decide)) (q 9 (by decide)) (q 10 (by decide)) (q 11 (by decide)) (q 24 (by decide)) (q 14 (by decide)) (q 15 (by decide))
    · have h1 : aluB op a b c imm = true := by unfold aluB; rw [hi, hk]; rfl
      have h2 : aluL op a b c imm l = l.set a.toNat (reckV op l a b c imm) := by unfold aluL; rw [if_pos h1]
      rw [h1, h2]
      have hk' : (1 ≤ op ∧ op ≤ 11) ∨ op = 14 ∨ op = 15 ∨ op = 24 := of_decide_eq_true hk
      have : op = 1 ∨ op = 2 ∨ op = 3 ∨ op = 4 ∨ op = 5 ∨ op = 6 ∨ op = 7 ∨ op = 8 ∨ op = 9 ∨ op = 10 ∨ op = 11 ∨ op = 24 ∨ op = 14 ∨ op = 15 := by omega
      clear h1 h2 hk hk'
      rcases this with rfl | rfl | rfl | rfl | rfl | rfl | rfl | rfl | rfl | rfl | rfl | rfl | rfl | rfl
      · exact ralu_1 W hl hi
      · exact ralu_2 W hl hi
      · exact ralu_3 W hl hi
      · exact ralu_4 W hl hi
      · exact ralu_5 W hl hi
      · exact ralu_6 W hl hi
      · exact ralu_7 W hl hi
      · exact ralu_8 W hl hi
      · exact ralu_9 W hl hi
      · exact ralu_10 W hl hi
      · exact ralu_11 W hl hi
      · exact ralu_24 W hl hi
      · exact ralu_14 W hl hi
      · exact ralu_15 W hl hi
theorem ralu_of (op a b c imm : Int) {l : List Int} (hl : Regs l) (L : List Int) (b1 : Bool) (hL : aluL op a b c imm l = L) (hB : aluB op a b c imm = b1) (W : World) :
    Calls Tryd.prog 42 #[.agg #[.int .i64 op, .int .i64 a, .int .i64 b, .int .i64 c, .int .u32 imm], .agg (wA l)] W fun e w' => e = .returned (.tuple #[.agg (wA L), .bool b1]) ∧ W.grownBy w' none := by
  subst hL; subst hB
  exact ralu_any op a b c imm hl W
end Go.Proofs.YtaecbekobpgkoaaDoor
