/- The document's own Taken: contracts. -/
import Derived.Test.YtaecbekobpgkoaaDoorZAlu5
import Derived.Test.YtaecbekobpgkoaaDoorZGRef
import Derived.LoopTactic
import Derived.Test.YtaecbekobpgkoaaDoorZGAluA
namespace Go.Proofs.YtaecbekobpgkoaaDoor
open Go.RowKit
section
variable {op a b c imm : Int} {l : List Int}
set_option maxHeartbeats 1000000 in
theorem rtaken_no (W : World) (hi : insB op a b c imm = false) :
    Calls Tryd.prog 41 #[.agg #[.int .i64 op, .int .i64 a, .int .i64 b, .int .i64 c, .int .u32 imm], .agg (wA l)] W fun e w' => e = .returned (.tuple #[.bool false, .bool false]) ∧ W.grownBy w' none := by
  have Hi := hid hi
  clear hi
  go_enter Tryd.func41, Tryd.ntmps41
  go_wp2_with fail
  refine (rword_any _ _ _ _ _ _).mono ?_
  rintro e w1 ⟨rfl, hb⟩
  have HG := hid (grown_trans (grown_trans (World.grownBy_alloc W _ none) (World.grownBy_alloc _ _ _)) (below_is_grown hb))
  clear hb
  rw [Hi.out]
  go_wp2_with fail
  go_ret2
  exact ⟨rfl, HG.out⟩
set_option maxHeartbeats 1000000 in
theorem rtaken_none (W : World) (hi : insB op a b c imm = true) (hj : jmpB op = false) :
    Calls Tryd.prog 41 #[.agg #[.int .i64 op, .int .i64 a, .int .i64 b, .int .i64 c, .int .u32 imm], .agg (wA l)] W fun e w' => e = .returned (.tuple #[.bool false, .bool false]) ∧ W.grownBy w' none := by
  have Hi := hid hi
  have Hj := hid hj
  clear hi hj
  go_enter Tryd.func41, Tryd.ntmps41
  go_wp2_with fail
  refine (rword_any _ _ _ _ _ _).mono ?_
  rintro e w1 ⟨rfl, hb⟩
  have hg := grown_trans (grown_trans (World.grownBy_alloc W _ none) (World.grownBy_alloc _ _ _)) (below_is_grown hb)
  have k0 : w1.cell? ⟨W.heap.size, 0, none⟩ = some (.int .i64 op) := (grown_cell (below_is_grown hb) (by simp; omega) (by simp)).trans (by simp [go_sem])
  have HG := hid hg
  clear hb hg
  rw [Hi.out]
  go_wp2_with (go_at_call 58; refine (rjumps_any _ _).mono ?_; rw [Hj.out]; rintro e w' ⟨rfl, rfl⟩)
  go_ret2
  exact ⟨rfl, HG.out⟩
set_option maxHeartbeats 1000000 in
theorem rtaken_16 (W : World) (_hl : Regs l) (hi : insB 16 a b c imm = true) :
    Calls Tryd.prog 41 #[.agg #[.int .i64 16, .int .i64 a, .int .i64 b, .int .i64 c, .int .u32 imm], .agg (wA l)] W fun e w' => e = .returned (.tuple #[.bool (true), .bool true]) ∧ W.grownBy w' none := by
  obtain ⟨_, ha, _, _, _⟩ := ins_parts hi
  have Hi := hid hi
  clear hi ha _hl
  have Hj : Hid (jmpB 16 = true) := hid (by decide)
  go_enter Tryd.func41, Tryd.ntmps41
  go_wp2_with fail
  refine (rword_any _ _ _ _ _ _).mono ?_
  rintro e w1 ⟨rfl, hb⟩
  have k0 : w1.cell? ⟨W.heap.size, 0, none⟩ = some (.int .i64 16) := (grown_cell (below_is_grown hb) (by simp; omega) (by simp)).trans (by simp [go_sem])
  have HG := hid (grown_trans (grown_trans (World.grownBy_alloc W _ none) (World.grownBy_alloc _ _ _)) (below_is_grown hb))
  clear hb
  rw [Hi.out]
  go_wp2_with (go_at_call 58; refine (rjumps_any _ _).mono ?_; rw [Hj.out]; rintro e w' ⟨rfl, rfl⟩)
  go_ret2
  exact ⟨rfl, HG.out⟩
set_option maxHeartbeats 1000000 in
theorem rtaken_17 (W : World) (hl : Regs l) (hi : insB 17 a b c imm = true) :
    Calls Tryd.prog 41 #[.agg #[.int .i64 17, .int .i64 a, .int .i64 b, .int .i64 c, .int .u32 imm], .agg (wA l)] W fun e w' => e = .returned (.tuple #[.bool (regI l a == 0), .bool true]) ∧ W.grownBy w' none := by
  obtain ⟨_, ha, _, _, _⟩ := ins_parts hi
  obtain ⟨a0, a1⟩ := alw_reg1 (by decide) ha
  have Ga := hid (hl.get a0 a1)
  obtain ⟨X, HX⟩ : ∃ X, Hid (regI l a = X) := ⟨_, hid rfl⟩
  rw [HX.out]
  have Hi := hid hi
  clear hi ha hl
  have Hj : Hid (jmpB 17 = true) := hid (by decide)
  go_enter Tryd.func41, Tryd.ntmps41
  go_wp2_with fail
  refine (rword_any _ _ _ _ _ _).mono ?_
  rintro e w1 ⟨rfl, hb⟩
  have k0 : w1.cell? ⟨W.heap.size, 0, none⟩ = some (.int .i64 17) := (grown_cell (below_is_grown hb) (by simp; omega) (by simp)).trans (by simp [go_sem])
  have k1 : w1.cell? ⟨W.heap.size, 1, none⟩ = some (.int .i64 a) := (grown_cell (below_is_grown hb) (by simp; omega) (by simp)).trans (by simp [go_sem])
  have HR : Hid (RegAt w1 (W.heap.size + 1) l) := hid (((below_is_grown hb).block _ (by simp) (by simp)).trans (heap_alloc2_new W _ _))
  have px := HR.out.cell Ga.out
  rw [HX.out] at px
  have HG := hid (grown_trans (grown_trans (World.grownBy_alloc W _ none) (World.grownBy_alloc _ _ _)) (below_is_grown hb))
  clear hb
  rw [Hi.out]
  go_wp2_with (go_at_call 58; refine (rjumps_any _ _).mono ?_; rw [Hj.out]; rintro e w' ⟨rfl, rfl⟩)
  go_ret2
  exact ⟨rfl, HG.out⟩
set_option maxHeartbeats 1000000 in
theorem rtaken_18 (W : World) (hl : Regs l) (hi : insB 18 a b c imm = true) :
    Calls Tryd.prog 41 #[.agg #[.int .i64 18, .int .i64 a, .int .i64 b, .int .i64 c, .int .u32 imm], .agg (wA l)] W fun e w' => e = .returned (.tuple #[.bool (!(regI l a == 0)), .bool true]) ∧ W.grownBy w' none := by
  obtain ⟨_, ha, _, _, _⟩ := ins_parts hi
  obtain ⟨a0, a1⟩ := alw_reg1 (by decide) ha
  have Ga := hid (hl.get a0 a1)
  obtain ⟨X, HX⟩ : ∃ X, Hid (regI l a = X) := ⟨_, hid rfl⟩
  rw [HX.out]
  have Hi := hid hi
  clear hi ha hl
  have Hj : Hid (jmpB 18 = true) := hid (by decide)
  go_enter Tryd.func41, Tryd.ntmps41
  go_wp2_with fail
  refine (rword_any _ _ _ _ _ _).mono ?_
  rintro e w1 ⟨rfl, hb⟩
  have k0 : w1.cell? ⟨W.heap.size, 0, none⟩ = some (.int .i64 18) := (grown_cell (below_is_grown hb) (by simp; omega) (by simp)).trans (by simp [go_sem])
  have k1 : w1.cell? ⟨W.heap.size, 1, none⟩ = some (.int .i64 a) := (grown_cell (below_is_grown hb) (by simp; omega) (by simp)).trans (by simp [go_sem])
  have HR : Hid (RegAt w1 (W.heap.size + 1) l) := hid (((below_is_grown hb).block _ (by simp) (by simp)).trans (heap_alloc2_new W _ _))
  have px := HR.out.cell Ga.out
  rw [HX.out] at px
  have HG := hid (grown_trans (grown_trans (World.grownBy_alloc W _ none) (World.grownBy_alloc _ _ _)) (below_is_grown hb))
  clear hb
  rw [Hi.out]
  go_wp2_with (go_at_call 58; refine (rjumps_any _ _).mono ?_; rw [Hj.out]; rintro e w' ⟨rfl, rfl⟩)
  go_ret2
  exact ⟨rfl, HG.out⟩
set_option maxHeartbeats 1000000 in
theorem rtaken_19 (W : World) (_hl : Regs l) (hi : insB 19 a b c imm = true) :
    Calls Tryd.prog 41 #[.agg #[.int .i64 19, .int .i64 a, .int .i64 b, .int .i64 c, .int .u32 imm], .agg (wA l)] W fun e w' => e = .returned (.tuple #[.bool (true), .bool true]) ∧ W.grownBy w' none := by
  obtain ⟨_, ha, _, _, _⟩ := ins_parts hi
  have Hi := hid hi
  clear hi ha _hl
  have Hj : Hid (jmpB 19 = true) := hid (by decide)
  go_enter Tryd.func41, Tryd.ntmps41
  go_wp2_with fail
  refine (rword_any _ _ _ _ _ _).mono ?_
  rintro e w1 ⟨rfl, hb⟩
  have k0 : w1.cell? ⟨W.heap.size, 0, none⟩ = some (.int .i64 19) := (grown_cell (below_is_grown hb) (by simp; omega) (by simp)).trans (by simp [go_sem])
  have HG := hid (grown_trans (grown_trans (World.grownBy_alloc W _ none) (World.grownBy_alloc _ _ _)) (below_is_grown hb))
  clear hb
  rw [Hi.out]
  go_wp2_with (go_at_call 58; refine (rjumps_any _ _).mono ?_; rw [Hj.out]; rintro e w' ⟨rfl, rfl⟩)
  go_ret2
  exact ⟨rfl, HG.out⟩
set_option maxHeartbeats 1000000 in
theorem rtaken_20 (W : World) (hl : Regs l) (hi : insB 20 a b c imm = true) :
    Calls Tryd.prog 41 #[.agg #[.int .i64 20, .int .i64 a, .int .i64 b, .int .i64 c, .int .u32 imm], .agg (wA l)] W fun e w' => e = .returned (.tuple #[.bool (regI l a == 0), .bool true]) ∧ W.grownBy w' none := by
  obtain ⟨_, ha, _, _, _⟩ := ins_parts hi
  obtain ⟨a0, a1⟩ := alw_reg1 (by decide) ha
  have Ga := hid (hl.get a0 a1)
  obtain ⟨X, HX⟩ : ∃ X, Hid (regI l a = X) := ⟨_, hid rfl⟩
  rw [HX.out]
  have Hi := hid hi
  clear hi ha hl
  have Hj : Hid (jmpB 20 = true) := hid (by decide)
  go_enter Tryd.func41, Tryd.ntmps41
  go_wp2_with fail
  refine (rword_any _ _ _ _ _ _).mono ?_
  rintro e w1 ⟨rfl, hb⟩
  have k0 : w1.cell? ⟨W.heap.size, 0, none⟩ = some (.int .i64 20) := (grown_cell (below_is_grown hb) (by simp; omega) (by simp)).trans (by simp [go_sem])
  have k1 : w1.cell? ⟨W.heap.size, 1, none⟩ = some (.int .i64 a) := (grown_cell (below_is_grown hb) (by simp; omega) (by simp)).trans (by simp [go_sem])
  have HR : Hid (RegAt w1 (W.heap.size + 1) l) := hid (((below_is_grown hb).block _ (by simp) (by simp)).trans (heap_alloc2_new W _ _))
  have px := HR.out.cell Ga.out
  rw [HX.out] at px
  have HG := hid (grown_trans (grown_trans (World.grownBy_alloc W _ none) (World.grownBy_alloc _ _ _)) (below_is_grown hb))
  clear hb
  rw [Hi.out]
  go_wp2_with (go_at_call 58; refine (rjumps_any _ _).mono ?_; rw [Hj.out]; rintro e w' ⟨rfl, rfl⟩)
  go_ret2
  exact ⟨rfl, HG.out⟩
set_option maxHeartbeats 1000000 in
theorem rtaken_21 (W : World) (hl : Regs l) (hi : insB 21 a b c imm = true) :
    Calls Tryd.prog 41 #[.agg #[.int .i64 21, .int .i64 a, .int .i64 b, .int .i64 c, .int .u32 imm], .agg (wA l)] W fun e w' => e = .returned (.tuple #[.bool (!(regI l a == 0)), .bool true]) ∧ W.grownBy w' none := by
  obtain ⟨_, ha, _, _, _⟩ := ins_parts hi
  obtain ⟨a0, a1⟩ := alw_reg1 (by decide) ha
  have Ga := hid (hl.get a0 a1)
  obtain ⟨X, HX⟩ : ∃ X, Hid (regI l a = X) := ⟨_, hid rfl⟩
  rw [HX.out]
  have Hi := hid hi
  clear hi ha hl
  have Hj : Hid (jmpB 21 = true) := hid (by decide)
  go_enter Tryd.func41, Tryd.ntmps41
  go_wp2_with fail
  refine (rword_any _ _ _ _ _ _).mono ?_
  rintro e w1 ⟨rfl, hb⟩
  have k0 : w1.cell? ⟨W.heap.size, 0, none⟩ = some (.int .i64 21) := (grown_cell (below_is_grown hb) (by simp; omega) (by simp)).trans (by simp [go_sem])
  have k1 : w1.cell? ⟨W.heap.size, 1, none⟩ = some (.int .i64 a) := (grown_cell (below_is_grown hb) (by simp; omega) (by simp)).trans (by simp [go_sem])
  have HR : Hid (RegAt w1 (W.heap.size + 1) l) := hid (((below_is_grown hb).block _ (by simp) (by simp)).trans (heap_alloc2_new W _ _))
  have px := HR.out.cell Ga.out
  rw [HX.out] at px
  have HG := hid (grown_trans (grown_trans (World.grownBy_alloc W _ none) (World.grownBy_alloc _ _ _)) (below_is_grown hb))
  clear hb
  rw [Hi.out]
  go_wp2_with (go_at_call 58; refine (rjumps_any _ _).mono ?_; rw [Hj.out]; rintro e w' ⟨rfl, rfl⟩)
  go_ret2
  exact ⟨rfl, HG.out⟩
set_option maxHeartbeats 1000000 in
theorem rtaken_22 (W : World) (_hl : Regs l) (hi : insB 22 a b c imm = true) :
    Calls Tryd.prog 41 #[.agg #[.int .i64 22, .int .i64 a, .int .i64 b, .int .i64 c, .int .u32 imm], .agg (wA l)] W fun e w' => e = .returned (.tuple #[.bool (true), .bool true]) ∧ W.grownBy w' none := by
  obtain ⟨_, ha, _, _, _⟩ := ins_parts hi
  have Hi := hid hi
  clear hi ha _hl
  have Hj : Hid (jmpB 22 = true) := hid (by decide)
  go_enter Tryd.func41, Tryd.ntmps41
  go_wp2_with fail
  refine (rword_any _ _ _ _ _ _).mono ?_
  rintro e w1 ⟨rfl, hb⟩
  have k0 : w1.cell? ⟨W.heap.size, 0, none⟩ = some (.int .i64 22) := (grown_cell (below_is_grown hb) (by simp; omega) (by simp)).trans (by simp [go_sem])
  have HG := hid (grown_trans (grown_trans (World.grownBy_alloc W _ none) (World.grownBy_alloc _ _ _)) (below_is_grown hb))
  clear hb
  rw [Hi.out]
  go_wp2_with (go_at_call 58; refine (rjumps_any _ _).mono ?_; rw [Hj.out]; rintro e w' ⟨rfl, rfl⟩)
  go_ret2
  exact ⟨rfl, HG.out⟩
set_option maxHeartbeats 1000000 in
theorem rtaken_23 (W : World) (_hl : Regs l) (hi : insB 23 a b c imm = true) :
    Calls Tryd.prog 41 #[.agg #[.int .i64 23, .int .i64 a, .int .i64 b, .int .i64 c, .int .u32 imm], .agg (wA l)] W fun e w' => e = .returned (.tuple #[.bool (true), .bool true]) ∧ W.grownBy w' none := by
  obtain ⟨_, ha, _, _, _⟩ := ins_parts hi
  have Hi := hid hi
  clear hi ha _hl
  have Hj : Hid (jmpB 23 = true) := hid (by decide)
  go_enter Tryd.func41, Tryd.ntmps41
  go_wp2_with fail
  refine (rword_any _ _ _ _ _ _).mono ?_
  rintro e w1 ⟨rfl, hb⟩
  have k0 : w1.cell? ⟨W.heap.size, 0, none⟩ = some (.int .i64 23) := (grown_cell (below_is_grown hb) (by simp; omega) (by simp)).trans (by simp [go_sem])
  have HG := hid (grown_trans (grown_trans (World.grownBy_alloc W _ none) (World.grownBy_alloc _ _ _)) (below_is_grown hb))
  clear hb
  rw [Hi.out]
  go_wp2_with (go_at_call 58; refine (rjumps_any _ _).mono ?_; rw [Hj.out]; rintro e w' ⟨rfl, rfl⟩)
  go_ret2
  exact ⟨rfl, HG.out⟩
end
theorem rtaken_any (op a b c imm : Int) {l : List Int} (hl : Regs l) (W : World) :
    Calls Tryd.prog 41 #[.agg #[.int .i64 op, .int .i64 a, .int .i64 b, .int .i64 c, .int .u32 imm], .agg (wA l)] W fun e w' => e = .returned (.tuple #[.bool (takenB op a b c imm l), .bool (askB op a b c imm)]) ∧ W.grownBy w' none := by
  cases hi : insB op a b c imm
  · have h1 : askB op a b c imm = false := by unfold askB; rw [hi]; rfl
    have h2 : takenB op a b c imm l = false := by unfold takenB; rw [h1]; rfl
    rw [h1, h2]
    exact rtaken_no W hi
  · cases hj : jmpB op
    · have h1 : askB op a b c imm = false := by unfold askB; rw [hi, hj]; rfl
      have h2 : takenB op a b c imm l = false := by unfold takenB; rw [h1]; rfl
      rw [h1, h2]
      exact rtaken_none W hi hj
    · have h1 : askB op a b c imm = true := by unfold askB; rw [hi, hj]; rfl
      have h2 : takenB op a b c imm l = goesB op l a := by unfold takenB; rw [h1]; rfl
      rw [h1, h2]
      unfold jmpB at hj
      have hk := of_decide_eq_true hj
      clear h1 h2 hj
      rcases hk with rfl | rfl | rfl | rfl | rfl | rfl | rfl | rfl
      · exact rtaken_16 W hl hi
      · exact rtaken_17 W hl hi
      · exact rtaken_18 W hl hi
      · exact rtaken_19 W hl hi
      · exact rtaken_20 W hl hi
      · exact rtaken_21 W hl hi
      · exact rtaken_22 W hl hi
      · exact rtaken_23 W hl hi
theorem rtaken_of (op a b c imm : Int) {l : List Int} (hl : Regs l) (b1 b2 : Bool) (h1 : takenB op a b c imm l = b1) (h2 : askB op a b c imm = b2) (W : World) :
    Calls Tryd.prog 41 #[.agg #[.int .i64 op, .int .i64 a, .int .i64 b, .int .i64 c, .int .u32 imm], .agg (wA l)] W fun e w' => e = .returned (.tuple #[.bool b1, .bool b2]) ∧ W.grownBy w' none := by
  subst h1; subst h2
  exact rtaken_any op a b c imm hl W
end Go.Proofs.YtaecbekobpgkoaaDoor
