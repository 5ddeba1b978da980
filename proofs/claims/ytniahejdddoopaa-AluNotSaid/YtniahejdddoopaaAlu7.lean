/- The document's own Taken; registers compared; the chapter's example: contracts. -/
import Derived.Test.YtniahejdddoopaaAlu5
import Derived.Test.YtniahejdddoopaaRef2
import Derived.LoopTactic
namespace Go.Proofs.Ytniahejdddoopaa
open Go.RowKit
set_option maxHeartbeats 1000000 in
theorem same_regs {l k : List Int} (hl : Regs l) (hk : Regs k) (r : Bool) (hr : decide (l = k) = r) (W : World) :
    Calls Try.prog 14 #[.agg (wA l), .agg (wA k)] W fun e w' => e = .returned (.bool r) ∧ W.grownBy w' none := by
  have Hl := hid hl
  have Hk := hid hk
  have Hr := hid hr
  clear hl hk hr
  have HA : Hid (RegAt ((W.alloc (.cells (wA l) 24)).alloc (.cells (wA k) 24)) W.heap.size l) := hid ((heap_alloc_old _ _ (by simp)).trans (heap_alloc_last W _))
  have HB : Hid (RegAt ((W.alloc (.cells (wA l) 24)).alloc (.cells (wA k) 24)) (W.heap.size + 1) k) := hid (heap_alloc2_new W _ _)
  go_enter Try.func14, Try.ntmps14
  go_wp2
  go_loopw [5] (fun i wr => ∃ j : Nat, j ≤ 16 ∧ i = .int .i64 j ∧ Hid (l.take j = k.take j) ∧ Hid (((W.alloc (.cells (wA l) 24)).alloc (.cells (wA k) 24)).grownBy wr none)) (fun i _ => 16 - (intOf i).toNat)
  case atStart => exact ⟨0, Nat.zero_le _, rfl, hid (by simp), hid (grown_refl _ _)⟩
  case round =>
    obtain ⟨j, hj, rfl, Hj, Hg⟩ := hrel
    by_cases hlt : j < 16
    · obtain ⟨x, Hx⟩ : ∃ x, Hid (l[j]? = some x) := ⟨_, hid (List.getElem?_eq_getElem (by rw [Hl.out.len]; exact hlt))⟩
      obtain ⟨y, Hy⟩ : ∃ y, Hid (k[j]? = some y) := ⟨_, hid (List.getElem?_eq_getElem (by rw [Hk.out.len]; exact hlt))⟩
      have cx := (HA.out.kept0 Hg.out).cell Hx.out
      have cy := (HB.out.kept0 Hg.out).cell Hy.out
      have hk0 : (0 : Int) ≤ (j : Int) := by omega
      have hk1 : (j : Int) < 16 := by omega
      by_cases hxy : x = y
      · subst hxy
        go_wp2
        go_quiet (fail)
        go_wp2
        go_roundw
        case rel =>
          refine ⟨j + 1, by omega, by go_num, hid ?_, hid (grown_drewN Hg.out _)⟩
          rw [List.take_add_one, List.take_add_one, Hj.out, Hx.out, Hy.out]
        case measure => simp [intOf]; omega
      · have hxy2 : (x == y) = false := by simpa using hxy
        go_wp2
        go_quiet (fail)
        go_wp2
        go_ret
        refine ⟨ret_b ?_, grown_drewN (grown_trans (grown_alloc (grown_alloc (grown_refl _ _) _) _) Hg.out) _⟩
        rw [← Hr.out, eq_comm, decide_eq_false_iff_not]
        intro e
        subst e
        have := Hx.out.symm.trans Hy.out
        exact hxy (Option.some.inj this)
    · have hj16 : j = 16 := by omega
      subst hj16
      go_wp2
      go_ret
      refine ⟨ret_b ?_, grown_trans (grown_alloc (grown_alloc (grown_refl _ _) _) _) Hg.out⟩
      rw [← Hr.out, eq_comm, decide_eq_true_eq]
      have := Hj.out
      rw [List.take_of_length_le (by rw [Hl.out.len]; omega), List.take_of_length_le (by rw [Hk.out.len]; omega)] at this
      exact this
section
variable {op a b c imm : Int} {l : List Int}
set_option maxHeartbeats 1000000 in
theorem rtaken_no (W : World) (hi : insB op a b c imm = false) :
    Calls Try.prog 13 #[.agg #[.int .i64 op, .int .i64 a, .int .i64 b, .int .i64 c, .int .u32 imm], .agg (wA l)] W fun e w' => e = .returned (.tuple #[.bool false, .bool false]) ∧ W.grownBy w' none := by
  have Hi := hid hi
  clear hi
  go_enter Try.func13, Try.ntmps13
  go_wp2_with fail
  refine (rword_any _ _ _ _ _ _).mono ?_
  rintro e w1 ⟨rfl, hb⟩
  have HG := hid (grown_trans (grown_trans (World.grownBy_alloc W _ none) (World.grownBy_alloc _ _ _)) (below_is_grown hb))
  clear hb
  rw [Hi.out]
  go_wp2_with fail
  go_ret2
  exact ⟨rfl, HG.out⟩
set_option maxHeartbeats 1000000 in
theorem rtaken_none (W : World) (hi : insB op a b c imm = true) (hj : jmpB op = false) :
    Calls Try.prog 13 #[.agg #[.int .i64 op, .int .i64 a, .int .i64 b, .int .i64 c, .int .u32 imm], .agg (wA l)] W fun e w' => e = .returned (.tuple #[.bool false, .bool false]) ∧ W.grownBy w' none := by
  have Hi := hid hi
  have Hj := hid hj
  clear hi hj
  go_enter Try.func13, Try.ntmps13
  go_wp2_with fail
  refine (rword_any _ _ _ _ _ _).mono ?_
  rintro e w1 ⟨rfl, hb⟩
  have hg := grown_trans (grown_trans (World.grownBy_alloc W _ none) (World.grownBy_alloc _ _ _)) (below_is_grown hb)
  have k0 : w1.cell? ⟨W.heap.size, 0, none⟩ = some (.int .i64 op) := (grown_cell (below_is_grown hb) (by simp; omega) (by simp)).trans (by simp [go_sem])
  have HG := hid hg
  clear hb hg
  rw [Hi.out]
  go_wp2_with (go_at_call 23; refine (rjumps_any _ _).mono ?_; rw [Hj.out]; rintro e w' ⟨rfl, rfl⟩)
  go_ret2
  exact ⟨rfl, HG.out⟩
set_option maxHeartbeats 1000000 in
theorem rtaken_16 (W : World) (hl : Regs l) (hi : insB 16 a b c imm = true) :
    Calls Try.prog 13 #[.agg #[.int .i64 16, .int .i64 a, .int .i64 b, .int .i64 c, .int .u32 imm], .agg (wA l)] W fun e w' => e = .returned (.tuple #[.bool (true), .bool true]) ∧ W.grownBy w' none := by
  obtain ⟨_, ha, _, _, _⟩ := ins_parts hi
  have Hi := hid hi
  clear hi ha hl
  have Hj : Hid (jmpB 16 = true) := hid (by decide)
  go_enter Try.func13, Try.ntmps13
  go_wp2_with fail
  refine (rword_any _ _ _ _ _ _).mono ?_
  rintro e w1 ⟨rfl, hb⟩
  have k0 : w1.cell? ⟨W.heap.size, 0, none⟩ = some (.int .i64 16) := (grown_cell (below_is_grown hb) (by simp; omega) (by simp)).trans (by simp [go_sem])
  have HG := hid (grown_trans (grown_trans (World.grownBy_alloc W _ none) (World.grownBy_alloc _ _ _)) (below_is_grown hb))
  clear hb
  rw [Hi.out]
  go_wp2_with (go_at_call 23; refine (rjumps_any _ _).mono ?_; rw [Hj.out]; rintro e w' ⟨rfl, rfl⟩)
  go_ret2
  exact ⟨rfl, HG.out⟩
set_option maxHeartbeats 1000000 in
theorem rtaken_17 (W : World) (hl : Regs l) (hi : insB 17 a b c imm = true) :
    Calls Try.prog 13 #[.agg #[.int .i64 17, .int .i64 a, .int .i64 b, .int .i64 c, .int .u32 imm], .agg (wA l)] W fun e w' => e = .returned (.tuple #[.bool (regI l a == 0), .bool true]) ∧ W.grownBy w' none := by
  obtain ⟨_, ha, _, _, _⟩ := ins_parts hi
  obtain ⟨a0, a1⟩ := alw_reg1 (by decide) ha
  have Ga := hid (hl.get a0 a1)
  obtain ⟨X, HX⟩ : ∃ X, Hid (regI l a = X) := ⟨_, hid rfl⟩
  rw [HX.out]
  have Hi := hid hi
  clear hi ha hl
  have Hj : Hid (jmpB 17 = true) := hid (by decide)
  go_enter Try.func13, Try.ntmps13
  go_wp2_with fail
  refine (rword_any _ _ _ _ _ _).mono ?_
  rintro e w1 ⟨rfl, hb⟩
  have k0 : w1.cell? ⟨W.heap.size, 0, none⟩ = some (.int .i64 17) := (grown_cell (below_is_grown hb) (by simp; omega) (by simp)).trans (by simp [go_sem])
  have k1 : w1.cell? ⟨W.heap.size, 1, none⟩ = some (.int .i64 a) := (grown_cell (below_is_grown hb) (by simp; omega) (by simp)).trans (by simp [go_sem])
  have HR : Hid (RegAt w1 (W.heap.size + 1) l) := hid (((below_is_grown hb).block _ (by simp) (by simp)).trans (heap_alloc2_new W _ _))
  have px := HR.out.cell Ga.out
  rw [HX.out] at px
  have HG := hid (grown_trans (grown_trans (World.grownBy_alloc W _ none) (World.grownBy_alloc _ _ _)) (below_is_grown hb))
  clear hb
  rw [Hi.out]
  go_wp2_with (go_at_call 23; refine (rjumps_any _ _).mono ?_; rw [Hj.out]; rintro e w' ⟨rfl, rfl⟩)
  go_ret2
  exact ⟨rfl, HG.out⟩
set_option maxHeartbeats 1000000 in
theorem rtaken_18 (W : World) (hl : Regs l) (hi : insB 18 a b c imm = true) :
    Calls Try.prog 13 #[.agg #[.int .i64 18, .int .i64 a, .int .i64 b, .int .i64 c, .int .u32 imm], .agg (wA l)] W fun e w' => e = .returned (.tuple #[.bool (!(regI l a == 0)), .bool true]) ∧ W.grownBy w' none := by
  obtain ⟨_, ha, _, _, _⟩ := ins_parts hi
  obtain ⟨a0, a1⟩ := alw_reg1 (by decide) ha
  have Ga := hid (hl.get a0 a1)
  obtain ⟨X, HX⟩ : ∃ X, Hid (regI l a = X) := ⟨_, hid rfl⟩
  rw [HX.out]
  have Hi := hid hi
  clear hi ha hl
  have Hj : Hid (jmpB 18 = true) := hid (by decide)
  go_enter Try.func13, Try.ntmps13
  go_wp2_with fail
  refine (rword_any _ _ _ _ _ _).mono ?_
  rintro e w1 ⟨rfl, hb⟩
  have k0 : w1.cell? ⟨W.heap.size, 0, none⟩ = some (.int .i64 18) := (grown_cell (below_is_grown hb) (by simp; omega) (by simp)).trans (by simp [go_sem])
  have k1 : w1.cell? ⟨W.heap.size, 1, none⟩ = some (.int .i64 a) := (grown_cell (below_is_grown hb) (by simp; omega) (by simp)).trans (by simp [go_sem])
  have HR : Hid (RegAt w1 (W.heap.size + 1) l) := hid (((below_is_grown hb).block _ (by simp) (by simp)).trans (heap_alloc2_new W _ _))
  have px := HR.out.cell Ga.out
  rw [HX.out] at px
  have HG := hid (grown_trans (grown_trans (World.grownBy_alloc W _ none) (World.grownBy_alloc _ _ _)) (below_is_grown hb))
  clear hb
  rw [Hi.out]
  go_wp2_with (go_at_call 23; refine (rjumps_any _ _).mono ?_; rw [Hj.out]; rintro e w' ⟨rfl, rfl⟩)
  go_ret2
  exact ⟨rfl, HG.out⟩
set_option maxHeartbeats 1000000 in
theorem rtaken_19 (W : World) (hl : Regs l) (hi : insB 19 a b c imm = true) :
    Calls Try.prog 13 #[.agg #[.int .i64 19, .int .i64 a, .int .i64 b, .int .i64 c, .int .u32 imm], .agg (wA l)] W fun e w' => e = .returned (.tuple #[.bool (true), .bool true]) ∧ W.grownBy w' none := by
  obtain ⟨_, ha, _, _, _⟩ := ins_parts hi
  have Hi := hid hi
  clear hi ha hl
  have Hj : Hid (jmpB 19 = true) := hid (by decide)
  go_enter Try.func13, Try.ntmps13
  go_wp2_with fail
  refine (rword_any _ _ _ _ _ _).mono ?_
  rintro e w1 ⟨rfl, hb⟩
  have k0 : w1.cell? ⟨W.heap.size, 0, none⟩ = some (.int .i64 19) := (grown_cell (below_is_grown hb) (by simp; omega) (by simp)).trans (by simp [go_sem])
  have HG := hid (grown_trans (grown_trans (World.grownBy_alloc W _ none) (World.grownBy_alloc _ _ _)) (below_is_grown hb))
  clear hb
  rw [Hi.out]
  go_wp2_with (go_at_call 23; refine (rjumps_any _ _).mono ?_; rw [Hj.out]; rintro e w' ⟨rfl, rfl⟩)
  go_ret2
  exact ⟨rfl, HG.out⟩
set_option maxHeartbeats 1000000 in
theorem rtaken_20 (W : World) (hl : Regs l) (hi : insB 20 a b c imm = true) :
    Calls Try.prog 13 #[.agg #[.int .i64 20, .int .i64 a, .int .i64 b, .int .i64 c, .int .u32 imm], .agg (wA l)] W fun e w' => e = .returned (.tuple #[.bool (regI l a == 0), .bool true]) ∧ W.grownBy w' none := by
  obtain ⟨_, ha, _, _, _⟩ := ins_parts hi
  obtain ⟨a0, a1⟩ := alw_reg1 (by decide) ha
  have Ga := hid (hl.get a0 a1)
  obtain ⟨X, HX⟩ : ∃ X, Hid (regI l a = X) := ⟨_, hid rfl⟩
  rw [HX.out]
  have Hi := hid hi
  clear hi ha hl
  have Hj : Hid (jmpB 20 = true) := hid (by decide)
  go_enter Try.func13, Try.ntmps13
  go_wp2_with fail
  refine (rword_any _ _ _ _ _ _).mono ?_
  rintro e w1 ⟨rfl, hb⟩
  have k0 : w1.cell? ⟨W.heap.size, 0, none⟩ = some (.int .i64 20) := (grown_cell (below_is_grown hb) (by simp; omega) (by simp)).trans (by simp [go_sem])
  have k1 : w1.cell? ⟨W.heap.size, 1, none⟩ = some (.int .i64 a) := (grown_cell (below_is_grown hb) (by simp; omega) (by simp)).trans (by simp [go_sem])
  have HR : Hid (RegAt w1 (W.heap.size + 1) l) := hid (((below_is_grown hb).block _ (by simp) (by simp)).trans (heap_alloc2_new W _ _))
  have px := HR.out.cell Ga.out
  rw [HX.out] at px
  have HG := hid (grown_trans (grown_trans (World.grownBy_alloc W _ none) (World.grownBy_alloc _ _ _)) (below_is_grown hb))
  clear hb
  rw [Hi.out]
  go_wp2_with (go_at_call 23; refine (rjumps_any _ _).mono ?_; rw [Hj.out]; rintro e w' ⟨rfl, rfl⟩)
  go_ret2
  exact ⟨rfl, HG.out⟩
set_option maxHeartbeats 1000000 in
theorem rtaken_21 (W : World) (hl : Regs l) (hi : insB 21 a b c imm = true) :
    Calls Try.prog 13 #[.agg #[.int .i64 21, .int .i64 a, .int .i64 b, .int .i64 c, .int .u32 imm], .agg (wA l)] W fun e w' => e = .returned (.tuple #[.bool (!(regI l a == 0)), .bool true]) ∧ W.grownBy w' none := by
  obtain ⟨_, ha, _, _, _⟩ := ins_parts hi
  obtain ⟨a0, a1⟩ := alw_reg1 (by decide) ha
  have Ga := hid (hl.get a0 a1)
  obtain ⟨X, HX⟩ : ∃ X, Hid (regI l a = X) := ⟨_, hid rfl⟩
  rw [HX.out]
  have Hi := hid hi
  clear hi ha hl
  have Hj : Hid (jmpB 21 = true) := hid (by decide)
  go_enter Try.func13, Try.ntmps13
  go_wp2_with fail
  refine (rword_any _ _ _ _ _ _).mono ?_
  rintro e w1 ⟨rfl, hb⟩
  have k0 : w1.cell? ⟨W.heap.size, 0, none⟩ = some (.int .i64 21) := (grown_cell (below_is_grown hb) (by simp; omega) (by simp)).trans (by simp [go_sem])
  have k1 : w1.cell? ⟨W.heap.size, 1, none⟩ = some (.int .i64 a) := (grown_cell (below_is_grown hb) (by simp; omega) (by simp)).trans (by simp [go_sem])
  have HR : Hid (RegAt w1 (W.heap.size + 1) l) := hid (((below_is_grown hb).block _ (by simp) (by simp)).trans (heap_alloc2_new W _ _))
  have px := HR.out.cell Ga.out
  rw [HX.out] at px
  have HG := hid (grown_trans (grown_trans (World.grownBy_alloc W _ none) (World.grownBy_alloc _ _ _)) (below_is_grown hb))
  clear hb
  rw [Hi.out]
  go_wp2_with (go_at_call 23; refine (rjumps_any _ _).mono ?_; rw [Hj.out]; rintro e w' ⟨rfl, rfl⟩)
  go_ret2
  exact ⟨rfl, HG.out⟩
set_option maxHeartbeats 1000000 in
theorem rtaken_22 (W : World) (hl : Regs l) (hi : insB 22 a b c imm = true) :
    Calls Try.prog 13 #[.agg #[.int .i64 22, .int .i64 a, .int .i64 b, .int .i64 c, .int .u32 imm], .agg (wA l)] W fun e w' => e = .returned (.tuple #[.bool (true), .bool true]) ∧ W.grownBy w' none := by
  obtain ⟨_, ha, _, _, _⟩ := ins_parts hi
  have Hi := hid hi
  clear hi ha hl
  have Hj : Hid (jmpB 22 = true) := hid (by decide)
  go_enter Try.func13, Try.ntmps13
  go_wp2_with fail
  refine (rword_any _ _ _ _ _ _).mono ?_
  rintro e w1 ⟨rfl, hb⟩
  have k0 : w1.cell? ⟨W.heap.size, 0, none⟩ = some (.int .i64 22) := (grown_cell (below_is_grown hb) (by simp; omega) (by simp)).trans (by simp [go_sem])
  have HG := hid (grown_trans (grown_trans (World.grownBy_alloc W _ none) (World.grownBy_alloc _ _ _)) (below_is_grown hb))
  clear hb
  rw [Hi.out]
  go_wp2_with (go_at_call 23; refine (rjumps_any _ _).mono ?_; rw [Hj.out]; rintro e w' ⟨rfl, rfl⟩)
  go_ret2
  exact ⟨rfl, HG.out⟩
set_option maxHeartbeats 1000000 in
theorem rtaken_23 (W : World) (hl : Regs l) (hi : insB 23 a b c imm = true) :
    Calls Try.prog 13 #[.agg #[.int .i64 23, .int .i64 a, .int .i64 b, .int .i64 c, .int .u32 imm], .agg (wA l)] W fun e w' => e = .returned (.tuple #[.bool (true), .bool true]) ∧ W.grownBy w' none := by
  obtain ⟨_, ha, _, _, _⟩ := ins_parts hi
  have Hi := hid hi
  clear hi ha hl
  have Hj : Hid (jmpB 23 = true) := hid (by decide)
  go_enter Try.func13, Try.ntmps13
  go_wp2_with fail
  refine (rword_any _ _ _ _ _ _).mono ?_
  rintro e w1 ⟨rfl, hb⟩
  have k0 : w1.cell? ⟨W.heap.size, 0, none⟩ = some (.int .i64 23) := (grown_cell (below_is_grown hb) (by simp; omega) (by simp)).trans (by simp [go_sem])
  have HG := hid (grown_trans (grown_trans (World.grownBy_alloc W _ none) (World.grownBy_alloc _ _ _)) (below_is_grown hb))
  clear hb
  rw [Hi.out]
  go_wp2_with (go_at_call 23; refine (rjumps_any _ _).mono ?_; rw [Hj.out]; rintro e w' ⟨rfl, rfl⟩)
  go_ret2
  exact ⟨rfl, HG.out⟩
end
theorem rtaken_any (op a b c imm : Int) {l : List Int} (hl : Regs l) (W : World) :
    Calls Try.prog 13 #[.agg #[.int .i64 op, .int .i64 a, .int .i64 b, .int .i64 c, .int .u32 imm], .agg (wA l)] W fun e w' => e = .returned (.tuple #[.bool (takenB op a b c imm l), .bool (askB op a b c imm)]) ∧ W.grownBy w' none := by
  cases hi : insB op a b c imm
  · have h1 : askB op a b c imm = false := by unfold askB; rw [hi]; rfl
    have h2 : takenB op a b c imm l = false := by unfold takenB; rw [h1]; rfl
    rw [h1, h2]
    exact rtaken_no W hi
  · cases hj : jmpB op
    · have h1 : askB op a b c imm = false := by unfold askB; rw [hi, hj]; rfl
      have h2 : takenB op a b c imm l = false := by unfold takenB; rw [h1]; rfl
      rw [h1, h2]
      exact rtaken_none W hi hj
    · have h1 : askB op a b c imm = true := by unfold askB; rw [hi, hj]; rfl
      have h2 : takenB op a b c imm l = goesB op l a := by unfold takenB; rw [h1]; rfl
      rw [h1, h2]
      unfold jmpB at hj
      have hk := of_decide_eq_true hj
      clear h1 h2 hj
      rcases hk with rfl | rfl | rfl | rfl | rfl | rfl | rfl | rfl
      · exact rtaken_16 W hl hi
      · exact rtaken_17 W hl hi
      · exact rtaken_18 W hl hi
      · exact rtaken_19 W hl hi
      · exact rtaken_20 W hl hi
      · exact rtaken_21 W hl hi
      · exact rtaken_22 W hl hi
      · exact rtaken_23 W hl hi
theorem rtaken_of (op a b c imm : Int) {l : List Int} (hl : Regs l) (b1 b2 : Bool) (h1 : takenB op a b c imm l = b1) (h2 : askB op a b c imm = b2) (W : World) :
    Calls Try.prog 13 #[.agg #[.int .i64 op, .int .i64 a, .int .i64 b, .int .i64 c, .int .u32 imm], .agg (wA l)] W fun e w' => e = .returned (.tuple #[.bool b1, .bool b2]) ∧ W.grownBy w' none := by
  subst h1; subst h2
  exact rtaken_any op a b c imm hl W
end Go.Proofs.Ytniahejdddoopaa
