/- The walk of the law AluOne. -/
import Derived.Test.YtniahejdddoopaaAOne1
import Derived.Test.YtniahejdddoopaaALow
import Derived.Test.YtniahejdddoopaaABits
import Derived.Deep.RegionHeld3
namespace Go.Proofs.Ytniahejdddoopaa
open Go.RowKit
theorem oneI_le (t : Bool) : 0 ≤ oneI t ∧ oneI t ≤ 1 := by cases t <;> decide
theorem oneI_is (t : Bool) : (oneI t == 1) = t := by cases t <;> rfl
theorem sub_zero {X Y : Int} (x0 : 0 ≤ X) (x1 : X < 4294967296) (y0 : 0 ≤ Y) (y1 : Y < 4294967296) : ((X - Y) % 4294967296 == 0) = (X == Y) := by
  rw [Bool.eq_iff_iff]; simp only [beq_iff_eq]; omega
theorem lt_eq {X Y : Int} : oneI (X == Y) + oneI (decide (X < Y)) ≤ 1 := by
  unfold oneI
  by_cases h : X = Y
  · subst h; simp
  · rw [if_neg (by simpa using h)]; split <;> omega
theorem wrapw (e : Int) : IntKind.u32.wrap e = e % 4294967296 := rfl
theorem y_move {P : Program} {o : Oper} {a : Act} (x : Operand) (ho : o.op = .move x) {v : Value} (hx : a.eval x = v) (w : World) : (execOp a.eval o).run P w = .ok (.value v) w := by
  unfold execOp; simp only [ho, hx]; rfl
theorem y_assign {P : Program} {o : Oper} {a : Act} (x : Operand) (ho : o.op = .assign x) {v : Value} (hx : a.eval x = v) (w : World) : (execOp a.eval o).run P w = .ok (.value v) w := by
  unfold execOp; simp only [ho, hx]; rfl
theorem y_pick {P : Program} {o : Oper} {a : Act} (c x y : Operand) (ho : o.op = .pick c x y) (hc : a.eval c = .bool true) {v : Value} (hx : a.eval x = v) (w : World) : (execOp a.eval o).run P w = .ok (.value v) w := by
  unfold execOp; simp only [ho, hx, hc]; rfl
theorem boxes_at {W w1 : World} {a' b' c' : Int} {l : List Int} (hg : ((((W.alloc (.cells (wA l) 24)).alloc (.cells #[.int .i64 a'] 3)).alloc (.cells #[.int .i64 b'] 3)).alloc (.cells #[.int .i64 c'] 3)).grownBy w1 none) :
    RegAt w1 W.heap.size l ∧ w1.heap[W.heap.size + 1]? = some (.cells #[.int .i64 a'] 3 (0, 0)) ∧ w1.heap[W.heap.size + 1 + 1]? = some (.cells #[.int .i64 b'] 3 (0, 0)) ∧ w1.heap[W.heap.size + 1 + 1 + 1]? = some (.cells #[.int .i64 c'] 3 (0, 0)) ∧ W.grownBy w1 none := by
  have h1 : (W.alloc (.cells (wA l) 24)).heap.size = W.heap.size + 1 := World.size_alloc _ _
  have h2 : ((W.alloc (.cells (wA l) 24)).alloc (.cells #[.int .i64 a'] 3)).heap.size = W.heap.size + 1 + 1 := by rw [World.size_alloc, h1]
  have h3 : (((W.alloc (.cells (wA l) 24)).alloc (.cells #[.int .i64 a'] 3)).alloc (.cells #[.int .i64 b'] 3)).heap.size = W.heap.size + 1 + 1 + 1 := by rw [World.size_alloc, h2]
  have r0 := heap_alloc_last W (.cells (wA l) 24)
  have r1 := heap_alloc_last (W.alloc (.cells (wA l) 24)) (.cells #[.int .i64 a'] 3)
  have r2 := heap_alloc_last ((W.alloc (.cells (wA l) 24)).alloc (.cells #[.int .i64 a'] 3)) (.cells #[.int .i64 b'] 3)
  have r3 := heap_alloc_last (((W.alloc (.cells (wA l) 24)).alloc (.cells #[.int .i64 a'] 3)).alloc (.cells #[.int .i64 b'] 3)) (.cells #[.int .i64 c'] 3)
  rw [h1] at r1
  rw [h2] at r2
  rw [h3] at r3
  refine ⟨?_, ?_, ?_, ?_, ?_⟩
  · exact (hg.block _ (by simp; try omega) (by simp)).trans ((heap_alloc_old _ _ (by simp; try omega)).trans ((heap_alloc_old _ _ (by simp; try omega)).trans ((heap_alloc_old _ _ (by simp)).trans r0)))
  · exact (hg.block _ (by simp; try omega) (by simp)).trans ((heap_alloc_old _ _ (by simp; try omega)).trans ((heap_alloc_old _ _ (by simp)).trans r1))
  · exact (hg.block _ (by simp) (by simp)).trans ((heap_alloc_old _ _ (by simp)).trans r2)
  · exact (hg.block _ (by simp) (by simp)).trans r3
  · exact grown_trans (grown_alloc (grown_alloc (grown_alloc (World.grownBy_alloc W _ none) _) _) _) hg
theorem stores_at {W w1 : World} {a' b' c' a b c : Int} {l : List Int} (hr : RegAt w1 W.heap.size l) (r1 : w1.heap[W.heap.size + 1]? = some (.cells #[.int .i64 a'] 3 (0, 0))) (r2 : w1.heap[W.heap.size + 1 + 1]? = some (.cells #[.int .i64 b'] 3 (0, 0))) (r3 : w1.heap[W.heap.size + 1 + 1 + 1]? = some (.cells #[.int .i64 c'] 3 (0, 0))) (hg : W.grownBy w1 none) :
    OAt (((w1.setCell ⟨W.heap.size + 1, 0, none⟩ (.int .i64 a)).setCell ⟨W.heap.size + 1 + 1, 0, none⟩ (.int .i64 b)).setCell ⟨W.heap.size + 1 + 1 + 1, 0, none⟩ (.int .i64 c)) W.heap.size a b c l ∧
    W.grownBy (((w1.setCell ⟨W.heap.size + 1, 0, none⟩ (.int .i64 a)).setCell ⟨W.heap.size + 1 + 1, 0, none⟩ (.int .i64 b)).setCell ⟨W.heap.size + 1 + 1 + 1, 0, none⟩ (.int .i64 c)) none := by
  have a1 := heap_setCell_same w1 _ 0 _ _ (.int .i64 a) r1
  have o {u : World} {x y : Nat} {v : Value} (h : x ≠ y) : (u.setCell ⟨x, 0, none⟩ v).heap[y]? = u.heap[y]? := heap_setCell_other _ _ _ _ (by first | exact h | exact Ne.symm h)
  have a2 := heap_setCell_same (w1.setCell ⟨W.heap.size + 1, 0, none⟩ (.int .i64 a)) _ 0 _ _ (.int .i64 b) ((o (by omega)).trans r2)
  have a3 := heap_setCell_same ((w1.setCell ⟨W.heap.size + 1, 0, none⟩ (.int .i64 a)).setCell ⟨W.heap.size + 1 + 1, 0, none⟩ (.int .i64 b)) _ 0 _ _ (.int .i64 c) ((o (by omega)).trans ((o (by omega)).trans r3))
  refine ⟨⟨?_, ?_, ?_, ?_, ?_⟩, ?_⟩
  · exact (o (by omega)).trans ((o (by omega)).trans ((o (by omega)).trans hr))
  · rw [cell_of_row _ _ _ _ _ _ ((o (by omega)).trans ((o (by omega)).trans a1))]; rfl
  · rw [cell_of_row _ _ _ _ _ _ ((o (by omega)).trans a2)]; rfl
  · rw [cell_of_row _ _ _ _ _ _ a3]; rfl
  · exact (Array.getElem?_eq_some_iff.1 a3).1
  · exact grown_new (grown_setCell (grown_none (grown_new (grown_setCell (grown_none (grown_new (grown_setCell (grown_none hg) 0 _) (by omega))) 0 _) (by omega))) 0 _) (by omega)
set_option maxRecDepth 100000 in
set_option maxHeartbeats 16000000 in
theorem aone_walk (l : List Int) (a' b' c' : Int) (W : World) (hl : Regs l) (_ : -9223372036854775808 ≤ a') (_ : a' ≤ 9223372036854775807) (_ : -9223372036854775808 ≤ b') (_ : b' ≤ 9223372036854775807) (_ : -9223372036854775808 ≤ c') (_ : c' ≤ 9223372036854775807) :
    Calls Try.prog 5 #[.agg (wA l), .int .i64 a', .int .i64 b', .int .i64 c'] W fun e w' => e = .returned (.bool true) ∧ Below W.heap.size W w' := by
  have Ea := i64_low a'
  have Eb := i64_low b'
  have Ec := i64_low c'
  obtain ⟨a, ha, a0, a1⟩ : ∃ a, a' % 16 = a ∧ 0 ≤ a ∧ a < 16 := ⟨_, rfl, by omega, by omega⟩
  obtain ⟨b, hb, b0, b1⟩ : ∃ b, b' % 16 = b ∧ 0 ≤ b ∧ b < 16 := ⟨_, rfl, by omega, by omega⟩
  obtain ⟨c, hc, c0, c1⟩ : ∃ c, c' % 16 = c ∧ 0 ≤ c ∧ c < 16 := ⟨_, rfl, by omega, by omega⟩
  rw [ha] at Ea
  rw [hb] at Eb
  rw [hc] at Ec
  clear ha hb hc
  have xb := hl.reg b
  have yb := hl.reg c
  have gx := hl.get b0 b1
  have gy := hl.get c0 c1
  obtain ⟨X, hX⟩ : ∃ X, regI l b = X := ⟨_, rfl⟩
  obtain ⟨Y, hY⟩ : ∃ Y, regI l c = Y := ⟨_, rfl⟩
  rw [hX] at xb gx
  rw [hY] at yb gy
  obtain ⟨x0, x1⟩ := xb
  obtain ⟨y0, y1⟩ := yb
  obtain ⟨N, hN, n0, n1⟩ : ∃ N, Y % 32 = N ∧ 0 ≤ N ∧ N < 32 := ⟨_, rfl, by omega, by omega⟩
  obtain ⟨f1, f2⟩ := word_sums x0 x1 y0 y1
  obtain ⟨f3, f4⟩ := word_backs x0 x1 n0 n1
  have fz := sub_zero x0 x1 y0 y1
  have E31 := and_31 Y y0 y1
  rw [hN] at E31
  obtain ⟨S, hS, S0⟩ : ∃ S, reckV 4 l a b c 0 = S ∧ (X - Y) % 4294967296 = S := ⟨_, rfl, by rw [← hX, ← hY]; rfl⟩
  obtain ⟨Q, hQ, Q0⟩ : ∃ S, reckV 11 l a b c 0 = S ∧ oneI (X == Y) = S := ⟨_, rfl, by rw [← hX, ← hY]; rfl⟩
  obtain ⟨T, hT, T0⟩ : ∃ S, reckV 10 l a b c 0 = S ∧ oneI (decide (X < Y)) = S := ⟨_, rfl, by rw [← hX, ← hY]; rfl⟩
  obtain ⟨U, hU, U0⟩ : ∃ S, reckV 3 l a b c 0 = S ∧ (X + Y) % 4294967296 = S := ⟨_, rfl, by rw [← hX, ← hY]; rfl⟩
  obtain ⟨P, hP, P0⟩ : ∃ S, reckV 5 l a b c 0 = S ∧ bits BinOp.and IntKind.u32 X Y = S := ⟨_, rfl, by rw [← hX, ← hY]; rfl⟩
  obtain ⟨O, hO, O0⟩ : ∃ S, reckV 6 l a b c 0 = S ∧ bits BinOp.or IntKind.u32 X Y = S := ⟨_, rfl, by rw [← hX, ← hY]; rfl⟩
  obtain ⟨K, hK, K0⟩ : ∃ S, reckV 7 l a b c 0 = S ∧ bits BinOp.xor IntKind.u32 X Y = S := ⟨_, rfl, by rw [← hX, ← hY]; rfl⟩
  obtain ⟨A8, h8, q8⟩ : ∃ S, reckV 8 l a b c 0 = S ∧ X * 2 ^ N.toNat % 4294967296 = S := ⟨_, rfl, by rw [← hX, ← hN, ← hY]; rfl⟩
  obtain ⟨A9, h9, q9⟩ : ∃ S, reckV 9 l a b c 0 = S ∧ X / 2 ^ N.toNat = S := ⟨_, rfl, by rw [← hX, ← hN, ← hY]; rfl⟩
  obtain ⟨M, hM, M0⟩ : ∃ S, reckV 24 l a b c 0 = S ∧ X * Y % 4294967296 = S := ⟨_, rfl, by rw [← hX, ← hY]; rfl⟩
  have HS := hid hS
  have HQ := hid hQ
  have HT := hid hT
  have HU := hid hU
  have HP := hid hP
  have HO := hid hO
  have HK := hid hK
  have H8 := hid h8
  have H9 := hid h9
  have HM := hid hM
  rw [O0, P0, U0] at f1
  rw [O0, P0, K0] at f2
  rw [q8] at f3
  rw [q9] at f4
  rw [S0] at fz
  have qb := oneI_le (X == Y)
  have tb := oneI_le (decide (X < Y))
  have qt := lt_eq (X := X) (Y := Y)
  have qi := oneI_is (X == Y)
  have ti := oneI_is (decide (X < Y))
  rw [Q0] at qb qt qi
  rw [T0] at tb qt ti
  obtain ⟨u, hu⟩ : ∃ u, (X == Y) = u := ⟨_, rfl⟩
  obtain ⟨v, hv⟩ : ∃ v, decide (X < Y) = v := ⟨_, rfl⟩
  rw [hu] at fz qi
  rw [hv] at ti
  have F1 := hid f1
  have F2 := hid f2
  have F3 := hid f3
  have F4 := hid f4
  have Fz := hid fz
  have Fi := hid qi
  have Ft := hid ti
  have Fv := hid hv
  have FS := hid S0
  have FM := hid M0
  have FE := hid E31
  have W1 : Hid (IntKind.u32.wrap (X - Y) = S) := hid (by rw [wrapw]; exact S0)
  have W2 : Hid (IntKind.u32.wrap (Q + T) = Q + T) := hid (by rw [wrapw]; omega)
  have W3 : Hid (IntKind.u32.wrap (O + P) = U) := hid (by rw [wrapw]; exact f1)
  have W4 : Hid (IntKind.u32.wrap (O - P) = K) := hid (by rw [wrapw]; exact f2)
  obtain ⟨Z1, hZ1⟩ : ∃ Z, IntKind.u32.wrap (4294967295 * 2 ^ N.toNat) = Z := ⟨_, rfl⟩
  obtain ⟨Z2, hZ2⟩ : ∃ Z, IntKind.u32.wrap (A9 * 2 ^ N.toNat) = Z := ⟨_, rfl⟩
  have V6 := hid hZ1
  have V7 := hid hZ2
  have V8 : Hid (bits BinOp.and IntKind.u32 X Z1 = Z2) := hid (by rw [← hZ1, ← hZ2, wrapw, wrapw]; exact f4)
  clear hZ1 hZ2
  have W5 : Hid (IntKind.u32.wrap (X * Y) = M) := hid (by rw [wrapw]; exact M0)
  obtain ⟨q0, q1⟩ := qb
  obtain ⟨t0, t1⟩ := tb
  have Gx := hid gx
  have Gy := hid gy
  have HRl := hid hl
  clear hS hQ hT hU hP hO hK h8 h9 hM S0 Q0 T0 U0 P0 O0 K0 q8 q9 M0 f1 f2 f3 f4 fz qi ti hv hu E31 hN hX hY gx gy hl
  go_enter Try.func5, Try.ntmps5
  go_wp2_with fail
  refine (first4_any _).mono ?_
  rintro e w1 ⟨rfl, hg⟩
  obtain ⟨hr, r1, r2, r3, hg⟩ := boxes_at hg
  have HW := hid (stores_at (a := a) (b := b) (c := c) hr r1 r2 r3 hg)
  have p1 : w1.cell? ⟨W.heap.size + 1, 0, none⟩ = some (.int .i64 a') := by rw [cell_of_row _ _ _ _ _ _ r1]; rfl
  have p2 : w1.cell? ⟨W.heap.size + 1 + 1, 0, none⟩ = some (.int .i64 b') := by rw [cell_of_row _ _ _ _ _ _ r2]; rfl
  have p3 : w1.cell? ⟨W.heap.size + 1 + 1 + 1, 0, none⟩ = some (.int .i64 c') := by rw [cell_of_row _ _ _ _ _ _ r3]; rfl
  have g1 := frozen_of_row w1 _ 0 _ _ r1
  have g2 := frozen_of_row w1 _ 0 _ _ r2
  have g3 := frozen_of_row w1 _ 0 _ _ r3
  clear hr r1 r2 r3 hg
  go_wp2_with fail
  clear p1 p2 p3 g1 g2 g3
  generalize ((w1.setCell ⟨W.heap.size + 1, 0, none⟩ (.int .i64 a)).setCell ⟨W.heap.size + 1 + 1, 0, none⟩ (.int .i64 b)).setCell ⟨W.heap.size + 1 + 1 + 1, 0, none⟩ (.int .i64 c) = w2 at HW ⊢
  refine (one_law HW.out.1 HRl.out a0 a1 b0 b1 c0 c1 4 S (by decide) HS.out).mono ?_
  rintro e w3 ⟨rfl, hg⟩
  have HW0 := hid (And.intro (HW.out.1.kept hg) (grown_trans HW.out.2 hg))
  clear hg HW
  go_wp2_with fail
  refine (one_law HW0.out.1 HRl.out a0 a1 b0 b1 c0 c1 11 Q (by decide) HQ.out).mono ?_
  rintro e w4 ⟨rfl, hg⟩
  have HW1 := hid (And.intro (HW0.out.1.kept hg) (grown_trans HW0.out.2 hg))
  clear hg HW0
  go_wp2_with fail
  refine (one_law HW1.out.1 HRl.out a0 a1 b0 b1 c0 c1 10 T (by decide) HT.out).mono ?_
  rintro e w5 ⟨rfl, hg⟩
  have HW2 := hid (And.intro (HW1.out.1.kept hg) (grown_trans HW1.out.2 hg))
  clear hg HW1
  go_wp2_with fail
  refine (one_law HW2.out.1 HRl.out a0 a1 b0 b1 c0 c1 3 U (by decide) HU.out).mono ?_
  rintro e w6 ⟨rfl, hg⟩
  have HW3 := hid (And.intro (HW2.out.1.kept hg) (grown_trans HW2.out.2 hg))
  clear hg HW2
  go_wp2_with fail
  refine (one_law HW3.out.1 HRl.out a0 a1 b0 b1 c0 c1 5 P (by decide) HP.out).mono ?_
  rintro e w7 ⟨rfl, hg⟩
  have HW4 := hid (And.intro (HW3.out.1.kept hg) (grown_trans HW3.out.2 hg))
  clear hg HW3
  go_wp2_with fail
  refine (one_law HW4.out.1 HRl.out a0 a1 b0 b1 c0 c1 6 O (by decide) HO.out).mono ?_
  rintro e w8 ⟨rfl, hg⟩
  have HW5 := hid (And.intro (HW4.out.1.kept hg) (grown_trans HW4.out.2 hg))
  clear hg HW4
  go_wp2_with fail
  refine (one_law HW5.out.1 HRl.out a0 a1 b0 b1 c0 c1 7 K (by decide) HK.out).mono ?_
  rintro e w9 ⟨rfl, hg⟩
  have HW6 := hid (And.intro (HW5.out.1.kept hg) (grown_trans HW5.out.2 hg))
  clear hg HW5
  go_wp2_with fail
  refine (one_law HW6.out.1 HRl.out a0 a1 b0 b1 c0 c1 8 A8 (by decide) H8.out).mono ?_
  rintro e w10 ⟨rfl, hg⟩
  have HW7 := hid (And.intro (HW6.out.1.kept hg) (grown_trans HW6.out.2 hg))
  clear hg HW6
  go_wp2_with fail
  refine (one_law HW7.out.1 HRl.out a0 a1 b0 b1 c0 c1 9 A9 (by decide) H9.out).mono ?_
  rintro e w11 ⟨rfl, hg⟩
  have HW8 := hid (And.intro (HW7.out.1.kept hg) (grown_trans HW7.out.2 hg))
  clear hg HW7
  go_wp2_with fail
  refine (one_law HW8.out.1 HRl.out a0 a1 b0 b1 c0 c1 24 M (by decide) HM.out).mono ?_
  rintro e w12 ⟨rfl, hg⟩
  have HW9 := hid (And.intro (HW8.out.1.kept hg) (grown_trans HW8.out.2 hg))
  clear hg HW8
  have ka := HW9.out.1.ha
  have kb := HW9.out.1.hb
  have kc := HW9.out.1.hc
  have kx := HW9.out.1.hr.cell Gx.out
  have ky := HW9.out.1.hr.cell Gy.out
  have f1 := F1.out
  have f2 := F2.out
  have f3 := F3.out
  have fz := Fz.out
  have fi := Fi.out
  have ft := Ft.out
  have fv := Fv.out
  have fS := FS.out
  have fM := FM.out
  have fE := FE.out
  have g1 := W1.out
  have g2 := W2.out
  have g3 := W3.out
  have g4 := W4.out
  have g5 := W5.out
  have g6 := V6.out
  have g7 := V7.out
  have g8 := V8.out
  go_wp2
  refine wp_region_held_drew (S := fun w => OAt w W.heap.size a b c l ∧ W.grownBy w none) (by kernel_rfl) ?_ (fun hS0 => ?_)
  · exact ⟨HW9.out.1.kept (grown_drew (grown_refl _ none)), grown_drew HW9.out.2⟩
  clear ka kb kc kx ky HW9
  simp only [List.append_eq, List.cons_append, List.nil_append]
  as_aux_lemma =>
    refine wpAnyH_take (i := 0) (v := .bool true) rfl (by as_aux_lemma => kernel_rfl) (by as_aux_lemma => kernel_rfl) (by as_aux_lemma => kernel_rfl) (fun _ _ _ h => h) (Or.inl ⟨by as_aux_lemma => kernel_rfl, fun w _ => y_move (.tmp 9) (by rfl) (by kernel_rfl) w⟩) (by assumption) ?_
    try simp only [Act.put, List.setIfInBounds_toArray, List.set_cons_zero, List.set_cons_succ, List.getElem_toArray, List.getElem_cons_succ, List.getElem_cons_zero]
    refine wpAnyH_take (i := 1) (v := .bool true) rfl (by as_aux_lemma => kernel_rfl) (by as_aux_lemma => kernel_rfl) (by as_aux_lemma => kernel_rfl) (fun _ _ _ h => h) (Or.inl ⟨by as_aux_lemma => kernel_rfl, fun w _ => y_move (.tmp 56) (by rfl) (by kernel_rfl) w⟩) (by assumption) ?_
    try simp only [Act.put, List.setIfInBounds_toArray, List.set_cons_zero, List.set_cons_succ, List.getElem_toArray, List.getElem_cons_succ, List.getElem_cons_zero]
    refine wpAnyH_take (i := 2) (v := .int .u32 S) rfl (by as_aux_lemma => kernel_rfl) (by as_aux_lemma => kernel_rfl) (by as_aux_lemma => kernel_rfl) (fun _ _ _ h => h) (Or.inl ⟨by as_aux_lemma => kernel_rfl, fun w _ => y_move (.tmp 11) (by rfl) (by kernel_rfl) w⟩) (by assumption) ?_
    try simp only [Act.put, List.setIfInBounds_toArray, List.set_cons_zero, List.set_cons_succ, List.getElem_toArray, List.getElem_cons_succ, List.getElem_cons_zero]
    refine wpAnyH_take (i := 3) (v := .int .i64 b) rfl (by as_aux_lemma => kernel_rfl) (by as_aux_lemma => kernel_rfl) (by as_aux_lemma => kernel_rfl) (fun _ _ _ h => h) (Or.inl ⟨by as_aux_lemma => kernel_rfl, ?_⟩) (by assumption) ?_
    · (intro w hSw; have k := hSw.1.hb; clear hSw; go_simp; try with_reducible rfl)
    try simp only [Act.put, List.setIfInBounds_toArray, List.set_cons_zero, List.set_cons_succ, List.getElem_toArray, List.getElem_cons_succ, List.getElem_cons_zero]
    refine wpAnyH_take (i := 4) (v := .pointer (some ⟨W.heap.size, b.toNat, none⟩)) rfl (by as_aux_lemma => kernel_rfl) (by as_aux_lemma => kernel_rfl) (by as_aux_lemma => kernel_rfl) (fun _ _ _ h => h) (Or.inl ⟨by as_aux_lemma => kernel_rfl, ?_⟩) (by assumption) ?_
    · (intro w hSw; have k := hSw.1.hr.cell Gx.out; clear hSw; go_simp; try with_reducible rfl)
    try simp only [Act.put, List.setIfInBounds_toArray, List.set_cons_zero, List.set_cons_succ, List.getElem_toArray, List.getElem_cons_succ, List.getElem_cons_zero]
    refine wpAnyH_take (i := 5) (v := .int .u32 X) rfl (by as_aux_lemma => kernel_rfl) (by as_aux_lemma => kernel_rfl) (by as_aux_lemma => kernel_rfl) (fun _ _ _ h => h) (Or.inl ⟨by as_aux_lemma => kernel_rfl, ?_⟩) (by assumption) ?_
    · (intro w hSw; have k := hSw.1.hr.cell Gx.out; clear hSw; go_simp; try with_reducible rfl)
    try simp only [Act.put, List.setIfInBounds_toArray, List.set_cons_zero, List.set_cons_succ, List.getElem_toArray, List.getElem_cons_succ, List.getElem_cons_zero]
    refine wpAnyH_take (i := 6) (v := .int .i64 c) rfl (by as_aux_lemma => kernel_rfl) (by as_aux_lemma => kernel_rfl) (by as_aux_lemma => kernel_rfl) (fun _ _ _ h => h) (Or.inl ⟨by as_aux_lemma => kernel_rfl, ?_⟩) (by assumption) ?_
    · (intro w hSw; have k := hSw.1.hc; clear hSw; go_simp; try with_reducible rfl)
    try simp only [Act.put, List.setIfInBounds_toArray, List.set_cons_zero, List.set_cons_succ, List.getElem_toArray, List.getElem_cons_succ, List.getElem_cons_zero]
    refine wpAnyH_take (i := 7) (v := .pointer (some ⟨W.heap.size, c.toNat, none⟩)) rfl (by as_aux_lemma => kernel_rfl) (by as_aux_lemma => kernel_rfl) (by as_aux_lemma => kernel_rfl) (fun _ _ _ h => h) (Or.inl ⟨by as_aux_lemma => kernel_rfl, ?_⟩) (by assumption) ?_
    · (intro w hSw; have k := hSw.1.hr.cell Gy.out; clear hSw; go_simp; try with_reducible rfl)
    try simp only [Act.put, List.setIfInBounds_toArray, List.set_cons_zero, List.set_cons_succ, List.getElem_toArray, List.getElem_cons_succ, List.getElem_cons_zero]
    refine wpAnyH_take (i := 8) (v := .int .u32 Y) rfl (by as_aux_lemma => kernel_rfl) (by as_aux_lemma => kernel_rfl) (by as_aux_lemma => kernel_rfl) (fun _ _ _ h => h) (Or.inl ⟨by as_aux_lemma => kernel_rfl, ?_⟩) (by assumption) ?_
    · (intro w hSw; have k := hSw.1.hr.cell Gy.out; clear hSw; go_simp; try with_reducible rfl)
    try simp only [Act.put, List.setIfInBounds_toArray, List.set_cons_zero, List.set_cons_succ, List.getElem_toArray, List.getElem_cons_succ, List.getElem_cons_zero]
    refine wpAnyH_take (i := 9) (v := .int .u32 S) rfl (by as_aux_lemma => kernel_rfl) (by as_aux_lemma => kernel_rfl) (by as_aux_lemma => kernel_rfl) (fun _ _ _ h => h) (Or.inl ⟨by as_aux_lemma => kernel_rfl, ?_⟩) (by assumption) ?_
    · (intro w hSw; clear hSw; go_simp; try with_reducible rfl)
    try simp only [Act.put, List.setIfInBounds_toArray, List.set_cons_zero, List.set_cons_succ, List.getElem_toArray, List.getElem_cons_succ, List.getElem_cons_zero]
    refine wpAnyH_take (i := 10) (v := .bool true) rfl (by as_aux_lemma => kernel_rfl) (by as_aux_lemma => kernel_rfl) (by as_aux_lemma => kernel_rfl) (fun _ _ _ h => h) (Or.inl ⟨by as_aux_lemma => kernel_rfl, ?_⟩) (by assumption) ?_
    · (intro w hSw; clear hSw; go_simp; try with_reducible rfl)
    try simp only [Act.put, List.setIfInBounds_toArray, List.set_cons_zero, List.set_cons_succ, List.getElem_toArray, List.getElem_cons_succ, List.getElem_cons_zero]
    refine wpAnyH_take (i := 11) (v := .bool true) rfl (by as_aux_lemma => kernel_rfl) (by as_aux_lemma => kernel_rfl) (by as_aux_lemma => kernel_rfl) (fun _ _ _ h => h) (Or.inl ⟨by as_aux_lemma => kernel_rfl, fun w _ => y_pick (.tmp 57) (.tmp 66) (.const (.bool false)) (by rfl) (by kernel_rfl) (by kernel_rfl) w⟩) (by assumption) ?_
    try simp only [Act.put, List.setIfInBounds_toArray, List.set_cons_zero, List.set_cons_succ, List.getElem_toArray, List.getElem_cons_succ, List.getElem_cons_zero]
    refine wpAnyH_take (i := 12) (v := .bool true) rfl (by as_aux_lemma => kernel_rfl) (by as_aux_lemma => kernel_rfl) (by as_aux_lemma => kernel_rfl) (fun _ _ _ h => h) (Or.inl ⟨by as_aux_lemma => kernel_rfl, fun w _ => y_move (.tmp 67) (by rfl) (by kernel_rfl) w⟩) (by assumption) ?_
    try simp only [Act.put, List.setIfInBounds_toArray, List.set_cons_zero, List.set_cons_succ, List.getElem_toArray, List.getElem_cons_succ, List.getElem_cons_zero]
    refine wpAnyH_take (i := 13) (v := .int .u32 S) rfl (by as_aux_lemma => kernel_rfl) (by as_aux_lemma => kernel_rfl) (by as_aux_lemma => kernel_rfl) (fun _ _ _ h => h) (Or.inl ⟨by as_aux_lemma => kernel_rfl, fun w _ => y_move (.tmp 11) (by rfl) (by kernel_rfl) w⟩) (by assumption) ?_
    try simp only [Act.put, List.setIfInBounds_toArray, List.set_cons_zero, List.set_cons_succ, List.getElem_toArray, List.getElem_cons_succ, List.getElem_cons_zero]
    refine wpAnyH_take (i := 14) (v := .bool u) rfl (by as_aux_lemma => kernel_rfl) (by as_aux_lemma => kernel_rfl) (by as_aux_lemma => kernel_rfl) (fun _ _ _ h => h) (Or.inl ⟨by as_aux_lemma => kernel_rfl, ?_⟩) (by assumption) ?_
    · (intro w hSw; clear hSw; go_simp; try with_reducible rfl)
    try simp only [Act.put, List.setIfInBounds_toArray, List.set_cons_zero, List.set_cons_succ, List.getElem_toArray, List.getElem_cons_succ, List.getElem_cons_zero]
    refine wpAnyH_take (i := 15) (v := .int .u32 Q) rfl (by as_aux_lemma => kernel_rfl) (by as_aux_lemma => kernel_rfl) (by as_aux_lemma => kernel_rfl) (fun _ _ _ h => h) (Or.inl ⟨by as_aux_lemma => kernel_rfl, fun w _ => y_move (.tmp 12) (by rfl) (by kernel_rfl) w⟩) (by assumption) ?_
    try simp only [Act.put, List.setIfInBounds_toArray, List.set_cons_zero, List.set_cons_succ, List.getElem_toArray, List.getElem_cons_succ, List.getElem_cons_zero]
    refine wpAnyH_take (i := 16) (v := .bool u) rfl (by as_aux_lemma => kernel_rfl) (by as_aux_lemma => kernel_rfl) (by as_aux_lemma => kernel_rfl) (fun _ _ _ h => h) (Or.inl ⟨by as_aux_lemma => kernel_rfl, ?_⟩) (by assumption) ?_
    · (intro w hSw; clear hSw; go_simp; try with_reducible rfl)
    try simp only [Act.put, List.setIfInBounds_toArray, List.set_cons_zero, List.set_cons_succ, List.getElem_toArray, List.getElem_cons_succ, List.getElem_cons_zero]
    refine wpAnyH_take (i := 17) (v := .bool true) rfl (by as_aux_lemma => kernel_rfl) (by as_aux_lemma => kernel_rfl) (by as_aux_lemma => kernel_rfl) (fun _ _ _ h => h) (Or.inl ⟨by as_aux_lemma => kernel_rfl, ?_⟩) (by assumption) ?_
    · (intro w hSw; clear hSw; go_simp; try with_reducible rfl)
    try simp only [Act.put, List.setIfInBounds_toArray, List.set_cons_zero, List.set_cons_succ, List.getElem_toArray, List.getElem_cons_succ, List.getElem_cons_zero]
    refine wpAnyH_take (i := 18) (v := .bool true) rfl (by as_aux_lemma => kernel_rfl) (by as_aux_lemma => kernel_rfl) (by as_aux_lemma => kernel_rfl) (fun _ _ _ h => h) (Or.inl ⟨by as_aux_lemma => kernel_rfl, fun w _ => y_pick (.tmp 68) (.tmp 73) (.const (.bool false)) (by rfl) (by kernel_rfl) (by kernel_rfl) w⟩) (by assumption) ?_
    try simp only [Act.put, List.setIfInBounds_toArray, List.set_cons_zero, List.set_cons_succ, List.getElem_toArray, List.getElem_cons_succ, List.getElem_cons_zero]
    as_aux_lemma =>
      refine wpAnyH_take (i := 19) (v := .bool true) rfl (by as_aux_lemma => kernel_rfl) (by as_aux_lemma => kernel_rfl) (by as_aux_lemma => kernel_rfl) (fun _ _ _ h => h) (Or.inl ⟨by as_aux_lemma => kernel_rfl, fun w _ => y_move (.tmp 74) (by rfl) (by kernel_rfl) w⟩) (by assumption) ?_
      try simp only [Act.put, List.setIfInBounds_toArray, List.set_cons_zero, List.set_cons_succ, List.getElem_toArray, List.getElem_cons_succ, List.getElem_cons_zero]
      refine wpAnyH_take (i := 20) (v := .int .u32 Q) rfl (by as_aux_lemma => kernel_rfl) (by as_aux_lemma => kernel_rfl) (by as_aux_lemma => kernel_rfl) (fun _ _ _ h => h) (Or.inl ⟨by as_aux_lemma => kernel_rfl, fun w _ => y_move (.tmp 12) (by rfl) (by kernel_rfl) w⟩) (by assumption) ?_
      try simp only [Act.put, List.setIfInBounds_toArray, List.set_cons_zero, List.set_cons_succ, List.getElem_toArray, List.getElem_cons_succ, List.getElem_cons_zero]
      refine wpAnyH_take (i := 21) (v := .bool true) rfl (by as_aux_lemma => kernel_rfl) (by as_aux_lemma => kernel_rfl) (by as_aux_lemma => kernel_rfl) (fun _ _ _ h => h) (Or.inl ⟨by as_aux_lemma => kernel_rfl, ?_⟩) (by assumption) ?_
      · (intro w hSw; clear hSw; go_simp; try with_reducible rfl)
      try simp only [Act.put, List.setIfInBounds_toArray, List.set_cons_zero, List.set_cons_succ, List.getElem_toArray, List.getElem_cons_succ, List.getElem_cons_zero]
      refine wpAnyH_take (i := 22) (v := .bool true) rfl (by as_aux_lemma => kernel_rfl) (by as_aux_lemma => kernel_rfl) (by as_aux_lemma => kernel_rfl) (fun _ _ _ h => h) (Or.inl ⟨by as_aux_lemma => kernel_rfl, fun w _ => y_pick (.tmp 75) (.tmp 77) (.const (.bool false)) (by rfl) (by kernel_rfl) (by kernel_rfl) w⟩) (by assumption) ?_
      try simp only [Act.put, List.setIfInBounds_toArray, List.set_cons_zero, List.set_cons_succ, List.getElem_toArray, List.getElem_cons_succ, List.getElem_cons_zero]
      refine wpAnyH_take (i := 23) (v := .bool true) rfl (by as_aux_lemma => kernel_rfl) (by as_aux_lemma => kernel_rfl) (by as_aux_lemma => kernel_rfl) (fun _ _ _ h => h) (Or.inl ⟨by as_aux_lemma => kernel_rfl, fun w _ => y_move (.tmp 78) (by rfl) (by kernel_rfl) w⟩) (by assumption) ?_
      try simp only [Act.put, List.setIfInBounds_toArray, List.set_cons_zero, List.set_cons_succ, List.getElem_toArray, List.getElem_cons_succ, List.getElem_cons_zero]
      refine wpAnyH_take (i := 24) (v := .int .u32 T) rfl (by as_aux_lemma => kernel_rfl) (by as_aux_lemma => kernel_rfl) (by as_aux_lemma => kernel_rfl) (fun _ _ _ h => h) (Or.inl ⟨by as_aux_lemma => kernel_rfl, fun w _ => y_move (.tmp 13) (by rfl) (by kernel_rfl) w⟩) (by assumption) ?_
      try simp only [Act.put, List.setIfInBounds_toArray, List.set_cons_zero, List.set_cons_succ, List.getElem_toArray, List.getElem_cons_succ, List.getElem_cons_zero]
      refine wpAnyH_take (i := 25) (v := .bool true) rfl (by as_aux_lemma => kernel_rfl) (by as_aux_lemma => kernel_rfl) (by as_aux_lemma => kernel_rfl) (fun _ _ _ h => h) (Or.inl ⟨by as_aux_lemma => kernel_rfl, ?_⟩) (by assumption) ?_
      · (intro w hSw; clear hSw; go_simp; try with_reducible rfl)
      try simp only [Act.put, List.setIfInBounds_toArray, List.set_cons_zero, List.set_cons_succ, List.getElem_toArray, List.getElem_cons_succ, List.getElem_cons_zero]
      refine wpAnyH_take (i := 26) (v := .bool true) rfl (by as_aux_lemma => kernel_rfl) (by as_aux_lemma => kernel_rfl) (by as_aux_lemma => kernel_rfl) (fun _ _ _ h => h) (Or.inl ⟨by as_aux_lemma => kernel_rfl, fun w _ => y_pick (.tmp 79) (.tmp 81) (.const (.bool false)) (by rfl) (by kernel_rfl) (by kernel_rfl) w⟩) (by assumption) ?_
      try simp only [Act.put, List.setIfInBounds_toArray, List.set_cons_zero, List.set_cons_succ, List.getElem_toArray, List.getElem_cons_succ, List.getElem_cons_zero]
      refine wpAnyH_take (i := 27) (v := .bool true) rfl (by as_aux_lemma => kernel_rfl) (by as_aux_lemma => kernel_rfl) (by as_aux_lemma => kernel_rfl) (fun _ _ _ h => h) (Or.inl ⟨by as_aux_lemma => kernel_rfl, fun w _ => y_move (.tmp 82) (by rfl) (by kernel_rfl) w⟩) (by assumption) ?_
      try simp only [Act.put, List.setIfInBounds_toArray, List.set_cons_zero, List.set_cons_succ, List.getElem_toArray, List.getElem_cons_succ, List.getElem_cons_zero]
      refine wpAnyH_take (i := 28) (v := .int .u32 Q) rfl (by as_aux_lemma => kernel_rfl) (by as_aux_lemma => kernel_rfl) (by as_aux_lemma => kernel_rfl) (fun _ _ _ h => h) (Or.inl ⟨by as_aux_lemma => kernel_rfl, fun w _ => y_move (.tmp 12) (by rfl) (by kernel_rfl) w⟩) (by assumption) ?_
      try simp only [Act.put, List.setIfInBounds_toArray, List.set_cons_zero, List.set_cons_succ, List.getElem_toArray, List.getElem_cons_succ, List.getElem_cons_zero]
      refine wpAnyH_take (i := 29) (v := .int .u32 T) rfl (by as_aux_lemma => kernel_rfl) (by as_aux_lemma => kernel_rfl) (by as_aux_lemma => kernel_rfl) (fun _ _ _ h => h) (Or.inl ⟨by as_aux_lemma => kernel_rfl, fun w _ => y_move (.tmp 13) (by rfl) (by kernel_rfl) w⟩) (by assumption) ?_
      try simp only [Act.put, List.setIfInBounds_toArray, List.set_cons_zero, List.set_cons_succ, List.getElem_toArray, List.getElem_cons_succ, List.getElem_cons_zero]
      refine wpAnyH_take (i := 30) (v := .int .u32 (Q + T)) rfl (by as_aux_lemma => kernel_rfl) (by as_aux_lemma => kernel_rfl) (by as_aux_lemma => kernel_rfl) (fun _ _ _ h => h) (Or.inl ⟨by as_aux_lemma => kernel_rfl, ?_⟩) (by assumption) ?_
      · (intro w hSw; clear hSw; go_simp; try with_reducible rfl)
      try simp only [Act.put, List.setIfInBounds_toArray, List.set_cons_zero, List.set_cons_succ, List.getElem_toArray, List.getElem_cons_succ, List.getElem_cons_zero]
      refine wpAnyH_take (i := 31) (v := .bool true) rfl (by as_aux_lemma => kernel_rfl) (by as_aux_lemma => kernel_rfl) (by as_aux_lemma => kernel_rfl) (fun _ _ _ h => h) (Or.inl ⟨by as_aux_lemma => kernel_rfl, ?_⟩) (by assumption) ?_
      · (intro w hSw; clear hSw; go_simp; try with_reducible rfl)
      try simp only [Act.put, List.setIfInBounds_toArray, List.set_cons_zero, List.set_cons_succ, List.getElem_toArray, List.getElem_cons_succ, List.getElem_cons_zero]
      refine wpAnyH_take (i := 32) (v := .bool true) rfl (by as_aux_lemma => kernel_rfl) (by as_aux_lemma => kernel_rfl) (by as_aux_lemma => kernel_rfl) (fun _ _ _ h => h) (Or.inl ⟨by as_aux_lemma => kernel_rfl, fun w _ => y_pick (.tmp 83) (.tmp 87) (.const (.bool false)) (by rfl) (by kernel_rfl) (by kernel_rfl) w⟩) (by assumption) ?_
      try simp only [Act.put, List.setIfInBounds_toArray, List.set_cons_zero, List.set_cons_succ, List.getElem_toArray, List.getElem_cons_succ, List.getElem_cons_zero]
      refine wpAnyH_take (i := 33) (v := .bool true) rfl (by as_aux_lemma => kernel_rfl) (by as_aux_lemma => kernel_rfl) (by as_aux_lemma => kernel_rfl) (fun _ _ _ h => h) (Or.inl ⟨by as_aux_lemma => kernel_rfl, fun w _ => y_move (.tmp 88) (by rfl) (by kernel_rfl) w⟩) (by assumption) ?_
      try simp only [Act.put, List.setIfInBounds_toArray, List.set_cons_zero, List.set_cons_succ, List.getElem_toArray, List.getElem_cons_succ, List.getElem_cons_zero]
      refine wpAnyH_take (i := 34) (v := .int .u32 T) rfl (by as_aux_lemma => kernel_rfl) (by as_aux_lemma => kernel_rfl) (by as_aux_lemma => kernel_rfl) (fun _ _ _ h => h) (Or.inl ⟨by as_aux_lemma => kernel_rfl, fun w _ => y_move (.tmp 13) (by rfl) (by kernel_rfl) w⟩) (by assumption) ?_
      try simp only [Act.put, List.setIfInBounds_toArray, List.set_cons_zero, List.set_cons_succ, List.getElem_toArray, List.getElem_cons_succ, List.getElem_cons_zero]
      refine wpAnyH_take (i := 35) (v := .bool v) rfl (by as_aux_lemma => kernel_rfl) (by as_aux_lemma => kernel_rfl) (by as_aux_lemma => kernel_rfl) (fun _ _ _ h => h) (Or.inl ⟨by as_aux_lemma => kernel_rfl, ?_⟩) (by assumption) ?_
      · (intro w hSw; clear hSw; go_simp; try with_reducible rfl)
      try simp only [Act.put, List.setIfInBounds_toArray, List.set_cons_zero, List.set_cons_succ, List.getElem_toArray, List.getElem_cons_succ, List.getElem_cons_zero]
      refine wpAnyH_take (i := 36) (v := .int .i64 b) rfl (by as_aux_lemma => kernel_rfl) (by as_aux_lemma => kernel_rfl) (by as_aux_lemma => kernel_rfl) (fun _ _ _ h => h) (Or.inl ⟨by as_aux_lemma => kernel_rfl, ?_⟩) (by assumption) ?_
      · (intro w hSw; have k := hSw.1.hb; clear hSw; go_simp; try with_reducible rfl)
      try simp only [Act.put, List.setIfInBounds_toArray, List.set_cons_zero, List.set_cons_succ, List.getElem_toArray, List.getElem_cons_succ, List.getElem_cons_zero]
      refine wpAnyH_take (i := 37) (v := .pointer (some ⟨W.heap.size, b.toNat, none⟩)) rfl (by as_aux_lemma => kernel_rfl) (by as_aux_lemma => kernel_rfl) (by as_aux_lemma => kernel_rfl) (fun _ _ _ h => h) (Or.inl ⟨by as_aux_lemma => kernel_rfl, ?_⟩) (by assumption) ?_
      · (intro w hSw; have k := hSw.1.hr.cell Gx.out; clear hSw; go_simp; try with_reducible rfl)
      try simp only [Act.put, List.setIfInBounds_toArray, List.set_cons_zero, List.set_cons_succ, List.getElem_toArray, List.getElem_cons_succ, List.getElem_cons_zero]
      as_aux_lemma =>
        refine wpAnyH_take (i := 38) (v := .int .u32 X) rfl (by as_aux_lemma => kernel_rfl) (by as_aux_lemma => kernel_rfl) (by as_aux_lemma => kernel_rfl) (fun _ _ _ h => h) (Or.inl ⟨by as_aux_lemma => kernel_rfl, ?_⟩) (by assumption) ?_
        · (intro w hSw; have k := hSw.1.hr.cell Gx.out; clear hSw; go_simp; try with_reducible rfl)
        try simp only [Act.put, List.setIfInBounds_toArray, List.set_cons_zero, List.set_cons_succ, List.getElem_toArray, List.getElem_cons_succ, List.getElem_cons_zero]
        refine wpAnyH_take (i := 39) (v := .int .i64 c) rfl (by as_aux_lemma => kernel_rfl) (by as_aux_lemma => kernel_rfl) (by as_aux_lemma => kernel_rfl) (fun _ _ _ h => h) (Or.inl ⟨by as_aux_lemma => kernel_rfl, ?_⟩) (by assumption) ?_
        · (intro w hSw; have k := hSw.1.hc; clear hSw; go_simp; try with_reducible rfl)
        try simp only [Act.put, List.setIfInBounds_toArray, List.set_cons_zero, List.set_cons_succ, List.getElem_toArray, List.getElem_cons_succ, List.getElem_cons_zero]
        refine wpAnyH_take (i := 40) (v := .pointer (some ⟨W.heap.size, c.toNat, none⟩)) rfl (by as_aux_lemma => kernel_rfl) (by as_aux_lemma => kernel_rfl) (by as_aux_lemma => kernel_rfl) (fun _ _ _ h => h) (Or.inl ⟨by as_aux_lemma => kernel_rfl, ?_⟩) (by assumption) ?_
        · (intro w hSw; have k := hSw.1.hr.cell Gy.out; clear hSw; go_simp; try with_reducible rfl)
        try simp only [Act.put, List.setIfInBounds_toArray, List.set_cons_zero, List.set_cons_succ, List.getElem_toArray, List.getElem_cons_succ, List.getElem_cons_zero]
        refine wpAnyH_take (i := 41) (v := .int .u32 Y) rfl (by as_aux_lemma => kernel_rfl) (by as_aux_lemma => kernel_rfl) (by as_aux_lemma => kernel_rfl) (fun _ _ _ h => h) (Or.inl ⟨by as_aux_lemma => kernel_rfl, ?_⟩) (by assumption) ?_
        · (intro w hSw; have k := hSw.1.hr.cell Gy.out; clear hSw; go_simp; try with_reducible rfl)
        try simp only [Act.put, List.setIfInBounds_toArray, List.set_cons_zero, List.set_cons_succ, List.getElem_toArray, List.getElem_cons_succ, List.getElem_cons_zero]
        refine wpAnyH_take (i := 42) (v := .bool v) rfl (by as_aux_lemma => kernel_rfl) (by as_aux_lemma => kernel_rfl) (by as_aux_lemma => kernel_rfl) (fun _ _ _ h => h) (Or.inl ⟨by as_aux_lemma => kernel_rfl, ?_⟩) (by assumption) ?_
        · (intro w hSw; clear hSw; go_simp; try with_reducible rfl)
        try simp only [Act.put, List.setIfInBounds_toArray, List.set_cons_zero, List.set_cons_succ, List.getElem_toArray, List.getElem_cons_succ, List.getElem_cons_zero]
        refine wpAnyH_take (i := 43) (v := .bool true) rfl (by as_aux_lemma => kernel_rfl) (by as_aux_lemma => kernel_rfl) (by as_aux_lemma => kernel_rfl) (fun _ _ _ h => h) (Or.inl ⟨by as_aux_lemma => kernel_rfl, ?_⟩) (by assumption) ?_
        · (intro w hSw; clear hSw; go_simp; try with_reducible rfl)
        try simp only [Act.put, List.setIfInBounds_toArray, List.set_cons_zero, List.set_cons_succ, List.getElem_toArray, List.getElem_cons_succ, List.getElem_cons_zero]
        refine wpAnyH_take (i := 44) (v := .bool true) rfl (by as_aux_lemma => kernel_rfl) (by as_aux_lemma => kernel_rfl) (by as_aux_lemma => kernel_rfl) (fun _ _ _ h => h) (Or.inl ⟨by as_aux_lemma => kernel_rfl, fun w _ => y_pick (.tmp 89) (.tmp 99) (.const (.bool false)) (by rfl) (by kernel_rfl) (by kernel_rfl) w⟩) (by assumption) ?_
        try simp only [Act.put, List.setIfInBounds_toArray, List.set_cons_zero, List.set_cons_succ, List.getElem_toArray, List.getElem_cons_succ, List.getElem_cons_zero]
        refine wpAnyH_take (i := 45) (v := .bool true) rfl (by as_aux_lemma => kernel_rfl) (by as_aux_lemma => kernel_rfl) (by as_aux_lemma => kernel_rfl) (fun _ _ _ h => h) (Or.inl ⟨by as_aux_lemma => kernel_rfl, fun w _ => y_move (.tmp 100) (by rfl) (by kernel_rfl) w⟩) (by assumption) ?_
        try simp only [Act.put, List.setIfInBounds_toArray, List.set_cons_zero, List.set_cons_succ, List.getElem_toArray, List.getElem_cons_succ, List.getElem_cons_zero]
        refine wpAnyH_take (i := 46) (v := .int .u32 U) rfl (by as_aux_lemma => kernel_rfl) (by as_aux_lemma => kernel_rfl) (by as_aux_lemma => kernel_rfl) (fun _ _ _ h => h) (Or.inl ⟨by as_aux_lemma => kernel_rfl, fun w _ => y_move (.tmp 14) (by rfl) (by kernel_rfl) w⟩) (by assumption) ?_
        try simp only [Act.put, List.setIfInBounds_toArray, List.set_cons_zero, List.set_cons_succ, List.getElem_toArray, List.getElem_cons_succ, List.getElem_cons_zero]
        refine wpAnyH_take (i := 47) (v := .int .u32 O) rfl (by as_aux_lemma => kernel_rfl) (by as_aux_lemma => kernel_rfl) (by as_aux_lemma => kernel_rfl) (fun _ _ _ h => h) (Or.inl ⟨by as_aux_lemma => kernel_rfl, fun w _ => y_move (.tmp 16) (by rfl) (by kernel_rfl) w⟩) (by assumption) ?_
        try simp only [Act.put, List.setIfInBounds_toArray, List.set_cons_zero, List.set_cons_succ, List.getElem_toArray, List.getElem_cons_succ, List.getElem_cons_zero]
        refine wpAnyH_take (i := 48) (v := .int .u32 P) rfl (by as_aux_lemma => kernel_rfl) (by as_aux_lemma => kernel_rfl) (by as_aux_lemma => kernel_rfl) (fun _ _ _ h => h) (Or.inl ⟨by as_aux_lemma => kernel_rfl, fun w _ => y_move (.tmp 15) (by rfl) (by kernel_rfl) w⟩) (by assumption) ?_
        try simp only [Act.put, List.setIfInBounds_toArray, List.set_cons_zero, List.set_cons_succ, List.getElem_toArray, List.getElem_cons_succ, List.getElem_cons_zero]
        refine wpAnyH_take (i := 49) (v := .int .u32 U) rfl (by as_aux_lemma => kernel_rfl) (by as_aux_lemma => kernel_rfl) (by as_aux_lemma => kernel_rfl) (fun _ _ _ h => h) (Or.inl ⟨by as_aux_lemma => kernel_rfl, ?_⟩) (by assumption) ?_
        · (intro w hSw; clear hSw; go_simp; try with_reducible rfl)
        try simp only [Act.put, List.setIfInBounds_toArray, List.set_cons_zero, List.set_cons_succ, List.getElem_toArray, List.getElem_cons_succ, List.getElem_cons_zero]
        refine wpAnyH_take (i := 50) (v := .bool true) rfl (by as_aux_lemma => kernel_rfl) (by as_aux_lemma => kernel_rfl) (by as_aux_lemma => kernel_rfl) (fun _ _ _ h => h) (Or.inl ⟨by as_aux_lemma => kernel_rfl, ?_⟩) (by assumption) ?_
        · (intro w hSw; clear hSw; go_simp; try with_reducible rfl)
        try simp only [Act.put, List.setIfInBounds_toArray, List.set_cons_zero, List.set_cons_succ, List.getElem_toArray, List.getElem_cons_succ, List.getElem_cons_zero]
        refine wpAnyH_take (i := 51) (v := .bool true) rfl (by as_aux_lemma => kernel_rfl) (by as_aux_lemma => kernel_rfl) (by as_aux_lemma => kernel_rfl) (fun _ _ _ h => h) (Or.inl ⟨by as_aux_lemma => kernel_rfl, fun w _ => y_pick (.tmp 101) (.tmp 106) (.const (.bool false)) (by rfl) (by kernel_rfl) (by kernel_rfl) w⟩) (by assumption) ?_
        try simp only [Act.put, List.setIfInBounds_toArray, List.set_cons_zero, List.set_cons_succ, List.getElem_toArray, List.getElem_cons_succ, List.getElem_cons_zero]
        refine wpAnyH_take (i := 52) (v := .bool true) rfl (by as_aux_lemma => kernel_rfl) (by as_aux_lemma => kernel_rfl) (by as_aux_lemma => kernel_rfl) (fun _ _ _ h => h) (Or.inl ⟨by as_aux_lemma => kernel_rfl, fun w _ => y_move (.tmp 107) (by rfl) (by kernel_rfl) w⟩) (by assumption) ?_
        try simp only [Act.put, List.setIfInBounds_toArray, List.set_cons_zero, List.set_cons_succ, List.getElem_toArray, List.getElem_cons_succ, List.getElem_cons_zero]
        refine wpAnyH_take (i := 53) (v := .int .u32 K) rfl (by as_aux_lemma => kernel_rfl) (by as_aux_lemma => kernel_rfl) (by as_aux_lemma => kernel_rfl) (fun _ _ _ h => h) (Or.inl ⟨by as_aux_lemma => kernel_rfl, fun w _ => y_move (.tmp 17) (by rfl) (by kernel_rfl) w⟩) (by assumption) ?_
        try simp only [Act.put, List.setIfInBounds_toArray, List.set_cons_zero, List.set_cons_succ, List.getElem_toArray, List.getElem_cons_succ, List.getElem_cons_zero]
        refine wpAnyH_take (i := 54) (v := .int .u32 O) rfl (by as_aux_lemma => kernel_rfl) (by as_aux_lemma => kernel_rfl) (by as_aux_lemma => kernel_rfl) (fun _ _ _ h => h) (Or.inl ⟨by as_aux_lemma => kernel_rfl, fun w _ => y_move (.tmp 16) (by rfl) (by kernel_rfl) w⟩) (by assumption) ?_
        try simp only [Act.put, List.setIfInBounds_toArray, List.set_cons_zero, List.set_cons_succ, List.getElem_toArray, List.getElem_cons_succ, List.getElem_cons_zero]
        refine wpAnyH_take (i := 55) (v := .int .u32 P) rfl (by as_aux_lemma => kernel_rfl) (by as_aux_lemma => kernel_rfl) (by as_aux_lemma => kernel_rfl) (fun _ _ _ h => h) (Or.inl ⟨by as_aux_lemma => kernel_rfl, fun w _ => y_move (.tmp 15) (by rfl) (by kernel_rfl) w⟩) (by assumption) ?_
        try simp only [Act.put, List.setIfInBounds_toArray, List.set_cons_zero, List.set_cons_succ, List.getElem_toArray, List.getElem_cons_succ, List.getElem_cons_zero]
        refine wpAnyH_take (i := 56) (v := .int .u32 K) rfl (by as_aux_lemma => kernel_rfl) (by as_aux_lemma => kernel_rfl) (by as_aux_lemma => kernel_rfl) (fun _ _ _ h => h) (Or.inl ⟨by as_aux_lemma => kernel_rfl, ?_⟩) (by assumption) ?_
        · (intro w hSw; clear hSw; go_simp; try with_reducible rfl)
        try simp only [Act.put, List.setIfInBounds_toArray, List.set_cons_zero, List.set_cons_succ, List.getElem_toArray, List.getElem_cons_succ, List.getElem_cons_zero]
        as_aux_lemma =>
          refine wpAnyH_take (i := 57) (v := .bool true) rfl (by as_aux_lemma => kernel_rfl) (by as_aux_lemma => kernel_rfl) (by as_aux_lemma => kernel_rfl) (fun _ _ _ h => h) (Or.inl ⟨by as_aux_lemma => kernel_rfl, ?_⟩) (by assumption) ?_
          · (intro w hSw; clear hSw; go_simp; try with_reducible rfl)
          try simp only [Act.put, List.setIfInBounds_toArray, List.set_cons_zero, List.set_cons_succ, List.getElem_toArray, List.getElem_cons_succ, List.getElem_cons_zero]
          refine wpAnyH_take (i := 58) (v := .bool true) rfl (by as_aux_lemma => kernel_rfl) (by as_aux_lemma => kernel_rfl) (by as_aux_lemma => kernel_rfl) (fun _ _ _ h => h) (Or.inl ⟨by as_aux_lemma => kernel_rfl, fun w _ => y_pick (.tmp 108) (.tmp 113) (.const (.bool false)) (by rfl) (by kernel_rfl) (by kernel_rfl) w⟩) (by assumption) ?_
          try simp only [Act.put, List.setIfInBounds_toArray, List.set_cons_zero, List.set_cons_succ, List.getElem_toArray, List.getElem_cons_succ, List.getElem_cons_zero]
          refine wpAnyH_take (i := 59) (v := .bool true) rfl (by as_aux_lemma => kernel_rfl) (by as_aux_lemma => kernel_rfl) (by as_aux_lemma => kernel_rfl) (fun _ _ _ h => h) (Or.inl ⟨by as_aux_lemma => kernel_rfl, fun w _ => y_move (.tmp 114) (by rfl) (by kernel_rfl) w⟩) (by assumption) ?_
          try simp only [Act.put, List.setIfInBounds_toArray, List.set_cons_zero, List.set_cons_succ, List.getElem_toArray, List.getElem_cons_succ, List.getElem_cons_zero]
          refine wpAnyH_take (i := 60) (v := .int .u32 A8) rfl (by as_aux_lemma => kernel_rfl) (by as_aux_lemma => kernel_rfl) (by as_aux_lemma => kernel_rfl) (fun _ _ _ h => h) (Or.inl ⟨by as_aux_lemma => kernel_rfl, fun w _ => y_move (.tmp 18) (by rfl) (by kernel_rfl) w⟩) (by assumption) ?_
          try simp only [Act.put, List.setIfInBounds_toArray, List.set_cons_zero, List.set_cons_succ, List.getElem_toArray, List.getElem_cons_succ, List.getElem_cons_zero]
          refine wpAnyH_take (i := 61) (v := .int .u32 N) rfl (by as_aux_lemma => kernel_rfl) (by as_aux_lemma => kernel_rfl) (by as_aux_lemma => kernel_rfl) (fun _ _ _ h => h) (Or.inl ⟨by as_aux_lemma => kernel_rfl, fun w _ => y_move (.tmp 21) (by rfl) (by kernel_rfl) w⟩) (by assumption) ?_
          try simp only [Act.put, List.setIfInBounds_toArray, List.set_cons_zero, List.set_cons_succ, List.getElem_toArray, List.getElem_cons_succ, List.getElem_cons_zero]
          refine wpAnyH_take (i := 62) (v := .int .u32 (A8 / 2 ^ N.toNat)) rfl (by as_aux_lemma => kernel_rfl) (by as_aux_lemma => kernel_rfl) (by as_aux_lemma => kernel_rfl) (fun _ _ _ h => h) (Or.inl ⟨by as_aux_lemma => kernel_rfl, ?_⟩) (by assumption) ?_
          · (intro w hSw; clear hSw; go_simp; try with_reducible rfl)
          try simp only [Act.put, List.setIfInBounds_toArray, List.set_cons_zero, List.set_cons_succ, List.getElem_toArray, List.getElem_cons_succ, List.getElem_cons_zero]
          refine wpAnyH_take (i := 63) (v := .int .i64 b) rfl (by as_aux_lemma => kernel_rfl) (by as_aux_lemma => kernel_rfl) (by as_aux_lemma => kernel_rfl) (fun _ _ _ h => h) (Or.inl ⟨by as_aux_lemma => kernel_rfl, ?_⟩) (by assumption) ?_
          · (intro w hSw; have k := hSw.1.hb; clear hSw; go_simp; try with_reducible rfl)
          try simp only [Act.put, List.setIfInBounds_toArray, List.set_cons_zero, List.set_cons_succ, List.getElem_toArray, List.getElem_cons_succ, List.getElem_cons_zero]
          refine wpAnyH_take (i := 64) (v := .pointer (some ⟨W.heap.size, b.toNat, none⟩)) rfl (by as_aux_lemma => kernel_rfl) (by as_aux_lemma => kernel_rfl) (by as_aux_lemma => kernel_rfl) (fun _ _ _ h => h) (Or.inl ⟨by as_aux_lemma => kernel_rfl, ?_⟩) (by assumption) ?_
          · (intro w hSw; have k := hSw.1.hr.cell Gx.out; clear hSw; go_simp; try with_reducible rfl)
          try simp only [Act.put, List.setIfInBounds_toArray, List.set_cons_zero, List.set_cons_succ, List.getElem_toArray, List.getElem_cons_succ, List.getElem_cons_zero]
          refine wpAnyH_take (i := 65) (v := .int .u32 X) rfl (by as_aux_lemma => kernel_rfl) (by as_aux_lemma => kernel_rfl) (by as_aux_lemma => kernel_rfl) (fun _ _ _ h => h) (Or.inl ⟨by as_aux_lemma => kernel_rfl, ?_⟩) (by assumption) ?_
          · (intro w hSw; have k := hSw.1.hr.cell Gx.out; clear hSw; go_simp; try with_reducible rfl)
          try simp only [Act.put, List.setIfInBounds_toArray, List.set_cons_zero, List.set_cons_succ, List.getElem_toArray, List.getElem_cons_succ, List.getElem_cons_zero]
          refine wpAnyH_take (i := 66) (v := .int .u32 N) rfl (by as_aux_lemma => kernel_rfl) (by as_aux_lemma => kernel_rfl) (by as_aux_lemma => kernel_rfl) (fun _ _ _ h => h) (Or.inl ⟨by as_aux_lemma => kernel_rfl, fun w _ => y_move (.tmp 21) (by rfl) (by kernel_rfl) w⟩) (by assumption) ?_
          try simp only [Act.put, List.setIfInBounds_toArray, List.set_cons_zero, List.set_cons_succ, List.getElem_toArray, List.getElem_cons_succ, List.getElem_cons_zero]
          refine wpAnyH_take (i := 67) (v := .int .u32 (4294967295 / 2 ^ N.toNat)) rfl (by as_aux_lemma => kernel_rfl) (by as_aux_lemma => kernel_rfl) (by as_aux_lemma => kernel_rfl) (fun _ _ _ h => h) (Or.inl ⟨by as_aux_lemma => kernel_rfl, ?_⟩) (by assumption) ?_
          · (intro w hSw; clear hSw; go_simp; try with_reducible rfl)
          try simp only [Act.put, List.setIfInBounds_toArray, List.set_cons_zero, List.set_cons_succ, List.getElem_toArray, List.getElem_cons_succ, List.getElem_cons_zero]
          refine wpAnyH_take (i := 68) (v := .int .u32 (A8 / 2 ^ N.toNat)) rfl (by as_aux_lemma => kernel_rfl) (by as_aux_lemma => kernel_rfl) (by as_aux_lemma => kernel_rfl) (fun _ _ _ h => h) (Or.inl ⟨by as_aux_lemma => kernel_rfl, ?_⟩) (by assumption) ?_
          · (intro w hSw; clear hSw; go_simp; try with_reducible rfl)
          try simp only [Act.put, List.setIfInBounds_toArray, List.set_cons_zero, List.set_cons_succ, List.getElem_toArray, List.getElem_cons_succ, List.getElem_cons_zero]
          refine wpAnyH_take (i := 69) (v := .bool true) rfl (by as_aux_lemma => kernel_rfl) (by as_aux_lemma => kernel_rfl) (by as_aux_lemma => kernel_rfl) (fun _ _ _ h => h) (Or.inl ⟨by as_aux_lemma => kernel_rfl, ?_⟩) (by assumption) ?_
          · (intro w hSw; clear hSw; go_simp; try with_reducible rfl)
          try simp only [Act.put, List.setIfInBounds_toArray, List.set_cons_zero, List.set_cons_succ, List.getElem_toArray, List.getElem_cons_succ, List.getElem_cons_zero]
          refine wpAnyH_take (i := 70) (v := .bool true) rfl (by as_aux_lemma => kernel_rfl) (by as_aux_lemma => kernel_rfl) (by as_aux_lemma => kernel_rfl) (fun _ _ _ h => h) (Or.inl ⟨by as_aux_lemma => kernel_rfl, fun w _ => y_pick (.tmp 115) (.tmp 125) (.const (.bool false)) (by rfl) (by kernel_rfl) (by kernel_rfl) w⟩) (by assumption) ?_
          try simp only [Act.put, List.setIfInBounds_toArray, List.set_cons_zero, List.set_cons_succ, List.getElem_toArray, List.getElem_cons_succ, List.getElem_cons_zero]
          refine wpAnyH_take (i := 71) (v := .bool true) rfl (by as_aux_lemma => kernel_rfl) (by as_aux_lemma => kernel_rfl) (by as_aux_lemma => kernel_rfl) (fun _ _ _ h => h) (Or.inl ⟨by as_aux_lemma => kernel_rfl, fun w _ => y_move (.tmp 126) (by rfl) (by kernel_rfl) w⟩) (by assumption) ?_
          try simp only [Act.put, List.setIfInBounds_toArray, List.set_cons_zero, List.set_cons_succ, List.getElem_toArray, List.getElem_cons_succ, List.getElem_cons_zero]
          refine wpAnyH_take (i := 72) (v := .int .u32 A9) rfl (by as_aux_lemma => kernel_rfl) (by as_aux_lemma => kernel_rfl) (by as_aux_lemma => kernel_rfl) (fun _ _ _ h => h) (Or.inl ⟨by as_aux_lemma => kernel_rfl, fun w _ => y_move (.tmp 19) (by rfl) (by kernel_rfl) w⟩) (by assumption) ?_
          try simp only [Act.put, List.setIfInBounds_toArray, List.set_cons_zero, List.set_cons_succ, List.getElem_toArray, List.getElem_cons_succ, List.getElem_cons_zero]
          refine wpAnyH_take (i := 73) (v := .int .u32 N) rfl (by as_aux_lemma => kernel_rfl) (by as_aux_lemma => kernel_rfl) (by as_aux_lemma => kernel_rfl) (fun _ _ _ h => h) (Or.inl ⟨by as_aux_lemma => kernel_rfl, fun w _ => y_move (.tmp 21) (by rfl) (by kernel_rfl) w⟩) (by assumption) ?_
          try simp only [Act.put, List.setIfInBounds_toArray, List.set_cons_zero, List.set_cons_succ, List.getElem_toArray, List.getElem_cons_succ, List.getElem_cons_zero]
          refine wpAnyH_take (i := 74) (v := .int .u32 Z2) rfl (by as_aux_lemma => kernel_rfl) (by as_aux_lemma => kernel_rfl) (by as_aux_lemma => kernel_rfl) (fun _ _ _ h => h) (Or.inl ⟨by as_aux_lemma => kernel_rfl, ?_⟩) (by assumption) ?_
          · (intro w hSw; clear hSw; go_simp; try with_reducible rfl)
          try simp only [Act.put, List.setIfInBounds_toArray, List.set_cons_zero, List.set_cons_succ, List.getElem_toArray, List.getElem_cons_succ, List.getElem_cons_zero]
          refine wpAnyH_take (i := 75) (v := .int .i64 b) rfl (by as_aux_lemma => kernel_rfl) (by as_aux_lemma => kernel_rfl) (by as_aux_lemma => kernel_rfl) (fun _ _ _ h => h) (Or.inl ⟨by as_aux_lemma => kernel_rfl, ?_⟩) (by assumption) ?_
          · (intro w hSw; have k := hSw.1.hb; clear hSw; go_simp; try with_reducible rfl)
          try simp only [Act.put, List.setIfInBounds_toArray, List.set_cons_zero, List.set_cons_succ, List.getElem_toArray, List.getElem_cons_succ, List.getElem_cons_zero]
          as_aux_lemma =>
            refine wpAnyH_take (i := 76) (v := .pointer (some ⟨W.heap.size, b.toNat, none⟩)) rfl (by as_aux_lemma => kernel_rfl) (by as_aux_lemma => kernel_rfl) (by as_aux_lemma => kernel_rfl) (fun _ _ _ h => h) (Or.inl ⟨by as_aux_lemma => kernel_rfl, ?_⟩) (by assumption) ?_
            · (intro w hSw; have k := hSw.1.hr.cell Gx.out; clear hSw; go_simp; try with_reducible rfl)
            try simp only [Act.put, List.setIfInBounds_toArray, List.set_cons_zero, List.set_cons_succ, List.getElem_toArray, List.getElem_cons_succ, List.getElem_cons_zero]
            refine wpAnyH_take (i := 77) (v := .int .u32 X) rfl (by as_aux_lemma => kernel_rfl) (by as_aux_lemma => kernel_rfl) (by as_aux_lemma => kernel_rfl) (fun _ _ _ h => h) (Or.inl ⟨by as_aux_lemma => kernel_rfl, ?_⟩) (by assumption) ?_
            · (intro w hSw; have k := hSw.1.hr.cell Gx.out; clear hSw; go_simp; try with_reducible rfl)
            try simp only [Act.put, List.setIfInBounds_toArray, List.set_cons_zero, List.set_cons_succ, List.getElem_toArray, List.getElem_cons_succ, List.getElem_cons_zero]
            refine wpAnyH_take (i := 78) (v := .int .u32 N) rfl (by as_aux_lemma => kernel_rfl) (by as_aux_lemma => kernel_rfl) (by as_aux_lemma => kernel_rfl) (fun _ _ _ h => h) (Or.inl ⟨by as_aux_lemma => kernel_rfl, fun w _ => y_move (.tmp 21) (by rfl) (by kernel_rfl) w⟩) (by assumption) ?_
            try simp only [Act.put, List.setIfInBounds_toArray, List.set_cons_zero, List.set_cons_succ, List.getElem_toArray, List.getElem_cons_succ, List.getElem_cons_zero]
            refine wpAnyH_take (i := 79) (v := .int .u32 Z1) rfl (by as_aux_lemma => kernel_rfl) (by as_aux_lemma => kernel_rfl) (by as_aux_lemma => kernel_rfl) (fun _ _ _ h => h) (Or.inl ⟨by as_aux_lemma => kernel_rfl, ?_⟩) (by assumption) ?_
            · (intro w hSw; clear hSw; go_simp; try with_reducible rfl)
            try simp only [Act.put, List.setIfInBounds_toArray, List.set_cons_zero, List.set_cons_succ, List.getElem_toArray, List.getElem_cons_succ, List.getElem_cons_zero]
            refine wpAnyH_take (i := 80) (v := .int .u32 Z2) rfl (by as_aux_lemma => kernel_rfl) (by as_aux_lemma => kernel_rfl) (by as_aux_lemma => kernel_rfl) (fun _ _ _ h => h) (Or.inl ⟨by as_aux_lemma => kernel_rfl, ?_⟩) (by assumption) ?_
            · (intro w hSw; clear hSw; go_simp; try with_reducible rfl)
            try simp only [Act.put, List.setIfInBounds_toArray, List.set_cons_zero, List.set_cons_succ, List.getElem_toArray, List.getElem_cons_succ, List.getElem_cons_zero]
            refine wpAnyH_take (i := 81) (v := .bool true) rfl (by as_aux_lemma => kernel_rfl) (by as_aux_lemma => kernel_rfl) (by as_aux_lemma => kernel_rfl) (fun _ _ _ h => h) (Or.inl ⟨by as_aux_lemma => kernel_rfl, ?_⟩) (by assumption) ?_
            · (intro w hSw; clear hSw; go_simp; try with_reducible rfl)
            try simp only [Act.put, List.setIfInBounds_toArray, List.set_cons_zero, List.set_cons_succ, List.getElem_toArray, List.getElem_cons_succ, List.getElem_cons_zero]
            refine wpAnyH_take (i := 82) (v := .bool true) rfl (by as_aux_lemma => kernel_rfl) (by as_aux_lemma => kernel_rfl) (by as_aux_lemma => kernel_rfl) (fun _ _ _ h => h) (Or.inl ⟨by as_aux_lemma => kernel_rfl, fun w _ => y_pick (.tmp 127) (.tmp 137) (.const (.bool false)) (by rfl) (by kernel_rfl) (by kernel_rfl) w⟩) (by assumption) ?_
            try simp only [Act.put, List.setIfInBounds_toArray, List.set_cons_zero, List.set_cons_succ, List.getElem_toArray, List.getElem_cons_succ, List.getElem_cons_zero]
            refine wpAnyH_take (i := 83) (v := .bool true) rfl (by as_aux_lemma => kernel_rfl) (by as_aux_lemma => kernel_rfl) (by as_aux_lemma => kernel_rfl) (fun _ _ _ h => h) (Or.inl ⟨by as_aux_lemma => kernel_rfl, fun w _ => y_move (.tmp 138) (by rfl) (by kernel_rfl) w⟩) (by assumption) ?_
            try simp only [Act.put, List.setIfInBounds_toArray, List.set_cons_zero, List.set_cons_succ, List.getElem_toArray, List.getElem_cons_succ, List.getElem_cons_zero]
            refine wpAnyH_take (i := 84) (v := .int .u32 M) rfl (by as_aux_lemma => kernel_rfl) (by as_aux_lemma => kernel_rfl) (by as_aux_lemma => kernel_rfl) (fun _ _ _ h => h) (Or.inl ⟨by as_aux_lemma => kernel_rfl, fun w _ => y_move (.tmp 20) (by rfl) (by kernel_rfl) w⟩) (by assumption) ?_
            try simp only [Act.put, List.setIfInBounds_toArray, List.set_cons_zero, List.set_cons_succ, List.getElem_toArray, List.getElem_cons_succ, List.getElem_cons_zero]
            refine wpAnyH_take (i := 85) (v := .int .i64 b) rfl (by as_aux_lemma => kernel_rfl) (by as_aux_lemma => kernel_rfl) (by as_aux_lemma => kernel_rfl) (fun _ _ _ h => h) (Or.inl ⟨by as_aux_lemma => kernel_rfl, ?_⟩) (by assumption) ?_
            · (intro w hSw; have k := hSw.1.hb; clear hSw; go_simp; try with_reducible rfl)
            try simp only [Act.put, List.setIfInBounds_toArray, List.set_cons_zero, List.set_cons_succ, List.getElem_toArray, List.getElem_cons_succ, List.getElem_cons_zero]
            refine wpAnyH_take (i := 86) (v := .pointer (some ⟨W.heap.size, b.toNat, none⟩)) rfl (by as_aux_lemma => kernel_rfl) (by as_aux_lemma => kernel_rfl) (by as_aux_lemma => kernel_rfl) (fun _ _ _ h => h) (Or.inl ⟨by as_aux_lemma => kernel_rfl, ?_⟩) (by assumption) ?_
            · (intro w hSw; have k := hSw.1.hr.cell Gx.out; clear hSw; go_simp; try with_reducible rfl)
            try simp only [Act.put, List.setIfInBounds_toArray, List.set_cons_zero, List.set_cons_succ, List.getElem_toArray, List.getElem_cons_succ, List.getElem_cons_zero]
            refine wpAnyH_take (i := 87) (v := .int .u32 X) rfl (by as_aux_lemma => kernel_rfl) (by as_aux_lemma => kernel_rfl) (by as_aux_lemma => kernel_rfl) (fun _ _ _ h => h) (Or.inl ⟨by as_aux_lemma => kernel_rfl, ?_⟩) (by assumption) ?_
            · (intro w hSw; have k := hSw.1.hr.cell Gx.out; clear hSw; go_simp; try with_reducible rfl)
            try simp only [Act.put, List.setIfInBounds_toArray, List.set_cons_zero, List.set_cons_succ, List.getElem_toArray, List.getElem_cons_succ, List.getElem_cons_zero]
            refine wpAnyH_take (i := 88) (v := .int .i64 c) rfl (by as_aux_lemma => kernel_rfl) (by as_aux_lemma => kernel_rfl) (by as_aux_lemma => kernel_rfl) (fun _ _ _ h => h) (Or.inl ⟨by as_aux_lemma => kernel_rfl, ?_⟩) (by assumption) ?_
            · (intro w hSw; have k := hSw.1.hc; clear hSw; go_simp; try with_reducible rfl)
            try simp only [Act.put, List.setIfInBounds_toArray, List.set_cons_zero, List.set_cons_succ, List.getElem_toArray, List.getElem_cons_succ, List.getElem_cons_zero]
            refine wpAnyH_take (i := 89) (v := .pointer (some ⟨W.heap.size, c.toNat, none⟩)) rfl (by as_aux_lemma => kernel_rfl) (by as_aux_lemma => kernel_rfl) (by as_aux_lemma => kernel_rfl) (fun _ _ _ h => h) (Or.inl ⟨by as_aux_lemma => kernel_rfl, ?_⟩) (by assumption) ?_
            · (intro w hSw; have k := hSw.1.hr.cell Gy.out; clear hSw; go_simp; try with_reducible rfl)
            try simp only [Act.put, List.setIfInBounds_toArray, List.set_cons_zero, List.set_cons_succ, List.getElem_toArray, List.getElem_cons_succ, List.getElem_cons_zero]
            refine wpAnyH_take (i := 90) (v := .int .u32 Y) rfl (by as_aux_lemma => kernel_rfl) (by as_aux_lemma => kernel_rfl) (by as_aux_lemma => kernel_rfl) (fun _ _ _ h => h) (Or.inl ⟨by as_aux_lemma => kernel_rfl, ?_⟩) (by assumption) ?_
            · (intro w hSw; have k := hSw.1.hr.cell Gy.out; clear hSw; go_simp; try with_reducible rfl)
            try simp only [Act.put, List.setIfInBounds_toArray, List.set_cons_zero, List.set_cons_succ, List.getElem_toArray, List.getElem_cons_succ, List.getElem_cons_zero]
            refine wpAnyH_take (i := 91) (v := .int .u32 M) rfl (by as_aux_lemma => kernel_rfl) (by as_aux_lemma => kernel_rfl) (by as_aux_lemma => kernel_rfl) (fun _ _ _ h => h) (Or.inl ⟨by as_aux_lemma => kernel_rfl, ?_⟩) (by assumption) ?_
            · (intro w hSw; clear hSw; go_simp; try with_reducible rfl)
            try simp only [Act.put, List.setIfInBounds_toArray, List.set_cons_zero, List.set_cons_succ, List.getElem_toArray, List.getElem_cons_succ, List.getElem_cons_zero]
            refine wpAnyH_take (i := 92) (v := .bool true) rfl (by as_aux_lemma => kernel_rfl) (by as_aux_lemma => kernel_rfl) (by as_aux_lemma => kernel_rfl) (fun _ _ _ h => h) (Or.inl ⟨by as_aux_lemma => kernel_rfl, ?_⟩) (by assumption) ?_
            · (intro w hSw; clear hSw; go_simp; try with_reducible rfl)
            try simp only [Act.put, List.setIfInBounds_toArray, List.set_cons_zero, List.set_cons_succ, List.getElem_toArray, List.getElem_cons_succ, List.getElem_cons_zero]
            refine wpAnyH_take (i := 93) (v := .bool true) rfl (by as_aux_lemma => kernel_rfl) (by as_aux_lemma => kernel_rfl) (by as_aux_lemma => kernel_rfl) (fun _ _ _ h => h) (Or.inl ⟨by as_aux_lemma => kernel_rfl, fun w _ => y_pick (.tmp 139) (.tmp 148) (.const (.bool false)) (by rfl) (by kernel_rfl) (by kernel_rfl) w⟩) (by assumption) ?_
            try simp only [Act.put, List.setIfInBounds_toArray, List.set_cons_zero, List.set_cons_succ, List.getElem_toArray, List.getElem_cons_succ, List.getElem_cons_zero]
            refine wpAnyH_take (i := 94) (v := .bool true) rfl (by as_aux_lemma => kernel_rfl) (by as_aux_lemma => kernel_rfl) (by as_aux_lemma => kernel_rfl) (fun _ _ _ h => h) (Or.inl ⟨by as_aux_lemma => kernel_rfl, fun w _ => y_assign (.tmp 149) (by rfl) (by kernel_rfl) w⟩) (by assumption) ?_
            try simp only [Act.put, List.setIfInBounds_toArray, List.set_cons_zero, List.set_cons_succ, List.getElem_toArray, List.getElem_cons_succ, List.getElem_cons_zero]
            refine wpAnyH_done (by kernel_rfl) ?_ _
            go_wp2
            go_ret
            exact ⟨rfl, grown_below hS0.2⟩
end Go.Proofs.Ytniahejdddoopaa
