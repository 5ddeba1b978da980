/- For every input the law IsaImm of this program returns true, and each argument reads afterwards as it read before. No condition of ours. -/
import Derived.Test.YtkmphiehfacddaaRows
import Derived.WalkKit
import Derived.ProofKit
import Derived.OpenShut
import Derived.Deep.Cut
import Derived.Deep.RegionHeld3
import Derived.Test.YtkmphiehfacddaaBase
import Derived.Test.YtkmphiehfacddaaIsa5
namespace Go.Proofs.Ytkmphiehfacddaa.isaImm
open Go.Proofs.Ytkmphiehfacddaa Go.ChangeShapes Go.WideShapes Go.ChangeAt Go.RowKit
set_option linter.unusedVariables false      -- a walk need not use every 'w<i>' (that an integer argument fits its kind)

theorem own : ownKnob Try.prog.godebug = none := by kernel_rfl

/-! the walk -/
set_option maxHeartbeats 4000000 in
theorem walk (a0 : Int) (a1 : Int) (w0 : (Lit.int .i64 a0).wf = true) (w1 : (Lit.int .u32 a1).wf = true) (w : World) :
    Calls Try.prog 5 #[.int .i64 a0, .int .u32 a1] w fun e w' => e = .returned (.bool true) ∧ Below w.heap.size w w' := by
  obtain ⟨u0, u1⟩ := u32_bd w1
  cases hc : (clsI a0 == 0)
  · cases ht : twoB a0
    · by_cases hj : a1 = 0
      · subst hj
        have hi : insB a0 0 0 0 0 = true := ins_one (by simpa using hc) ht 0 |>.trans (by simp)
        have hv := wordV_yes hi
        have hq : samI a0 0 0 0 0 a0 0 0 0 0 = true := by unfold samI; simp
        go_enter Try.func5, Try.ntmps5
        go_wp2_with fail
        refine (first_any _).mono ?_; rintro e wa ⟨rfl, hBa⟩
        have hsa := hBa.size
        go_wp2_with (first | (go_at_call 8; refine (tables_any _).mono ?_; rintro e w' ⟨rfl, rfl⟩) | (go_at_call 9; refine (class_any _ _).mono ?_; rintro e w' ⟨rfl, rfl⟩) | (go_at_call 11; refine (two_any _ _).mono ?_; rintro e w' ⟨rfl, rfl⟩))
        refine (word_any _ _ _ _ _ _).mono ?_; rintro e wb ⟨rfl, hb1⟩
        have hBb : Below w.heap.size w wb := (by refine Below.trans ?_ (hb1.mono ?_) <;> go_grown)
        have hsb := hBb.size
        have di := (At5.new _ _ _ _ _ _ _).below hb1
        clear hb1
        obtain ⟨zi, i0, i1, i2, i3, i4⟩ := di
        go_wp2_with (first | (go_at_call 8; refine (tables_any _).mono ?_; rintro e w' ⟨rfl, rfl⟩) | (go_at_call 9; refine (class_any _ _).mono ?_; rintro e w' ⟨rfl, rfl⟩) | (go_at_call 11; refine (two_any _ _).mono ?_; rintro e w' ⟨rfl, rfl⟩))
        refine (of_one _ _ _ hc ht).mono ?_; rintro e wc ⟨rfl, hb2⟩
        have hBc : Below w.heap.size w wc := (by refine Below.trans ?_ (hb2.mono ?_) <;> go_grown)
        have hsc := hBc.size
        have di := (((At5.mk zi i0 i1 i2 i3 i4).alloc _).alloc _).below hb2
        clear hb2 zi i0 i1 i2 i3 i4
        obtain ⟨zi, i0, i1, i2, i3, i4⟩ := di
        go_wp2_with (first | (go_at_call 8; refine (tables_any _).mono ?_; rintro e w' ⟨rfl, rfl⟩) | (go_at_call 9; refine (class_any _ _).mono ?_; rintro e w' ⟨rfl, rfl⟩) | (go_at_call 11; refine (two_any _ _).mono ?_; rintro e w' ⟨rfl, rfl⟩))
        refine (of_one _ _ _ hc ht).mono ?_; rintro e wd ⟨rfl, hb3⟩
        have hBd : Below w.heap.size w wd := (by refine Below.trans ?_ (hb3.mono ?_) <;> go_grown)
        have hsd := hBd.size
        have di := ((At5.mk zi i0 i1 i2 i3 i4).alloc _).below hb3
        have dx := (At5.new _ _ _ _ _ _ _).below hb3
        clear hb3 zi i0 i1 i2 i3 i4
        obtain ⟨zi, i0, i1, i2, i3, i4⟩ := di
        obtain ⟨zx, x0, x1, x2, x3, x4⟩ := dx
        simp only [World.size_alloc] at zi i0 i1 i2 i3 i4
        go_wp2_with fail
        have di := (At5.mk zi i0 i1 i2 i3 i4).alloc (.cells #[.int .i64 a0, .int .i64 0, .int .i64 0, .int .i64 0, .int .u32 0] 25)
        have dx := (At5.mk zx x0 x1 x2 x3 x4).alloc (.cells #[.int .i64 a0, .int .i64 0, .int .i64 0, .int .i64 0, .int .u32 0] 25)
        have dy := At5.new wd (.int .i64 a0) (.int .i64 0) (.int .i64 0) (.int .i64 0) (.int .u32 0) 25
        have hBe := hBd.alloc (Nat.le_trans hsd (Nat.le_refl _)) (.cells #[.int .i64 a0, .int .i64 0, .int .i64 0, .int .i64 0, .int .u32 0] 25)
        clear zi i0 i1 i2 i3 i4 zx x0 x1 x2 x3 x4
        obtain ⟨zi, i0, i1, i2, i3, i4⟩ := di
        obtain ⟨zx, x0, x1, x2, x3, x4⟩ := dx
        obtain ⟨zy, y0, y1, y2, y3, y4⟩ := dy
        go_region_held3 (fun W => wa.heap.size + 1 + 1 < W.heap.size ∧ W.cell? ⟨wa.heap.size + 1 + 1, 0, none⟩ = some (.int .i64 a0) ∧ W.cell? ⟨wa.heap.size + 1 + 1, 1, none⟩ = some (.int .i64 0) ∧ W.cell? ⟨wa.heap.size + 1 + 1, 2, none⟩ = some (.int .i64 0) ∧ W.cell? ⟨wa.heap.size + 1 + 1, 3, none⟩ = some (.int .i64 0) ∧ W.cell? ⟨wa.heap.size + 1 + 1, 4, none⟩ = some (.int .u32 0) ∧ wc.heap.size < W.heap.size ∧ W.cell? ⟨wc.heap.size, 0, none⟩ = some (.int .i64 a0) ∧ W.cell? ⟨wc.heap.size, 1, none⟩ = some (.int .i64 0) ∧ W.cell? ⟨wc.heap.size, 2, none⟩ = some (.int .i64 0) ∧ W.cell? ⟨wc.heap.size, 3, none⟩ = some (.int .i64 0) ∧ W.cell? ⟨wc.heap.size, 4, none⟩ = some (.int .u32 0) ∧ wd.heap.size < W.heap.size ∧ W.cell? ⟨wd.heap.size, 0, none⟩ = some (.int .i64 a0) ∧ W.cell? ⟨wd.heap.size, 1, none⟩ = some (.int .i64 0) ∧ W.cell? ⟨wd.heap.size, 2, none⟩ = some (.int .i64 0) ∧ W.cell? ⟨wd.heap.size, 3, none⟩ = some (.int .i64 0) ∧ W.cell? ⟨wd.heap.size, 4, none⟩ = some (.int .u32 0) ∧ Below w.heap.size w W) (first | (exact ⟨zi, i0, i1, i2, i3, i4, zx, x0, x1, x2, x3, x4, zy, y0, y1, y2, y3, y4, Below.drew hBe⟩) | (go_split_ands; (repeat' apply And.intro) <;> first | (refine Eq.trans (hb.cell ?_) ?_ <;> assumption) | (exact Nat.lt_of_lt_of_le (by assumption) hb.size) | (refine Below.trans (by assumption) (hb.mono ?_); exact Below.size (by assumption)))) (first | (go_at_call 16; refine (same_any _ _ _ _ _ _ _ _ _ _ _).mono ?_; rintro e w' ⟨rfl, hb⟩) | (go_at_call 11; refine (two_below _ _).mono ?_; rintro e w' ⟨rfl, hb⟩))
        go_wp2
        go_ret
        go_split_ands
        exact ⟨ret_b (by first | rfl | (unfold samI; simp; done) | (unfold samI; simp; omega)), by assumption⟩
      · have hi : insB a0 0 0 0 a1 = false := ins_one (by simpa using hc) ht a1 |>.trans (decide_eq_false hj)
        have hj' : (a1 == 0) = false := by simpa using hj
        clear hj
        go_enter Try.func5, Try.ntmps5
        go_wp2_with fail
        refine (first_any _).mono ?_; rintro e wa ⟨rfl, hBa⟩
        have hsa := hBa.size
        go_wp2_with (first | (go_at_call 8; refine (tables_any _).mono ?_; rintro e w' ⟨rfl, rfl⟩) | (go_at_call 9; refine (class_any _ _).mono ?_; rintro e w' ⟨rfl, rfl⟩) | (go_at_call 11; refine (two_any _ _).mono ?_; rintro e w' ⟨rfl, rfl⟩))
        refine (word_any _ _ _ _ _ _).mono ?_; rintro e wb ⟨rfl, hb1⟩
        have hBb : Below w.heap.size w wb := (by refine Below.trans ?_ (hb1.mono ?_) <;> go_grown)
        have hsb := hBb.size
        go_wp2_with (first | (go_at_call 8; refine (tables_any _).mono ?_; rintro e w' ⟨rfl, rfl⟩) | (go_at_call 9; refine (class_any _ _).mono ?_; rintro e w' ⟨rfl, rfl⟩) | (go_at_call 11; refine (two_any _ _).mono ?_; rintro e w' ⟨rfl, rfl⟩))
        go_ret
        exact ⟨rfl, by go_grown⟩
    · have hi := ins_two (by simpa using hc) ht a1
      have hv := wordV_yes hi
      have hq : samI a0 0 0 0 a1 a0 0 0 0 a1 = true := by unfold samI; simp
      have hne : (a1 + 1) % 4294967296 ≠ a1 := by omega
      go_enter Try.func5, Try.ntmps5
      go_wp2_with fail
      refine (first_any _).mono ?_; rintro e wa ⟨rfl, hBa⟩
      have hsa := hBa.size
      go_wp2_with (first | (go_at_call 8; refine (tables_any _).mono ?_; rintro e w' ⟨rfl, rfl⟩) | (go_at_call 9; refine (class_any _ _).mono ?_; rintro e w' ⟨rfl, rfl⟩) | (go_at_call 11; refine (two_any _ _).mono ?_; rintro e w' ⟨rfl, rfl⟩))
      refine (word_any _ _ _ _ _ _).mono ?_; rintro e wb ⟨rfl, hb1⟩
      have hBb : Below w.heap.size w wb := (by refine Below.trans ?_ (hb1.mono ?_) <;> go_grown)
      have hsb := hBb.size
      have di := (At5.new _ _ _ _ _ _ _).below hb1
      clear hb1
      obtain ⟨zi, i0, i1, i2, i3, i4⟩ := di
      go_wp2_with (first | (go_at_call 8; refine (tables_any _).mono ?_; rintro e w' ⟨rfl, rfl⟩) | (go_at_call 9; refine (class_any _ _).mono ?_; rintro e w' ⟨rfl, rfl⟩) | (go_at_call 11; refine (two_any _ _).mono ?_; rintro e w' ⟨rfl, rfl⟩))
      refine (of_two _ _ _ hc ht).mono ?_; rintro e wc ⟨rfl, hb2⟩
      have hBc : Below w.heap.size w wc := (by refine Below.trans ?_ (hb2.mono ?_) <;> go_grown)
      have hsc := hBc.size
      have di := (((At5.mk zi i0 i1 i2 i3 i4).alloc _).alloc _).below hb2
      clear hb2 zi i0 i1 i2 i3 i4
      obtain ⟨zi, i0, i1, i2, i3, i4⟩ := di
      go_wp2_with (first | (go_at_call 8; refine (tables_any _).mono ?_; rintro e w' ⟨rfl, rfl⟩) | (go_at_call 9; refine (class_any _ _).mono ?_; rintro e w' ⟨rfl, rfl⟩) | (go_at_call 11; refine (two_any _ _).mono ?_; rintro e w' ⟨rfl, rfl⟩))
      refine (of_two _ _ _ hc ht).mono ?_; rintro e wd ⟨rfl, hb3⟩
      have hBd : Below w.heap.size w wd := (by refine Below.trans ?_ (hb3.mono ?_) <;> go_grown)
      have hsd := hBd.size
      have di := ((At5.mk zi i0 i1 i2 i3 i4).alloc _).below hb3
      have dx := (At5.new _ _ _ _ _ _ _).below hb3
      clear hb3 zi i0 i1 i2 i3 i4
      obtain ⟨zi, i0, i1, i2, i3, i4⟩ := di
      obtain ⟨zx, x0, x1, x2, x3, x4⟩ := dx
      simp only [World.size_alloc] at zi i0 i1 i2 i3 i4
      go_wp2_with fail
      have di := (At5.mk zi i0 i1 i2 i3 i4).alloc (.cells #[.int .i64 a0, .int .i64 0, .int .i64 0, .int .i64 0, .int .u32 ((a1 + 1) % 4294967296)] 25)
      have dx := (At5.mk zx x0 x1 x2 x3 x4).alloc (.cells #[.int .i64 a0, .int .i64 0, .int .i64 0, .int .i64 0, .int .u32 ((a1 + 1) % 4294967296)] 25)
      have dy := At5.new wd (.int .i64 a0) (.int .i64 0) (.int .i64 0) (.int .i64 0) (.int .u32 ((a1 + 1) % 4294967296)) 25
      have hBe := hBd.alloc (Nat.le_trans hsd (Nat.le_refl _)) (.cells #[.int .i64 a0, .int .i64 0, .int .i64 0, .int .i64 0, .int .u32 ((a1 + 1) % 4294967296)] 25)
      clear zi i0 i1 i2 i3 i4 zx x0 x1 x2 x3 x4
      obtain ⟨zi, i0, i1, i2, i3, i4⟩ := di
      obtain ⟨zx, x0, x1, x2, x3, x4⟩ := dx
      obtain ⟨zy, y0, y1, y2, y3, y4⟩ := dy
      go_region_held3 (fun W => wa.heap.size + 1 + 1 < W.heap.size ∧ W.cell? ⟨wa.heap.size + 1 + 1, 0, none⟩ = some (.int .i64 a0) ∧ W.cell? ⟨wa.heap.size + 1 + 1, 1, none⟩ = some (.int .i64 0) ∧ W.cell? ⟨wa.heap.size + 1 + 1, 2, none⟩ = some (.int .i64 0) ∧ W.cell? ⟨wa.heap.size + 1 + 1, 3, none⟩ = some (.int .i64 0) ∧ W.cell? ⟨wa.heap.size + 1 + 1, 4, none⟩ = some (.int .u32 a1) ∧ wc.heap.size < W.heap.size ∧ W.cell? ⟨wc.heap.size, 0, none⟩ = some (.int .i64 a0) ∧ W.cell? ⟨wc.heap.size, 1, none⟩ = some (.int .i64 0) ∧ W.cell? ⟨wc.heap.size, 2, none⟩ = some (.int .i64 0) ∧ W.cell? ⟨wc.heap.size, 3, none⟩ = some (.int .i64 0) ∧ W.cell? ⟨wc.heap.size, 4, none⟩ = some (.int .u32 a1) ∧ wd.heap.size < W.heap.size ∧ W.cell? ⟨wd.heap.size, 0, none⟩ = some (.int .i64 a0) ∧ W.cell? ⟨wd.heap.size, 1, none⟩ = some (.int .i64 0) ∧ W.cell? ⟨wd.heap.size, 2, none⟩ = some (.int .i64 0) ∧ W.cell? ⟨wd.heap.size, 3, none⟩ = some (.int .i64 0) ∧ W.cell? ⟨wd.heap.size, 4, none⟩ = some (.int .u32 ((a1 + 1) % 4294967296)) ∧ Below w.heap.size w W) (first | (exact ⟨zi, i0, i1, i2, i3, i4, zx, x0, x1, x2, x3, x4, zy, y0, y1, y2, y3, y4, Below.drew hBe⟩) | (go_split_ands; (repeat' apply And.intro) <;> first | (refine Eq.trans (hb.cell ?_) ?_ <;> assumption) | (exact Nat.lt_of_lt_of_le (by assumption) hb.size) | (refine Below.trans (by assumption) (hb.mono ?_); exact Below.size (by assumption)))) (first | (go_at_call 16; refine (same_any _ _ _ _ _ _ _ _ _ _ _).mono ?_; rintro e w' ⟨rfl, hb⟩) | (go_at_call 11; refine (two_below _ _).mono ?_; rintro e w' ⟨rfl, hb⟩))
      go_wp2
      go_ret
      go_split_ands
      exact ⟨ret_b (by first | rfl | (unfold samI; simp; done) | (unfold samI; simp; omega)), by assumption⟩
  · have hi : insB a0 0 0 0 a1 = false := by unfold insB; simp at hc; simp [hc]
    go_enter Try.func5, Try.ntmps5
    go_wp2_with fail
    refine (first_any _).mono ?_; rintro e wa ⟨rfl, hBa⟩
    have hsa := hBa.size
    go_wp2_with (first | (go_at_call 8; refine (tables_any _).mono ?_; rintro e w' ⟨rfl, rfl⟩) | (go_at_call 9; refine (class_any _ _).mono ?_; rintro e w' ⟨rfl, rfl⟩) | (go_at_call 11; refine (two_any _ _).mono ?_; rintro e w' ⟨rfl, rfl⟩))
    refine (word_any _ _ _ _ _ _).mono ?_; rintro e wb ⟨rfl, hb1⟩
    have hBb : Below w.heap.size w wb := (by refine Below.trans ?_ (hb1.mono ?_) <;> go_grown)
    have hsb := hBb.size
    go_wp2_with (first | (go_at_call 8; refine (tables_any _).mono ?_; rintro e w' ⟨rfl, rfl⟩) | (go_at_call 9; refine (class_any _ _).mono ?_; rintro e w' ⟨rfl, rfl⟩) | (go_at_call 11; refine (two_any _ _).mono ?_; rintro e w' ⟨rfl, rfl⟩))
    go_ret
    exact ⟨rfl, by go_grown⟩

/-! the row's step -/
set_option maxRecDepth 100000 in
theorem lifted (os : Os) (started : os.Started) (H : Type) (enc : TypeId × Value → H) :
    ReturnsInHanded {} Try.checked os 5 .any (Rows.isaImmSpec.pre6 enc Try.prog Try.f5 Rows.isaImmRow.domain false) (Rows.isaImmSpec.post enc Try.prog Try.f5 false true false false) := by
  refine returnsInHanded_of_change (C := Try.checked) own started (by kernel_rfl) Try.func5
    (ChangeSpec.witness6 (enc := enc) (C := Try.checked) false ⟨#[], #[.int .i64 0, .int .u32 0], []⟩ 8 (by kernel_rfl) (by kernel_rfl) (by kernel_rfl) (by kernel_rfl)) ?_
  intro W base args ds gs before hval0 hW hcnd _
  have hval : ∀ (j : Nat) t v, Try.f5.params[j]? = some t → args[j]? = some v → Value.okWide Try.prog W .any base t v := hval0
  have hW' := hW
  obtain ⟨p, q, hA0, hV, rfl, hfz, hnd⟩ := hW
  have hA : DataW.TrodAll enc Try.prog W 0 (fun _ => true) true Try.f5.params.toList args.toList ds p := hA0
  rw [Try.params5] at hA hval
  obtain ⟨v0, vs0, d0, ds0, p0, q0, hargs, rfl, rfl, h0, r0⟩ := trodAll_cons hA
  obtain ⟨v1, vs1, d1, ds1, p1, q1, rfl, rfl, rfl, h1, r1⟩ := trodAll_cons r0
  obtain ⟨rfl, rfl, rfl⟩ := trodAll_nil r1
  obtain rfl : args = #[v0, v1] := by cases args; simp_all
  obtain ⟨rfl, rfl⟩ := trodVars_none hV
  obtain ⟨a0, rfl, rfl, rfl, w0⟩ := open_int Try.underlying3 (hval 0 3 v0 rfl rfl) h0
  obtain ⟨a1, rfl, rfl, rfl, w1⟩ := open_int Try.underlying22 (hval 1 22 v1 rfl rfl) h1
  clear hA0 hval0
  simp only [List.append_nil] at hW'
  refine (walk a0 a1 w0 w1 W).mono fun e W' ⟨he, hg⟩ => ?_
  subst he
  exact ⟨_, rfl, post_of_below (pa := []) (pv := []) hW' (fun _ _ _ => (trodAll_cons_mk (shut_bool Try.underlying4 _) trodAll_mk0)) (fun sp _ => (trodAll_cons_mk (shut_int Try.underlying3 w0) (trodAll_cons_mk (shut_int Try.underlying22 w1) trodAll_mk0))) (fun _ _ => rfl) rfl
    hg (ok_one (by kernel_rfl) rfl (okWide_bool_mk Try.underlying4 _))⟩

theorem over : Rows.isaImmRow.holds Try.pinned (OpenSpec.ofChange Rows.isaImmSpec) :=
  OpenClaim.holds_of_wide 5 Try.f5 rfl rfl rfl rfl rfl rfl rfl ⟨rfl, rfl, rfl, rfl, rfl⟩ rfl rfl rfl rfl rfl (by kernel_rfl) Try.func5 (by kernel_rfl)
    (of_decide_eq_true (by kernel_rfl)) (by unfold Func.isWrapper; first | (rw [if_pos (by decide +kernel)]; kernel_rfl) | (rw [if_neg (by decide +kernel)]; exact ⟨rfl, rfl⟩))
    (fun os started H enc _ => lifted os started H enc)

/-- the statement -/
theorem isaImm_holds : Rows.IsaImmSaid :=
  over
#print axioms isaImm_holds
end Go.Proofs.Ytkmphiehfacddaa.isaImm
