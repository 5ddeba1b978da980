/- For every input the law IsaClasses of this program returns true, and each argument reads afterwards as it read before. No condition of ours. -/
import Derived.Test.YtkmphiehfacddaaRows
import Derived.WalkKit
import Derived.ProofKit
import Derived.OpenShut
import Derived.Deep.Cut
import Derived.Deep.RegionHeld3
import Derived.Test.YtkmphiehfacddaaBase
import Derived.Test.YtkmphiehfacddaaIsa5
namespace Go.Proofs.Ytkmphiehfacddaa.isaClasses
open Go.Proofs.Ytkmphiehfacddaa Go.ChangeShapes Go.WideShapes Go.ChangeAt Go.RowKit
set_option linter.unusedVariables false      -- a walk need not use every 'w<i>' (that an integer argument fits its kind)

theorem own : ownKnob Try.prog.godebug = none := by kernel_rfl

/-! the walk -/
set_option maxHeartbeats 4000000 in
theorem walk (a0 : Int) (a1 : Int) (a2 : Int) (w0 : (Lit.int .u32 a0).wf = true) (w1 : (Lit.int .u32 a1).wf = true) (w2 : (Lit.int .i64 a2).wf = true) (w : World) :
    Calls Try.prog 3 #[.int .u32 a0, .int .u32 a1, .int .i64 a2] w fun e w' => e = .returned (.bool true) ∧ Below w.heap.size w w' := by
  obtain ⟨u0, u1⟩ := u32_bd w0
  obtain ⟨u2, u3⟩ := i64_bd w2
  have k0 : clsI 0 = 0 := by decide
  have k1 : clsI 200 = 0 := by decide
  have k2 : clsI (-1) = 0 := by decide
  have E := i64_and255
  have E2 : (wrap64 ((a2 + 128) % 256 - 128 - a2) % 256 == 0) = true := by simp [wrap64]; omega
  have d0 : -128 ≤ (a2 + 128) % 256 - 128 := by omega
  have d1 : (a2 + 128) % 256 - 128 ≤ 127 := by omega
  cases h : insB (a0 / 16777216) (a0 / 65536 % 256) (a0 / 256 % 256) (a0 % 256) (wantImm (a0 / 16777216) a1)
  · go_enter Try.func3, Try.ntmps3
    go_wp2_with fail
    refine (first_any _).mono ?_; rintro e wa ⟨rfl, hBa⟩
    have hsa := hBa.size
    go_wp2_with (first | (go_at_call 8; refine (tables_any _).mono ?_; rintro e w' ⟨rfl, rfl⟩) | (go_at_call 9; refine (class_any _ _).mono ?_; rintro e w' ⟨rfl, rfl⟩) | (go_at_call 11; refine (two_any _ _).mono ?_; rintro e w' ⟨rfl, rfl⟩) | (go_at_call 12; refine (jumps_any _ _).mono ?_; rintro e w' ⟨rfl, rfl⟩) | (go_at_call 13; refine (disp_any _ _).mono ?_; rintro e w' ⟨rfl, rfl⟩))
    refine (of_no a0 a1 _ u0 (by omega) h).mono ?_; rintro e wb ⟨rfl, hb1⟩
    have hBb : Below w.heap.size w wb := (by refine Below.trans ?_ (hb1.mono ?_) <;> go_grown)
    have hsb := hBb.size
    clear hb1
    go_wp2_with (first | (go_at_call 8; refine (tables_any _).mono ?_; rintro e w' ⟨rfl, rfl⟩) | (go_at_call 9; refine (class_any _ _).mono ?_; rintro e w' ⟨rfl, rfl⟩) | (go_at_call 11; refine (two_any _ _).mono ?_; rintro e w' ⟨rfl, rfl⟩) | (go_at_call 12; refine (jumps_any _ _).mono ?_; rintro e w' ⟨rfl, rfl⟩) | (go_at_call 13; refine (disp_any _ _).mono ?_; rintro e w' ⟨rfl, rfl⟩))
    go_ret
    exact ⟨rfl, by go_grown⟩
  · have hx := wrd_back a0
    generalize a0 / 16777216 = o at h hx
    generalize a0 / 65536 % 256 = a at h hx
    generalize a0 / 256 % 256 = b at h hx
    generalize a0 % 256 = c at h hx
    subst hx
    have hv := wordV_yes h
    obtain ⟨hk, _, _, _, _⟩ := ins_parts h
    have q1 : 1 ≤ clsI o := cls_lo hk
    have q2 : clsI o ≤ 4 := cls_hi o
    have q0 : 1 ≤ o := (cls_bd hk).1
    have q3 : (o != 0) = true := by simp; omega
    clear hk
    cases hj : jmpB o <;> cases ht : twoB o
    · have hw := wantImm_no (imm := a1) ht
      rw [hw] at h hv
      go_enter Try.func3, Try.ntmps3
      go_wp2_with fail
      refine (first_any _).mono ?_; rintro e wa ⟨rfl, hBa⟩
      have hsa := hBa.size
      go_wp2_with (first | (go_at_call 8; refine (tables_any _).mono ?_; rintro e w' ⟨rfl, rfl⟩) | (go_at_call 9; refine (class_any _ _).mono ?_; rintro e w' ⟨rfl, rfl⟩) | (go_at_call 11; refine (two_any _ _).mono ?_; rintro e w' ⟨rfl, rfl⟩) | (go_at_call 12; refine (jumps_any _ _).mono ?_; rintro e w' ⟨rfl, rfl⟩) | (go_at_call 13; refine (disp_any _ _).mono ?_; rintro e w' ⟨rfl, rfl⟩))
      refine (of_wrd' (t := 0) o a b c a1 _ hw h).mono ?_; rintro e wb ⟨rfl, hb1⟩
      have hBb : Below w.heap.size w wb := (by refine Below.trans ?_ (hb1.mono ?_) <;> go_grown)
      have hsb := hBb.size
      clear hb1
      skip
      go_wp2_with (first | (go_at_call 8; refine (tables_any _).mono ?_; rintro e w' ⟨rfl, rfl⟩) | (go_at_call 9; refine (class_any _ _).mono ?_; rintro e w' ⟨rfl, rfl⟩) | (go_at_call 11; refine (two_any _ _).mono ?_; rintro e w' ⟨rfl, rfl⟩) | (go_at_call 12; refine (jumps_any _ _).mono ?_; rintro e w' ⟨rfl, rfl⟩) | (go_at_call 13; refine (disp_any _ _).mono ?_; rintro e w' ⟨rfl, rfl⟩))
      refine (word_any _ _ _ _ _ _).mono ?_; rintro e wc ⟨rfl, hb2⟩
      have hBc : Below w.heap.size w wc := (by refine Below.trans ?_ (hb2.mono ?_) <;> go_grown)
      have hsc := hBc.size
      have di : At5 wc wb.heap.size (.int .i64 o) (.int .i64 a) (.int .i64 b) (.int .i64 c) (.int .u32 0) := At5.below (by repeat (first | exact At5.new _ _ _ _ _ _ _ | apply At5.alloc)) hb2
      clear hb2
      obtain ⟨zi, i0, i1, i2, i3, i4⟩ := di
      go_wp2_with (first | (go_at_call 8; refine (tables_any _).mono ?_; rintro e w' ⟨rfl, rfl⟩) | (go_at_call 9; refine (class_any _ _).mono ?_; rintro e w' ⟨rfl, rfl⟩) | (go_at_call 11; refine (two_any _ _).mono ?_; rintro e w' ⟨rfl, rfl⟩) | (go_at_call 12; refine (jumps_any _ _).mono ?_; rintro e w' ⟨rfl, rfl⟩) | (go_at_call 13; refine (disp_any _ _).mono ?_; rintro e w' ⟨rfl, rfl⟩))
      go_ret
      exact ⟨rfl, by go_grown⟩
    · have hw := wantImm_yes (imm := a1) ht
      rw [hw] at h hv
      go_enter Try.func3, Try.ntmps3
      go_wp2_with fail
      refine (first_any _).mono ?_; rintro e wa ⟨rfl, hBa⟩
      have hsa := hBa.size
      go_wp2_with (first | (go_at_call 8; refine (tables_any _).mono ?_; rintro e w' ⟨rfl, rfl⟩) | (go_at_call 9; refine (class_any _ _).mono ?_; rintro e w' ⟨rfl, rfl⟩) | (go_at_call 11; refine (two_any _ _).mono ?_; rintro e w' ⟨rfl, rfl⟩) | (go_at_call 12; refine (jumps_any _ _).mono ?_; rintro e w' ⟨rfl, rfl⟩) | (go_at_call 13; refine (disp_any _ _).mono ?_; rintro e w' ⟨rfl, rfl⟩))
      refine (of_wrd' (t := a1) o a b c a1 _ hw h).mono ?_; rintro e wb ⟨rfl, hb1⟩
      have hBb : Below w.heap.size w wb := (by refine Below.trans ?_ (hb1.mono ?_) <;> go_grown)
      have hsb := hBb.size
      clear hb1
      skip
      go_wp2_with (first | (go_at_call 8; refine (tables_any _).mono ?_; rintro e w' ⟨rfl, rfl⟩) | (go_at_call 9; refine (class_any _ _).mono ?_; rintro e w' ⟨rfl, rfl⟩) | (go_at_call 11; refine (two_any _ _).mono ?_; rintro e w' ⟨rfl, rfl⟩) | (go_at_call 12; refine (jumps_any _ _).mono ?_; rintro e w' ⟨rfl, rfl⟩) | (go_at_call 13; refine (disp_any _ _).mono ?_; rintro e w' ⟨rfl, rfl⟩))
      refine (word_any _ _ _ _ _ _).mono ?_; rintro e wc ⟨rfl, hb2⟩
      have hBc : Below w.heap.size w wc := (by refine Below.trans ?_ (hb2.mono ?_) <;> go_grown)
      have hsc := hBc.size
      have di : At5 wc wb.heap.size (.int .i64 o) (.int .i64 a) (.int .i64 b) (.int .i64 c) (.int .u32 a1) := At5.below (by repeat (first | exact At5.new _ _ _ _ _ _ _ | apply At5.alloc)) hb2
      clear hb2
      obtain ⟨zi, i0, i1, i2, i3, i4⟩ := di
      go_wp2_with (first | (go_at_call 8; refine (tables_any _).mono ?_; rintro e w' ⟨rfl, rfl⟩) | (go_at_call 9; refine (class_any _ _).mono ?_; rintro e w' ⟨rfl, rfl⟩) | (go_at_call 11; refine (two_any _ _).mono ?_; rintro e w' ⟨rfl, rfl⟩) | (go_at_call 12; refine (jumps_any _ _).mono ?_; rintro e w' ⟨rfl, rfl⟩) | (go_at_call 13; refine (disp_any _ _).mono ?_; rintro e w' ⟨rfl, rfl⟩))
      go_ret
      exact ⟨rfl, by go_grown⟩
    · have hw := wantImm_no (imm := a1) ht
      rw [hw] at h hv
      have hq := jmp_cls hj
      go_enter Try.func3, Try.ntmps3
      go_wp2_with fail
      refine (first_any _).mono ?_; rintro e wa ⟨rfl, hBa⟩
      have hsa := hBa.size
      go_wp2_with (first | (go_at_call 8; refine (tables_any _).mono ?_; rintro e w' ⟨rfl, rfl⟩) | (go_at_call 9; refine (class_any _ _).mono ?_; rintro e w' ⟨rfl, rfl⟩) | (go_at_call 11; refine (two_any _ _).mono ?_; rintro e w' ⟨rfl, rfl⟩) | (go_at_call 12; refine (jumps_any _ _).mono ?_; rintro e w' ⟨rfl, rfl⟩) | (go_at_call 13; refine (disp_any _ _).mono ?_; rintro e w' ⟨rfl, rfl⟩))
      refine (of_wrd' (t := 0) o a b c a1 _ hw h).mono ?_; rintro e wb ⟨rfl, hb1⟩
      have hBb : Below w.heap.size w wb := (by refine Below.trans ?_ (hb1.mono ?_) <;> go_grown)
      have hsb := hBb.size
      clear hb1
      skip
      go_wp2_with (first | (go_at_call 8; refine (tables_any _).mono ?_; rintro e w' ⟨rfl, rfl⟩) | (go_at_call 9; refine (class_any _ _).mono ?_; rintro e w' ⟨rfl, rfl⟩) | (go_at_call 11; refine (two_any _ _).mono ?_; rintro e w' ⟨rfl, rfl⟩) | (go_at_call 12; refine (jumps_any _ _).mono ?_; rintro e w' ⟨rfl, rfl⟩) | (go_at_call 13; refine (disp_any _ _).mono ?_; rintro e w' ⟨rfl, rfl⟩))
      refine (word_any _ _ _ _ _ _).mono ?_; rintro e wc ⟨rfl, hb2⟩
      have hBc : Below w.heap.size w wc := (by refine Below.trans ?_ (hb2.mono ?_) <;> go_grown)
      have hsc := hBc.size
      have di : At5 wc wb.heap.size (.int .i64 o) (.int .i64 a) (.int .i64 b) (.int .i64 c) (.int .u32 0) := At5.below (by repeat (first | exact At5.new _ _ _ _ _ _ _ | apply At5.alloc)) hb2
      clear hb2
      obtain ⟨zi, i0, i1, i2, i3, i4⟩ := di
      go_wp2_with (first | (go_at_call 8; refine (tables_any _).mono ?_; rintro e w' ⟨rfl, rfl⟩) | (go_at_call 9; refine (class_any _ _).mono ?_; rintro e w' ⟨rfl, rfl⟩) | (go_at_call 11; refine (two_any _ _).mono ?_; rintro e w' ⟨rfl, rfl⟩) | (go_at_call 12; refine (jumps_any _ _).mono ?_; rintro e w' ⟨rfl, rfl⟩) | (go_at_call 13; refine (disp_any _ _).mono ?_; rintro e w' ⟨rfl, rfl⟩))
      go_ret
      exact ⟨rfl, by go_grown⟩
    · have hw := wantImm_yes (imm := a1) ht
      rw [hw] at h hv
      have hq := jmp_cls hj
      go_enter Try.func3, Try.ntmps3
      go_wp2_with fail
      refine (first_any _).mono ?_; rintro e wa ⟨rfl, hBa⟩
      have hsa := hBa.size
      go_wp2_with (first | (go_at_call 8; refine (tables_any _).mono ?_; rintro e w' ⟨rfl, rfl⟩) | (go_at_call 9; refine (class_any _ _).mono ?_; rintro e w' ⟨rfl, rfl⟩) | (go_at_call 11; refine (two_any _ _).mono ?_; rintro e w' ⟨rfl, rfl⟩) | (go_at_call 12; refine (jumps_any _ _).mono ?_; rintro e w' ⟨rfl, rfl⟩) | (go_at_call 13; refine (disp_any _ _).mono ?_; rintro e w' ⟨rfl, rfl⟩))
      refine (of_wrd' (t := a1) o a b c a1 _ hw h).mono ?_; rintro e wb ⟨rfl, hb1⟩
      have hBb : Below w.heap.size w wb := (by refine Below.trans ?_ (hb1.mono ?_) <;> go_grown)
      have hsb := hBb.size
      clear hb1
      skip
      go_wp2_with (first | (go_at_call 8; refine (tables_any _).mono ?_; rintro e w' ⟨rfl, rfl⟩) | (go_at_call 9; refine (class_any _ _).mono ?_; rintro e w' ⟨rfl, rfl⟩) | (go_at_call 11; refine (two_any _ _).mono ?_; rintro e w' ⟨rfl, rfl⟩) | (go_at_call 12; refine (jumps_any _ _).mono ?_; rintro e w' ⟨rfl, rfl⟩) | (go_at_call 13; refine (disp_any _ _).mono ?_; rintro e w' ⟨rfl, rfl⟩))
      refine (word_any _ _ _ _ _ _).mono ?_; rintro e wc ⟨rfl, hb2⟩
      have hBc : Below w.heap.size w wc := (by refine Below.trans ?_ (hb2.mono ?_) <;> go_grown)
      have hsc := hBc.size
      have di : At5 wc wb.heap.size (.int .i64 o) (.int .i64 a) (.int .i64 b) (.int .i64 c) (.int .u32 a1) := At5.below (by repeat (first | exact At5.new _ _ _ _ _ _ _ | apply At5.alloc)) hb2
      clear hb2
      obtain ⟨zi, i0, i1, i2, i3, i4⟩ := di
      go_wp2_with (first | (go_at_call 8; refine (tables_any _).mono ?_; rintro e w' ⟨rfl, rfl⟩) | (go_at_call 9; refine (class_any _ _).mono ?_; rintro e w' ⟨rfl, rfl⟩) | (go_at_call 11; refine (two_any _ _).mono ?_; rintro e w' ⟨rfl, rfl⟩) | (go_at_call 12; refine (jumps_any _ _).mono ?_; rintro e w' ⟨rfl, rfl⟩) | (go_at_call 13; refine (disp_any _ _).mono ?_; rintro e w' ⟨rfl, rfl⟩))
      go_ret
      exact ⟨rfl, by go_grown⟩

/-! the row's step -/
set_option maxRecDepth 100000 in
theorem lifted (os : Os) (started : os.Started) (H : Type) (enc : TypeId × Value → H) :
    ReturnsInHanded {} Try.checked os 3 .any (Rows.isaClassesSpec.pre6 enc Try.prog Try.f3 Rows.isaClassesRow.domain false) (Rows.isaClassesSpec.post enc Try.prog Try.f3 false true false false) := by
  refine returnsInHanded_of_change (C := Try.checked) own started (by kernel_rfl) Try.func3
    (ChangeSpec.witness6 (enc := enc) (C := Try.checked) false ⟨#[], #[.int .u32 0, .int .u32 0, .int .i64 0], []⟩ 8 (by kernel_rfl) (by kernel_rfl) (by kernel_rfl) (by kernel_rfl)) ?_
  intro W base args ds gs before hval0 hW hcnd _
  have hval : ∀ (j : Nat) t v, Try.f3.params[j]? = some t → args[j]? = some v → Value.okWide Try.prog W .any base t v := hval0
  have hW' := hW
  obtain ⟨p, q, hA0, hV, rfl, hfz, hnd⟩ := hW
  have hA : DataW.TrodAll enc Try.prog W 0 (fun _ => true) true Try.f3.params.toList args.toList ds p := hA0
  rw [Try.params3] at hA hval
  obtain ⟨v0, vs0, d0, ds0, p0, q0, hargs, rfl, rfl, h0, r0⟩ := trodAll_cons hA
  obtain ⟨v1, vs1, d1, ds1, p1, q1, rfl, rfl, rfl, h1, r1⟩ := trodAll_cons r0
  obtain ⟨v2, vs2, d2, ds2, p2, q2, rfl, rfl, rfl, h2, r2⟩ := trodAll_cons r1
  obtain ⟨rfl, rfl, rfl⟩ := trodAll_nil r2
  obtain rfl : args = #[v0, v1, v2] := by cases args; simp_all
  obtain ⟨rfl, rfl⟩ := trodVars_none hV
  obtain ⟨a0, rfl, rfl, rfl, w0⟩ := open_int Try.underlying22 (hval 0 22 v0 rfl rfl) h0
  obtain ⟨a1, rfl, rfl, rfl, w1⟩ := open_int Try.underlying22 (hval 1 22 v1 rfl rfl) h1
  obtain ⟨a2, rfl, rfl, rfl, w2⟩ := open_int Try.underlying3 (hval 2 3 v2 rfl rfl) h2
  clear hA0 hval0
  simp only [List.append_nil] at hW'
  refine (walk a0 a1 a2 w0 w1 w2 W).mono fun e W' ⟨he, hg⟩ => ?_
  subst he
  exact ⟨_, rfl, post_of_below (pa := []) (pv := []) hW' (fun _ _ _ => (trodAll_cons_mk (shut_bool Try.underlying4 _) trodAll_mk0)) (fun sp _ => (trodAll_cons_mk (shut_int Try.underlying22 w0) (trodAll_cons_mk (shut_int Try.underlying22 w1) (trodAll_cons_mk (shut_int Try.underlying3 w2) trodAll_mk0)))) (fun _ _ => rfl) rfl
    hg (ok_one (by kernel_rfl) rfl (okWide_bool_mk Try.underlying4 _))⟩

theorem over : Rows.isaClassesRow.holds Try.pinned (OpenSpec.ofChange Rows.isaClassesSpec) :=
  OpenClaim.holds_of_wide 3 Try.f3 rfl rfl rfl rfl rfl rfl rfl ⟨rfl, rfl, rfl, rfl, rfl⟩ rfl rfl rfl rfl rfl (by kernel_rfl) Try.func3 (by kernel_rfl)
    (of_decide_eq_true (by kernel_rfl)) (by unfold Func.isWrapper; first | (rw [if_pos (by decide +kernel)]; kernel_rfl) | (rw [if_neg (by decide +kernel)]; exact ⟨rfl, rfl⟩))
    (fun os started H enc _ => lifted os started H enc)

/-- the statement -/
theorem isaClasses_holds : Rows.IsaClassesSaid :=
  over
#print axioms isaClasses_holds
end Go.Proofs.Ytkmphiehfacddaa.isaClasses
