/- The walk of the law IsaSays. -/
import Derived.Test.YtkmphiehfacddaaDoorRef2
import Derived.Test.YtkmphiehfacddaaDoorRef4
import Derived.Deep.QuietTactic
import Derived.BigQuiet
namespace Go.Proofs.YtkmphiehfacddaaDoor
open Go.RowKit
theorem disp_below (c : Int) (w : World) :
    Calls Tryd.prog 18 #[.int .i64 c] w fun e w' => e = .returned (.int .i64 ((c + 128) % 256 - 128)) ∧ Below w.heap.size w w' :=
  (disp_any c w).mono fun _ _ ⟨he, hw⟩ => ⟨he, by rw [← hw]; exact Below.refl _ _⟩
theorem tables_below (w : World) :
    Calls Tryd.prog 10 #[] w fun e w' => e = .returned (.agg #[]) ∧ Below w.heap.size w w' :=
  (tables_any w).mono fun _ _ ⟨he, hw⟩ => ⟨he, by rw [hw]; exact (Below.refl _ _).alloc (Nat.le_refl _) _⟩
theorem rdisp_below (c : Int) (w : World) :
    Calls Tryd.prog 19 #[.int .i64 c] w fun e w' => e = .returned (.int .i64 ((c + 128) % 256 - 128)) ∧ Below w.heap.size w w' :=
  (rdisp_any c w).mono fun _ _ ⟨he, hw⟩ => ⟨he, by rw [← hw]; exact Below.refl _ _⟩

set_option maxHeartbeats 4000000 in
theorem says_yes (o a b c i : Nat) (x imm p c' : Int) (w : World) (hv : Vars w) (hx0 : 0 ≤ x) (hx1 : x < 4294967296) (hi : i < 4294967296) (hI : insB o a b c i = true) (ok : Bool) (hO : insB (x / 16777216) (x / 65536 % 256) (x / 256 % 256) (x % 256) (wantImm (x / 16777216) imm) = ok) :
    Calls Tryd.prog 3 #[.agg #[.int .i64 o, .int .i64 a, .int .i64 b, .int .i64 c, .int .u32 i], .int .u32 x, .int .u32 imm, .int .i64 p, .int .i64 c'] w fun e w' => e = .returned (.bool true) ∧ Below w.heap.size w w' := by
  have hqy : samI (x / 16777216) (x / 65536 % 256) (x / 256 % 256) (x % 256) (wantImm (x / 16777216) imm) (x / 16777216) (x / 65536 % 256) (x / 256 % 256) (x % 256) (wantImm (x / 16777216) imm) = true := by simp [samI]
  have hqn : samI 0 0 0 0 0 0 0 0 0 0 = true := by decide
  have hi5 : At5 (w.alloc (.cells #[.int .i64 o, .int .i64 a, .int .i64 b, .int .i64 c, .int .u32 i] 24)) w.heap.size (.int .i64 o) (.int .i64 a) (.int .i64 b) (.int .i64 c) (.int .u32 i) := At5.new _ _ _ _ _ _ _
  have hB5 : Below w.heap.size w (w.alloc (.cells #[.int .i64 o, .int .i64 a, .int .i64 b, .int .i64 c, .int .u32 i] 24)) := (Below.refl _ _).alloc (Nat.le_refl _) _
  have hV5 := hv.below hB5
  have hs5 := hB5.size
  cases ok
  all_goals
    go_enter Tryd.func3, Tryd.ntmps3
    go_wp2_with fail
    refine (first_any _).mono ?_; rintro e wa ⟨rfl, hcb⟩
    have hi5 : At5 wa w.heap.size (.int .i64 o) (.int .i64 a) (.int .i64 b) (.int .i64 c) (.int .u32 i) := At5.below (by repeat (first | exact hi5 | apply At5.alloc)) hcb
    have hV5 : Vars wa := (Vars.below hV5 (by go_grown)).below hcb
    have hB5 : Below w.heap.size w wa := (by refine Below.trans ?_ (hcb.mono ?_) <;> go_grown)
    have hs5 := hB5.size
    obtain ⟨zi, i0, i1, i2, i3, i4⟩ := hi5
    have hi5 := At5.mk zi i0 i1 i2 i3 i4
    clear hcb
    go_wp2_with fail
    refine (word_any _ _ _ _ _ _).mono ?_; rintro e wb ⟨rfl, hcb⟩
    have hi5 : At5 wb w.heap.size (.int .i64 o) (.int .i64 a) (.int .i64 b) (.int .i64 c) (.int .u32 i) := At5.below (by repeat (first | exact hi5 | apply At5.alloc)) hcb
    have hV5 : Vars wb := (Vars.below hV5 (by go_grown)).below hcb
    have hB5 : Below w.heap.size w wb := (by refine Below.trans ?_ (hcb.mono ?_) <;> go_grown)
    have hs5 := hB5.size
    obtain ⟨zi, i0, i1, i2, i3, i4⟩ := hi5
    have hi5 := At5.mk zi i0 i1 i2 i3 i4
    clear hcb
    go_wp2_with fail
    refine (rword_any _ _ _ _ _ _).mono ?_; rintro e wc ⟨rfl, hcb⟩
    have hi5 : At5 wc w.heap.size (.int .i64 o) (.int .i64 a) (.int .i64 b) (.int .i64 c) (.int .u32 i) := At5.below (by repeat (first | exact hi5 | apply At5.alloc)) hcb
    have hV5 : Vars wc := (Vars.below hV5 (by go_grown)).below hcb
    have hB5 : Below w.heap.size w wc := (by refine Below.trans ?_ (hcb.mono ?_) <;> go_grown)
    have hs5 := hB5.size
    obtain ⟨zi, i0, i1, i2, i3, i4⟩ := hi5
    have hi5 := At5.mk zi i0 i1 i2 i3 i4
    clear hcb
    go_wp2_with fail
    first | (refine (of_yes x imm _ hx0 hx1 hO).mono ?_) | (refine (of_no x imm _ hx0 hx1 hO).mono ?_)
    rintro e wd ⟨rfl, hcb⟩
    have hi5 : At5 wd w.heap.size (.int .i64 o) (.int .i64 a) (.int .i64 b) (.int .i64 c) (.int .u32 i) := At5.below (by repeat (first | exact hi5 | apply At5.alloc)) hcb
    have hV5 : Vars wd := (Vars.below hV5 (by go_grown)).below hcb
    have hB5 : Below w.heap.size w wd := (by refine Below.trans ?_ (hcb.mono ?_) <;> go_grown)
    have hs5 := hB5.size
    obtain ⟨zi, i0, i1, i2, i3, i4⟩ := hi5
    have hi5 := At5.mk zi i0 i1 i2 i3 i4
    clear hcb
    go_wp2_with fail
    first | (refine (rof_yes x imm _ hx0 hx1 hO).mono ?_) | (refine (rof_no x imm _ hx0 hx1 hO).mono ?_)
    rintro e we ⟨rfl, hcb⟩
    have da := (At5.new _ _ _ _ _ _ _).below hcb
    have hi5 : At5 we w.heap.size (.int .i64 o) (.int .i64 a) (.int .i64 b) (.int .i64 c) (.int .u32 i) := At5.below (by repeat (first | exact hi5 | apply At5.alloc)) hcb
    have hV5 : Vars we := (Vars.below hV5 (by go_grown)).below hcb
    have hB5 : Below w.heap.size w we := (by refine Below.trans ?_ (hcb.mono ?_) <;> go_grown)
    have hs5 := hB5.size
    obtain ⟨zi, i0, i1, i2, i3, i4⟩ := hi5
    have hi5 := At5.mk zi i0 i1 i2 i3 i4
    clear hcb
    go_wp2_with fail
    refine (tables_below _).mono ?_; rintro e wf ⟨rfl, hcb⟩
    have db := (At5.new _ _ _ _ _ _ _).below hcb
    have da := (da.alloc _).below hcb
    have hi5 : At5 wf w.heap.size (.int .i64 o) (.int .i64 a) (.int .i64 b) (.int .i64 c) (.int .u32 i) := At5.below (by repeat (first | exact hi5 | apply At5.alloc)) hcb
    have hV5 : Vars wf := (Vars.below hV5 (by go_grown)).below hcb
    have hB5 : Below w.heap.size w wf := (by refine Below.trans ?_ (hcb.mono ?_) <;> go_grown)
    have hs5 := hB5.size
    obtain ⟨zi, i0, i1, i2, i3, i4⟩ := hi5
    have hi5 := At5.mk zi i0 i1 i2 i3 i4
    clear hcb
    obtain ⟨zq, r0, r1, r2, r3, r4⟩ := da
    obtain ⟨zp, p0, p1, p2, p3, p4⟩ := db
    go_wp2_with (first | (go_at_call 10; refine (tables_any _).mono ?_; rintro e w' ⟨rfl, rfl⟩) | (go_at_call 11; refine (same_any _ _ _ _ _ _ _ _ _ _ _).mono ?_; rintro e w' ⟨rfl, hcb⟩; have hi5 : At5 w' w.heap.size (.int .i64 o) (.int .i64 a) (.int .i64 b) (.int .i64 c) (.int .u32 i) := At5.below (by repeat (first | exact hi5 | apply At5.alloc)) hcb; have hV5 : Vars w' := (Vars.below hV5 (by go_grown)).below hcb; have hB5 : Below w.heap.size w w' := (by refine Below.trans ?_ (hcb.mono ?_) <;> go_grown); have hs5 := hB5.size; obtain ⟨zi, i0, i1, i2, i3, i4⟩ := hi5; have hi5 := At5.mk zi i0 i1 i2 i3 i4; clear hcb) | (go_at_call 12; refine (class_any _ _).mono ?_; rintro e w' ⟨rfl, rfl⟩) | (go_at_call 13; refine (rclass_any _ _).mono ?_; rintro e w' ⟨rfl, rfl⟩) | (go_at_call 14; refine (two_any _ _).mono ?_; rintro e w' ⟨rfl, rfl⟩) | (go_at_call 15; refine (rtwo_any _ _).mono ?_; rintro e w' ⟨rfl, rfl⟩) | (go_at_call 16; refine (jumps_any _ _).mono ?_; rintro e w' ⟨rfl, rfl⟩) | (go_at_call 17; refine (rjumps_any _ _).mono ?_; rintro e w' ⟨rfl, rfl⟩))
    have hi6 := ((hi5.alloc (.cells #[] 31)).alloc (.cells #[] 31)).alloc (.cells #[] 31)
    go_region_held3 (fun W => w.heap.size < W.heap.size ∧ W.cell? ⟨w.heap.size, 0, none⟩ = some (.int .i64 o) ∧ W.cell? ⟨w.heap.size, 1, none⟩ = some (.int .i64 a) ∧ W.cell? ⟨w.heap.size, 2, none⟩ = some (.int .i64 b) ∧ W.cell? ⟨w.heap.size, 3, none⟩ = some (.int .i64 c) ∧ W.cell? ⟨w.heap.size, 4, none⟩ = some (.int .u32 i) ∧ Vars W ∧ Below w.heap.size w W) (first | (exact ⟨hi6.lt, hi6.c0, hi6.c1, hi6.c2, hi6.c3, hi6.c4, hV5.below (by go_grown), (by go_grown)⟩) | (go_split_ands; (repeat' apply And.intro) <;> first | (refine Eq.trans (hcb.cell ?_) ?_ <;> assumption) | (exact Nat.lt_of_lt_of_le (by assumption) hcb.size) | (exact Vars.below (by assumption) hcb) | (refine Below.trans (by assumption) (hcb.mono ?_); exact Below.size (by assumption)))) (first | (go_at_call 18; refine (disp_below _ _).mono ?_; rintro e w' ⟨rfl, hcb⟩) | (go_at_call 19; refine (rdisp_below _ _).mono ?_; rintro e w' ⟨rfl, hcb⟩) | (go_at_call 20; go_split_ands; refine (text_any o a b c i hi _ (by assumption) hI).mono ?_; rintro e w' ⟨rfl, hcb⟩) | (go_at_call 21; go_split_ands; refine (rtext_any o a b c i hi _ (by assumption) hI).mono ?_; rintro e w' ⟨rfl, hcb⟩))
    go_wp2
    go_ret
    go_split_ands
    exact ⟨ret_b (by first | rfl | (simp; done)), by assumption⟩
set_option maxHeartbeats 4000000 in
theorem says_no (o a b c i : Int) (x imm p c' : Int) (w : World) (hv : Vars w) (hx0 : 0 ≤ x) (hx1 : x < 4294967296) (hI : insB o a b c i = false) (ok : Bool) (hO : insB (x / 16777216) (x / 65536 % 256) (x / 256 % 256) (x % 256) (wantImm (x / 16777216) imm) = ok) :
    Calls Tryd.prog 3 #[.agg #[.int .i64 o, .int .i64 a, .int .i64 b, .int .i64 c, .int .u32 i], .int .u32 x, .int .u32 imm, .int .i64 p, .int .i64 c'] w fun e w' => e = .returned (.bool true) ∧ Below w.heap.size w w' := by
  have hqy : samI (x / 16777216) (x / 65536 % 256) (x / 256 % 256) (x % 256) (wantImm (x / 16777216) imm) (x / 16777216) (x / 65536 % 256) (x / 256 % 256) (x % 256) (wantImm (x / 16777216) imm) = true := by simp [samI]
  have hqn : samI 0 0 0 0 0 0 0 0 0 0 = true := by decide
  have hi5 : At5 (w.alloc (.cells #[.int .i64 o, .int .i64 a, .int .i64 b, .int .i64 c, .int .u32 i] 24)) w.heap.size (.int .i64 o) (.int .i64 a) (.int .i64 b) (.int .i64 c) (.int .u32 i) := At5.new _ _ _ _ _ _ _
  have hB5 : Below w.heap.size w (w.alloc (.cells #[.int .i64 o, .int .i64 a, .int .i64 b, .int .i64 c, .int .u32 i] 24)) := (Below.refl _ _).alloc (Nat.le_refl _) _
  have hV5 := hv.below hB5
  have hs5 := hB5.size
  cases ok
  all_goals
    go_enter Tryd.func3, Tryd.ntmps3
    go_wp2_with fail
    refine (first_any _).mono ?_; rintro e wa ⟨rfl, hcb⟩
    have hi5 : At5 wa w.heap.size (.int .i64 o) (.int .i64 a) (.int .i64 b) (.int .i64 c) (.int .u32 i) := At5.below (by repeat (first | exact hi5 | apply At5.alloc)) hcb
    have hV5 : Vars wa := (Vars.below hV5 (by go_grown)).below hcb
    have hB5 : Below w.heap.size w wa := (by refine Below.trans ?_ (hcb.mono ?_) <;> go_grown)
    have hs5 := hB5.size
    obtain ⟨zi, i0, i1, i2, i3, i4⟩ := hi5
    have hi5 := At5.mk zi i0 i1 i2 i3 i4
    clear hcb
    go_wp2_with fail
    refine (word_any _ _ _ _ _ _).mono ?_; rintro e wb ⟨rfl, hcb⟩
    have hi5 : At5 wb w.heap.size (.int .i64 o) (.int .i64 a) (.int .i64 b) (.int .i64 c) (.int .u32 i) := At5.below (by repeat (first | exact hi5 | apply At5.alloc)) hcb
    have hV5 : Vars wb := (Vars.below hV5 (by go_grown)).below hcb
    have hB5 : Below w.heap.size w wb := (by refine Below.trans ?_ (hcb.mono ?_) <;> go_grown)
    have hs5 := hB5.size
    obtain ⟨zi, i0, i1, i2, i3, i4⟩ := hi5
    have hi5 := At5.mk zi i0 i1 i2 i3 i4
    clear hcb
    go_wp2_with fail
    refine (rword_any _ _ _ _ _ _).mono ?_; rintro e wc ⟨rfl, hcb⟩
    have hi5 : At5 wc w.heap.size (.int .i64 o) (.int .i64 a) (.int .i64 b) (.int .i64 c) (.int .u32 i) := At5.below (by repeat (first | exact hi5 | apply At5.alloc)) hcb
    have hV5 : Vars wc := (Vars.below hV5 (by go_grown)).below hcb
    have hB5 : Below w.heap.size w wc := (by refine Below.trans ?_ (hcb.mono ?_) <;> go_grown)
    have hs5 := hB5.size
    obtain ⟨zi, i0, i1, i2, i3, i4⟩ := hi5
    have hi5 := At5.mk zi i0 i1 i2 i3 i4
    clear hcb
    go_wp2_with fail
    first | (refine (of_yes x imm _ hx0 hx1 hO).mono ?_) | (refine (of_no x imm _ hx0 hx1 hO).mono ?_)
    rintro e wd ⟨rfl, hcb⟩
    have hi5 : At5 wd w.heap.size (.int .i64 o) (.int .i64 a) (.int .i64 b) (.int .i64 c) (.int .u32 i) := At5.below (by repeat (first | exact hi5 | apply At5.alloc)) hcb
    have hV5 : Vars wd := (Vars.below hV5 (by go_grown)).below hcb
    have hB5 : Below w.heap.size w wd := (by refine Below.trans ?_ (hcb.mono ?_) <;> go_grown)
    have hs5 := hB5.size
    obtain ⟨zi, i0, i1, i2, i3, i4⟩ := hi5
    have hi5 := At5.mk zi i0 i1 i2 i3 i4
    clear hcb
    go_wp2_with fail
    first | (refine (rof_yes x imm _ hx0 hx1 hO).mono ?_) | (refine (rof_no x imm _ hx0 hx1 hO).mono ?_)
    rintro e we ⟨rfl, hcb⟩
    have da := (At5.new _ _ _ _ _ _ _).below hcb
    have hi5 : At5 we w.heap.size (.int .i64 o) (.int .i64 a) (.int .i64 b) (.int .i64 c) (.int .u32 i) := At5.below (by repeat (first | exact hi5 | apply At5.alloc)) hcb
    have hV5 : Vars we := (Vars.below hV5 (by go_grown)).below hcb
    have hB5 : Below w.heap.size w we := (by refine Below.trans ?_ (hcb.mono ?_) <;> go_grown)
    have hs5 := hB5.size
    obtain ⟨zi, i0, i1, i2, i3, i4⟩ := hi5
    have hi5 := At5.mk zi i0 i1 i2 i3 i4
    clear hcb
    go_wp2_with fail
    refine (tables_below _).mono ?_; rintro e wf ⟨rfl, hcb⟩
    have db := (At5.new _ _ _ _ _ _ _).below hcb
    have da := (da.alloc _).below hcb
    have hi5 : At5 wf w.heap.size (.int .i64 o) (.int .i64 a) (.int .i64 b) (.int .i64 c) (.int .u32 i) := At5.below (by repeat (first | exact hi5 | apply At5.alloc)) hcb
    have hV5 : Vars wf := (Vars.below hV5 (by go_grown)).below hcb
    have hB5 : Below w.heap.size w wf := (by refine Below.trans ?_ (hcb.mono ?_) <;> go_grown)
    have hs5 := hB5.size
    obtain ⟨zi, i0, i1, i2, i3, i4⟩ := hi5
    have hi5 := At5.mk zi i0 i1 i2 i3 i4
    clear hcb
    obtain ⟨zq, r0, r1, r2, r3, r4⟩ := da
    obtain ⟨zp, p0, p1, p2, p3, p4⟩ := db
    go_wp2_with (first | (go_at_call 10; refine (tables_any _).mono ?_; rintro e w' ⟨rfl, rfl⟩) | (go_at_call 11; refine (same_any _ _ _ _ _ _ _ _ _ _ _).mono ?_; rintro e w' ⟨rfl, hcb⟩; have hi5 : At5 w' w.heap.size (.int .i64 o) (.int .i64 a) (.int .i64 b) (.int .i64 c) (.int .u32 i) := At5.below (by repeat (first | exact hi5 | apply At5.alloc)) hcb; have hV5 : Vars w' := (Vars.below hV5 (by go_grown)).below hcb; have hB5 : Below w.heap.size w w' := (by refine Below.trans ?_ (hcb.mono ?_) <;> go_grown); have hs5 := hB5.size; obtain ⟨zi, i0, i1, i2, i3, i4⟩ := hi5; have hi5 := At5.mk zi i0 i1 i2 i3 i4; clear hcb) | (go_at_call 12; refine (class_any _ _).mono ?_; rintro e w' ⟨rfl, rfl⟩) | (go_at_call 13; refine (rclass_any _ _).mono ?_; rintro e w' ⟨rfl, rfl⟩) | (go_at_call 14; refine (two_any _ _).mono ?_; rintro e w' ⟨rfl, rfl⟩) | (go_at_call 15; refine (rtwo_any _ _).mono ?_; rintro e w' ⟨rfl, rfl⟩) | (go_at_call 16; refine (jumps_any _ _).mono ?_; rintro e w' ⟨rfl, rfl⟩) | (go_at_call 17; refine (rjumps_any _ _).mono ?_; rintro e w' ⟨rfl, rfl⟩))
    go_quiet ((first | (go_at_call 18; exact Calls.quiet_of_same ((disp_any _ _).mono fun _ _ ⟨he, hw⟩ => ⟨he, hw.symm⟩)) | (go_at_call 19; exact Calls.quiet_of_same ((rdisp_any _ _).mono fun _ _ ⟨he, hw⟩ => ⟨he, hw.symm⟩))))
    go_wp2
    go_ret
    exact ⟨ret_b (by first | rfl | (simp; done)), below_drewN (by go_grown) _⟩
end Go.Proofs.YtkmphiehfacddaaDoor
