/- The walk of the law DevRings. -/
import Derived.Test.YtiglmdilooaeeaaDev7
namespace Go.Proofs.Ytiglmdilooaeeaa
open Go.RowKit
theorem due_says {now late a : Int} {r : Bool} (h0 : 0 ≤ late) (a0 : 0 ≤ a) (hr : dueB now a (now + late) = r) : (a = 0 ∧ r = false) ∨ (0 < a ∧ a ≤ late ∧ r = true) ∨ (0 < a ∧ late < a ∧ r = false) := by
  subst hr
  unfold dueB
  by_cases h : a = 0
  · left; simp [h]
  · by_cases h2 : a ≤ late
    · right; left; refine ⟨by omega, h2, ?_⟩; simp; omega
    · right; right; refine ⟨by omega, by omega, ?_⟩; simp; omega
set_option maxRecDepth 100000 in
set_option maxHeartbeats 4000000 in
theorem rings_walk (now a b late : Int) (w : World) (n0 : -9223372036854775808 ≤ now) (n1 : now ≤ 9223372036854775807) (a0 : 0 ≤ a) (a1 : a ≤ 4294967295) (b0 : 0 ≤ b) (b1 : b ≤ 4294967295) (l0 : -9223372036854775808 ≤ late) (l1 : late ≤ 9223372036854775807) :
    Calls Try.prog 6 #[.int .i64 now, .int .u32 a, .int .u32 b, .int .i64 late] w fun e w' => e = .returned (.bool true) ∧ Below w.heap.size w w' := by
  have Hz33 := zero_dev
  by_cases h1 : 0 ≤ now
  · by_cases h2 : now ≤ 1099511627776
    · by_cases h3 : 0 ≤ late
      · by_cases h4 : late ≤ 1099511627776
        · have hx0 : -9223372036854775808 ≤ now + late := by omega
          have hx1 : now + late ≤ 9223372036854775807 := by omega
          obtain ⟨X, hX⟩ : ∃ X, dueB now a (now + late) = X := ⟨_, rfl⟩
          obtain ⟨Y, hY⟩ : ∃ Y, dueB now b (now + late) = Y := ⟨_, rfl⟩
          have hXX := hid (due_says h3 a0 hX)
          have hYY := hid (due_says h3 b0 hY)
          have HX := hid hX
          have HY := hid hY
          clear hX hY
          go_enter Try.func6, Try.ntmps6
          go_wp2_with fail
          refine (first5_any _).mono ?_; rintro e w1 ⟨rfl, hg⟩
          have HG1 := hid hg; clear hg
          go_wp2_with fail
          have HD1 := hid (dev_zero (B := w.heap.size) w1 HG1.out.size)
          have HG2 := hid (grown_alloc HG1.out (.cells zeroD 33))
          generalize w1.alloc (.cells zeroD 33) = w2 at HD1 HG2 ⊢
          generalize w1.heap.size = d at HD1 ⊢
          clear HG1
          refine (due_any HD1.out now (by decide) (by decide) (by decide) (by decide) n0 n1 false (by simp [dueB, zeroS])).mono ?_; rintro e w3 ⟨rfl, hg⟩
          have HD3 := hid (HD1.out.kept0 hg)
          have HG3 := hid (grown_trans HG2.out hg)
          clear hg HD1 HG2
          go_wp2_with fail
          refine (set_any HD3.out now a).mono ?_; rintro e w4 ⟨rfl, ht⟩
          have HD4 := hid ht.at_
          have HG4 := hid (turned_old HG3.out HD3.out ht)
          clear ht HD3 HG3
          go_wp2_with fail
          refine (due_any HD4.out (now + late) n0 n1 a0 a1 hx0 hx1 X HX.out).mono ?_; rintro e w5 ⟨rfl, hg⟩
          have HD5 := hid (HD4.out.kept0 hg)
          have HG5 := hid (grown_trans HG4.out hg)
          clear hg HD4 HG4
          go_wp2_with fail
          refine (set_any HD5.out now b).mono ?_; rintro e w6 ⟨rfl, ht⟩
          have HD6 := hid ht.at_
          have HG6 := hid (turned_old HG5.out HD5.out ht)
          clear ht HD5 HG5
          go_wp2_with fail
          refine (due_any HD6.out (now + late) n0 n1 b0 b1 hx0 hx1 Y HY.out).mono ?_; rintro e w7 ⟨rfl, hg⟩
          have HD7 := hid (HD6.out.kept0 hg)
          have HG7 := hid (grown_trans HG6.out hg)
          clear hg HD6 HG6
          go_wp2_with fail
          refine (rang_any HD7.out).mono ?_; rintro e w8 ⟨rfl, ht⟩
          have HD8 := hid ht.at_
          have HG8 := hid (turned_old HG7.out HD7.out ht)
          clear ht HD7 HG7 HX HY
          have hlast := (due_any HD8.out (now + late) (by simp) (by simp) (by simp) (by simp) hx0 hx1 false (by simp [dueB]))
          have HL := hid hlast
          clear hlast
          rcases hXX.out with ⟨rfl, rfl⟩ | ⟨x1, x2, rfl⟩ | ⟨x1, x2, rfl⟩ <;> rcases hYY.out with ⟨rfl, rfl⟩ | ⟨y1, y2, rfl⟩ | ⟨y1, y2, rfl⟩ <;>
          · clear hXX hYY
            go_wp2_with fail
            refine HL.out.mono ?_; rintro e w9 ⟨rfl, hg⟩
            have HG9 := hid (grown_trans HG8.out hg)
            clear hg
            go_wp2
            go_ret
            exact ⟨ret_b (by first | rfl | (simp; omega)), grown_below HG9.out⟩
        · have h5 : late > 1099511627776 := by omega
          go_enter Try.func6, Try.ntmps6
          go_wp2_with fail
          refine (first5_any _).mono ?_; rintro e w1 ⟨rfl, hg⟩
          have HG1 := hid hg; clear hg
          go_wp2
          go_ret
          exact ⟨rfl, grown_below HG1.out⟩
      · have h5 : late < 0 := by omega
        go_enter Try.func6, Try.ntmps6
        go_wp2_with fail
        refine (first5_any _).mono ?_; rintro e w1 ⟨rfl, hg⟩
        have HG1 := hid hg; clear hg
        go_wp2
        go_ret
        exact ⟨rfl, grown_below HG1.out⟩
    · have h5 : now > 1099511627776 := by omega
      go_enter Try.func6, Try.ntmps6
      go_wp2_with fail
      refine (first5_any _).mono ?_; rintro e w1 ⟨rfl, hg⟩
      have HG1 := hid hg; clear hg
      go_wp2
      go_ret
      exact ⟨rfl, grown_below HG1.out⟩
  · have h5 : now < 0 := by omega
    go_enter Try.func6, Try.ntmps6
    go_wp2_with fail
    refine (first5_any _).mono ?_; rintro e w1 ⟨rfl, hg⟩
    have HG1 := hid hg; clear hg
    go_wp2
    go_ret
    exact ⟨rfl, grown_below HG1.out⟩
end Go.Proofs.Ytiglmdilooaeeaa
