/- Registers compared (facaderef.SameRegs): a contract. -/
import Derived.Test.YtajminajdcpgnaaAlu0
import Derived.LoopTactic
namespace Go.Proofs.Ytajminajdcpgnaa
open Go.RowKit
set_option maxHeartbeats 1000000 in
theorem same_regs {l k : List Int} (hl : Regs l) (hk : Regs k) (r : Bool) (hr : decide (l = k) = r) (W : World) :
    Calls Try.prog 18 #[.agg (wA l), .agg (wA k)] W fun e w' => e = .returned (.bool r) ∧ W.grownBy w' none := by
  have Hl := hid hl
  have Hk := hid hk
  have Hr := hid hr
  clear hl hk hr
  have HA : Hid (RegAt ((W.alloc (.cells (wA l) 24)).alloc (.cells (wA k) 24)) W.heap.size l) := hid ((heap_alloc_old _ _ (by simp)).trans (heap_alloc_last W _))
  have HB : Hid (RegAt ((W.alloc (.cells (wA l) 24)).alloc (.cells (wA k) 24)) (W.heap.size + 1) k) := hid (heap_alloc2_new W _ _)
  go_enter Try.func18, Try.ntmps18
  go_wp2
  go_loopw [5] (fun i wr => ∃ j : Nat, j ≤ 16 ∧ i = .int .i64 j ∧ Hid (l.take j = k.take j) ∧ Hid (((W.alloc (.cells (wA l) 24)).alloc (.cells (wA k) 24)).grownBy wr none)) (fun i _ => 16 - (intOf i).toNat)
  case atStart => exact ⟨0, Nat.zero_le _, rfl, hid (by simp), hid (grown_refl _ _)⟩
  case round =>
    obtain ⟨j, hj, rfl, Hj, Hg⟩ := hrel
    by_cases hlt : j < 16
    · obtain ⟨x, Hx⟩ : ∃ x, Hid (l[j]? = some x) := ⟨_, hid (List.getElem?_eq_getElem (by rw [Hl.out.len]; exact hlt))⟩
      obtain ⟨y, Hy⟩ : ∃ y, Hid (k[j]? = some y) := ⟨_, hid (List.getElem?_eq_getElem (by rw [Hk.out.len]; exact hlt))⟩
      have cx := (HA.out.kept0 Hg.out).cell Hx.out
      have cy := (HB.out.kept0 Hg.out).cell Hy.out
      have hk0 : (0 : Int) ≤ (j : Int) := by omega
      have hk1 : (j : Int) < 16 := by omega
      by_cases hxy : x = y
      · subst hxy
        go_wp2
        go_quiet (fail)
        go_wp2
        go_roundw
        case rel =>
          refine ⟨j + 1, by omega, by go_num, hid ?_, hid (grown_drewN Hg.out _)⟩
          rw [List.take_add_one, List.take_add_one, Hj.out, Hx.out, Hy.out]
        case measure => simp [intOf]; omega
      · have hxy2 : (x == y) = false := by simpa using hxy
        go_wp2
        go_quiet (fail)
        go_wp2
        go_ret
        refine ⟨ret_b ?_, grown_drewN (grown_trans (grown_alloc (grown_alloc (grown_refl _ _) _) _) Hg.out) _⟩
        rw [← Hr.out, eq_comm, decide_eq_false_iff_not]
        intro e
        subst e
        have := Hx.out.symm.trans Hy.out
        exact hxy (Option.some.inj this)
    · have hj16 : j = 16 := by omega
      subst hj16
      go_wp2
      go_ret
      refine ⟨ret_b ?_, grown_trans (grown_alloc (grown_alloc (grown_refl _ _) _) _) Hg.out⟩
      rw [← Hr.out, eq_comm, decide_eq_true_eq]
      have := Hj.out
      rw [List.take_of_length_le (by rw [Hl.out.len]; omega), List.take_of_length_le (by rw [Hk.out.len]; omega)] at this
      exact this
end Go.Proofs.Ytajminajdcpgnaa
