/- facadesee's questions about an error: contracts. -/
import Derived.Test.YtepgnnnkhjnbjaaDoorErr1
namespace Go.Proofs.YtepgnnnkhjnbjaaDoor
open Go.RowKit
theorem info_errp : ∃ i, Tryd.prog.info? 82 = some i ∧ i.comparable = true := by
  have h : (Tryd.prog.info? 82).map (·.comparable) = some true := by kernel_rfl
  cases hi : Tryd.prog.info? 82 with
  | none => simp [hi] at h
  | some i => exact ⟨i, rfl, by simpa [hi] using h⟩
theorem info_errs : ∃ i, Tryd.prog.info? 98 = some i ∧ i.size ≠ 0 := by
  have h : (Tryd.prog.info? 98).map (·.size) = some 1 := by kernel_rfl
  cases hi : Tryd.prog.info? 98 with
  | none => simp [hi] at h
  | some i =>
    have : i.size = 1 := by simpa [hi] using h
    exact ⟨i, rfl, by omega⟩
theorem run_err_same (a : Addr) (w : World) : (binOp .eql 27 (errV a) (errV a)).run Tryd.prog w = .ok (.bool true) w := by
  obtain ⟨i, hi, hc⟩ := info_errp
  obtain ⟨j, hj, _⟩ := info_errs
  exact run_eql_iface_ptr_same w a Tryd.underlying27 Tryd.underlying82 hi hc hj
theorem run_err_other {a b : Addr} {w : World} (hne : a ≠ b) (ha : ∃ c t, w.heap[a.block]? = some (.cells c t (0, 0))) (hb : ∃ c t, w.heap[b.block]? = some (.cells c t (0, 0))) : (binOp .eql 27 (errV a) (errV b)).run Tryd.prog w = .ok (.bool false) w := by
  obtain ⟨i, hi, hc⟩ := info_errp
  obtain ⟨j, hj, hs⟩ := info_errs
  obtain ⟨ca, ta, ha⟩ := ha
  obtain ⟨cb, tb, hb⟩ := hb
  exact run_eql_iface_ptr_other w Tryd.underlying27 Tryd.underlying82 hi hc hj hs hne ha hb
theorem run_err_nil (a : Addr) (w : World) : (binOp .eql 27 (errV a) .nilIface).run Tryd.prog w = .ok (.bool false) w := by
  have h : ∀ d : Nat, (Op.equalIn (d + 1) 27 (errV a) .nilIface).run Tryd.prog w = .ok false w := fun d => by simp [errV, Op.equalIn, run_underlying Tryd.underlying27]
  simp only [binOp]
  simp [Op.equal, Op.maxDepth, h 9999]
theorem alike_same (a : Addr) (w : World) : Calls Tryd.prog 38 #[errV a, errV a] w fun e w' => e = .returned (.bool true) ∧ w = w' := by
  have h1 := fun W => run_err_same a W
  have h2 := fun W => run_err_nil a W
  unfold errV at h1 h2 ⊢
  go_enter Tryd.func38, Tryd.ntmps38
  go_wp2
  go_ret
  exact ⟨rfl, rfl⟩
theorem alike_other {a b : Addr} {w : World} (hne : a ≠ b) (ha : ∃ c t, w.heap[a.block]? = some (.cells c t (0, 0))) (hb : ∃ c t, w.heap[b.block]? = some (.cells c t (0, 0))) :
    Calls Tryd.prog 38 #[errV a, errV b] w fun e w' => e = .returned (.bool false) ∧ w = w' := by
  have h1 := run_err_other hne ha hb
  have h2 := fun W => run_err_nil a W
  have h3 := fun W => run_err_nil b W
  unfold errV at h1 h2 h3 ⊢
  clear hne ha hb
  go_enter Tryd.func38, Tryd.ntmps38
  go_wp2
  go_ret
  exact ⟨rfl, rfl⟩
def errs (A : Nat → Addr) : Array Value := ((List.range 16).map fun i => errV (A i)).toArray
theorem errs_get (A : Nat → Addr) {i : Nat} (h : i < 16) : (errs A)[i]? = some (errV (A i)) := by simp [errs, h]
set_option maxHeartbeats 1000000 in
theorem sentinels_any {A : Nat → Addr} {w : World} (h : Sents w A) : Calls Tryd.prog 37 #[] w fun e w' => e = .returned (.slice (some ⟨w.heap.size, 0, none⟩) 16 16) ∧ w' = w.alloc (.cells (errs A) 27) := by
  have c0 := h.cell 0 _ rfl
  have c1 := h.cell 1 _ rfl
  have c2 := h.cell 2 _ rfl
  have c3 := h.cell 3 _ rfl
  have c4 := h.cell 4 _ rfl
  have c5 := h.cell 5 _ rfl
  have c6 := h.cell 6 _ rfl
  have c7 := h.cell 7 _ rfl
  have c8 := h.cell 8 _ rfl
  have c9 := h.cell 9 _ rfl
  have c10 := h.cell 10 _ rfl
  have c11 := h.cell 11 _ rfl
  have c12 := h.cell 12 _ rfl
  have c13 := h.cell 13 _ rfl
  have c14 := h.cell 14 _ rfl
  have c15 := h.cell 15 _ rfl
  clear h
  have He : Hid (errs A = #[errV (A 0), errV (A 1), errV (A 2), errV (A 3), errV (A 4), errV (A 5), errV (A 6), errV (A 7), errV (A 8), errV (A 9), errV (A 10), errV (A 11), errV (A 12), errV (A 13), errV (A 14), errV (A 15)]) := hid rfl
  rw [He.out]
  unfold errV at c0 c1 c2 c3 c4 c5 c6 c7 c8 c9 c10 c11 c12 c13 c14 c15
  clear He
  go_enter Tryd.func37, Tryd.ntmps37
  go_wp2
  go_ret
  exact ⟨rfl, rfl⟩
set_option maxHeartbeats 1000000 in
theorem sentinel_any {A : Nat → Addr} {w : World} (h : Sents w A) (k : Nat) (hk : k < 16) : Calls Tryd.prog 35 #[errV (A k)] w fun e w' => e = .returned (.int .i64 ((101 + k : Nat) : Int)) ∧ w.grownBy w' none := by
  have H := hid h
  clear h
  obtain ⟨v, hv⟩ : ∃ v, errV (A k) = v := ⟨_, rfl⟩
  rw [hv]
  have Hv := hid hv
  clear hv
  go_enter Tryd.func35, Tryd.ntmps35
  go_wp2_with fail
  refine (sentinels_any H.out).mono ?_; rintro e w1 ⟨rfl, hw1⟩
  have Hh : Hid (w1.heap[w.heap.size]? = some (.cells (errs A) 27 (0, 0))) := hid (by rw [hw1]; exact heap_alloc_last _ _)
  have H1 : Hid (Sents w1 A) := hid (H.out.kept0 (by rw [hw1]; exact World.grownBy_alloc w _ none))
  have HG : Hid (w.grownBy w1 none) := hid (by rw [hw1]; exact World.grownBy_alloc w _ none)
  clear hw1
  go_wp2
  go_loop [2, 4] (fun _ i => ∃ j : Nat, j ≤ k ∧ i = .int .i64 j) (fun _ i => k - (intOf i).toNat)
  case atStart => exact ⟨0, Nat.zero_le _, rfl⟩
  case round =>
    obtain ⟨j, hj, rfl⟩ := hrel
    have hc : w1.cell? ⟨w.heap.size, j, none⟩ = some (errV (A j)) := by rw [cell_of_row w1 _ _ _ _ _ Hh.out, errs_get A (by omega)]
    have hj0 : (0 : Int) ≤ (j : Int) := by omega
    have hj1 : (j : Int) < 16 := by omega
    by_cases hjk : j = k
    · have hkk : (101 : Int) + (j : Int) = ((101 + k : Nat) : Int) := by omega
      have Hk := hid hkk
      rw [hjk, Hv.out] at hc
      have hs : Calls Tryd.prog 38 #[v, v] w1 fun e w' => e = .returned (.bool true) ∧ w1 = w' := by rw [← Hv.out]; exact alike_same (A k) w1
      obtain rfl := hjk
      have Hs := hid hs
      clear hs hkk
      go_wp2_with fail
      refine (Hs.out).mono ?_; rintro e w' ⟨rfl, rfl⟩
      go_wp2
      go_ret
      exact ⟨ret_i Hk.out, HG.out⟩
    · have hs : Calls Tryd.prog 38 #[v, errV (A j)] w1 fun e w' => e = .returned (.bool false) ∧ w1 = w' := by rw [← Hv.out]; exact alike_other (fun e => hjk (H1.out.inj _ _ (by omega) (by omega) e).symm) (H1.out.row k hk) (H1.out.row j (by omega))
      have Hs := hid hs
      have Hjk : Hid (j + 1 ≤ k) := hid (by omega)
      clear hs hjk
      go_wp2_with fail
      refine (Hs.out).mono ?_; rintro e w' ⟨rfl, rfl⟩
      go_wp2
      go_round
      case rel => exact ⟨j + 1, Hjk.out, by go_num⟩
      case measure => have := Hjk.out; simp [intOf]; omega
end Go.Proofs.YtepgnnnkhjnbjaaDoor
