/- facadesee's questions about an error: contracts, the rest; New where it refuses. -/
import Derived.Test.YtepgnnnkhjnbjaaDoorErr2
import Derived.Deep.RegionHeld3
namespace Go.Proofs.YtepgnnnkhjnbjaaDoor
open Go.RowKit
def faultV (c : Int) : Value := .agg #[.int .i64 c, .bool false, .int .i64 0]
theorem bare_any (c : Int) (w : World) : Calls Tryd.prog 29 #[.int .i64 c] w fun e w' => e = .returned (faultV c) ∧ w.grownBy w' none := by
  have Hr := hid (grown_refl w none)
  go_enter Tryd.func29, Tryd.ntmps29
  go_wp2
  refine bodyPost_ret (v := .agg #[.int .i64 c, .bool false, .int .i64 0]) (by simp [results, Tryd.results29, go_sem]) rfl ⟨rfl, grown_alloc Hr.out _⟩
theorem same_fault (c d : Int) (w : World) (r : Bool) (hr : (c == d) = r) : Calls Tryd.prog 32 #[faultV c, faultV d] w fun e w' => e = .returned (.bool r) ∧ w.grownBy w' none := by
  unfold faultV
  have Hr := hid (grown_refl w none)
  cases r
  · go_enter Tryd.func32, Tryd.ntmps32
    go_wp2
    go_ret
    exact ⟨rfl, grown_alloc (grown_alloc Hr.out _) _⟩
  · go_enter Tryd.func32, Tryd.ntmps32
    go_wp2
    go_ret
    exact ⟨rfl, grown_alloc (grown_alloc Hr.out _) _⟩
theorem new_no {w : World} (v : Value) (hv : w.cell? ⟨0, 0, none⟩ = some v) (a : Int) (ha : a < 1 ∨ 1024 < a) :
    Calls Tryd.prog 8 #[.int .i64 a] w fun e w' => e = .returned (.tuple #[.pointer none, v]) ∧ w.grownBy w' none := by
  have Hr := hid (grown_refl w none)
  rcases ha with ha | ha
  · go_enter Tryd.func8, Tryd.ntmps8
    go_wp2
    go_quiet (fail)
    go_wp2
    go_ret2
    exact ⟨rfl, grown_drewN Hr.out _⟩
  · have h1 : ¬ a < 1 := by omega
    have h2 : a > 1024 := by omega
    clear ha
    go_enter Tryd.func8, Tryd.ntmps8
    go_wp2
    go_quiet (fail)
    go_wp2
    go_ret2
    exact ⟨rfl, grown_drewN Hr.out _⟩
theorem run_not_at (v : Value) (W : World) : (Instr.typeAssert (.iface 82 v) 27 73 true).run Tryd.prog W = .ok (.tuple #[.pointer none, .bool false]) W := by
  have hz : (Tryd.prog.info? 73).map (·.zero) = some (some (.pointer none)) := by kernel_rfl
  cases hi : Tryd.prog.info? 73 with
  | none => simp [hi] at hz
  | some i =>
    have h1 : i.zero = some (.pointer none) := by simpa [hi] using hz
    simp [Instr.typeAssert, run_underlying Tryd.underlying73, zeroValue, typeInfo, hi, h1]
set_option maxHeartbeats 1000000 in
theorem fault_sent {A : Nat → Addr} {w : World} (h : Sents w A) (k : Nat) (hk : k < 16) : Calls Tryd.prog 33 #[errV (A k)] w fun e w' => e = .returned (faultV ((101 + k : Nat) : Int)) ∧ w.grownBy w' none := by
  have H := hid (h.kept0 (World.grownBy_alloc w (.cells #[.int .i64 0, .bool false, .int .i64 0] 65) none))
  have hnil := fun W => run_err_nil (A k) W
  have hat := run_not_at
  have Hs := hid (sentinel_any H.out k hk)
  unfold errV at hnil Hs ⊢
  obtain ⟨C, hC⟩ : ∃ C, ((101 + k : Nat) : Int) = C := ⟨_, rfl⟩
  rw [hC] at Hs ⊢
  clear h hC
  go_enter Tryd.func33, Tryd.ntmps33
  go_wp2_with fail
  refine (Hs.out).mono ?_; rintro e w1 ⟨rfl, hg⟩
  have HG1 := hid hg
  have hfr : w.heap.size < w1.heap.size := by have := hg.size; simp at this; omega
  have hblk : w1.heap[w.heap.size]? = some (.cells #[.int .i64 0, .bool false, .int .i64 0] 65 (0, 0)) := (hg.block _ (by simp) (by simp)).trans (heap_alloc_last _ _)
  have Hblk := hid hblk
  clear hg hblk
  go_wp2_with fail
  refine (bare_any C _).mono ?_; rintro e w2 ⟨rfl, hg⟩
  have HG2 := hid (grown_trans HG1.out hg)
  have hblk : w2.heap[w.heap.size]? = some (.cells #[.int .i64 0, .bool false, .int .i64 0] 65 (0, 0)) := (hg.block _ hfr (by simp)).trans Hblk.out
  have c0 : w2.cell? ⟨w.heap.size, 0, none⟩ = some (.int .i64 0) := by rw [cell_of_row w2 _ _ _ _ _ hblk]; rfl
  have c1 : w2.cell? ⟨w.heap.size, 1, none⟩ = some (.bool false) := by rw [cell_of_row w2 _ _ _ _ _ hblk]; rfl
  have c2 : w2.cell? ⟨w.heap.size, 2, none⟩ = some (.int .i64 0) := by rw [cell_of_row w2 _ _ _ _ _ hblk]; rfl
  have z0 := frozen_of_row w2 w.heap.size 0 _ _ hblk
  have z1 := frozen_of_row w2 w.heap.size 1 _ _ hblk
  have z2 := frozen_of_row w2 w.heap.size 2 _ _ hblk
  clear hblk hg
  unfold faultV
  go_wp2
  refine bodyPost_ret (v := .agg #[.int .i64 C, .bool false, .int .i64 0]) ?_ rfl ⟨rfl, ?_⟩
  · simp [results, Tryd.results33, go_sem, c0, c1, c2, z0, z1, z2]
  · exact grown_new' (grown_setCell (grown_setCell (grown_setCell (grown_none (grown_trans (World.grownBy_alloc _ _ _) HG2.out)) _ _) _ _) _ _) (fun k hk => by obtain rfl := Option.some.inj hk; exact Nat.le_refl _)
set_option maxHeartbeats 1000000 in
theorem same_sent {A : Nat → Addr} {w : World} (h : Sents w A) (k : Nat) (hk : k < 16) (d : Int) (r : Bool) (hr : ((((101 + k : Nat) : Int)) == d) = r) :
    Calls Tryd.prog 28 #[errV (A k), faultV d] w fun e w' => e = .returned (.bool r) ∧ w.grownBy w' none := by
  have H := hid h
  have Hr := hid hr
  clear h hr
  obtain ⟨v, hv⟩ : ∃ v, errV (A k) = v := ⟨_, rfl⟩
  have Hf : ∀ W, w.grownBy W none → Calls Tryd.prog 33 #[v] W fun e w' => e = .returned (faultV ((101 + k : Nat) : Int)) ∧ W.grownBy w' none := fun W hW => by rw [← hv]; exact fault_sent (H.out.kept0 hW) k hk
  have Hf := hid Hf
  rw [hv]
  clear hv
  unfold faultV
  go_enter Tryd.func28, Tryd.ntmps28
  go_wp2
  obtain ⟨W0, hW0⟩ : ∃ W0, W0 = w.alloc (.cells #[.int .i64 d, .bool false, .int .i64 0] 65) := ⟨_, rfl⟩
  rw [← hW0]
  have hb0 : W0.heap[w.heap.size]? = some (.cells #[.int .i64 d, .bool false, .int .i64 0] 65 (0, 0)) := by rw [hW0]; exact heap_alloc_last _ _
  have c0 : W0.cell? ⟨w.heap.size, 0, none⟩ = some (.int .i64 d) := by rw [cell_of_row W0 _ _ _ _ _ hb0]; rfl
  have c1 : W0.cell? ⟨w.heap.size, 1, none⟩ = some (.bool false) := by rw [cell_of_row W0 _ _ _ _ _ hb0]; rfl
  have c2 : W0.cell? ⟨w.heap.size, 2, none⟩ = some (.int .i64 0) := by rw [cell_of_row W0 _ _ _ _ _ hb0]; rfl
  have hlt : w.heap.size < W0.heap.size := (Array.getElem?_eq_some_iff.1 hb0).1
  have hg0 : w.grownBy W0 none := by rw [hW0]; exact World.grownBy_alloc _ _ _
  clear hW0 hb0
  go_region_held3 (fun W => W.cell? ⟨w.heap.size, 0, none⟩ = some (.int .i64 d) ∧ W.cell? ⟨w.heap.size, 1, none⟩ = some (.bool false) ∧ W.cell? ⟨w.heap.size, 2, none⟩ = some (.int .i64 0) ∧ w.heap.size < W.heap.size ∧ w.grownBy W none)
    (first | (exact ⟨c0, c1, c2, hlt, grown_drew hg0⟩) | (go_split_ands; exact ⟨(grown_cell hcb (by assumption) (by simp)).trans (by assumption), (grown_cell hcb (by assumption) (by simp)).trans (by assumption), (grown_cell hcb (by assumption) (by simp)).trans (by assumption), Nat.lt_of_lt_of_le (by assumption) hcb.size, grown_trans (by assumption) hcb⟩))
    (first
      | (go_split_ands; go_at_call 33; refine (Hf.out _ (by assumption)).mono ?_; rintro e w' ⟨rfl, hcb⟩)
      | (go_split_ands; go_at_call 32; refine (same_fault _ d _ r Hr.out).mono ?_; rintro e w' ⟨rfl, hcb⟩))
  go_wp2
  go_ret
  go_split_ands
  exact ⟨rfl, by assumption⟩
theorem is_sent {A : Nat → Addr} {w : World} (h : Sents w A) (k : Nat) (hk : k < 16) (d : Int) (r : Bool) (hr : ((((101 + k : Nat) : Int)) == d) = r) :
    Calls Tryd.prog 17 #[errV (A k), .int .i64 d] w fun e w' => e = .returned (.bool r) ∧ w.grownBy w' none := by
  have H := hid h
  have Hr := hid hr
  clear h hr
  obtain ⟨v, hv⟩ : ∃ v, errV (A k) = v := ⟨_, rfl⟩
  have Hf : ∀ W, w.grownBy W none → Calls Tryd.prog 28 #[v, faultV d] W fun e w' => e = .returned (.bool r) ∧ W.grownBy w' none := fun W hW => by rw [← hv]; exact same_sent (H.out.kept0 hW) k hk d r Hr.out
  have Hf := hid Hf
  rw [hv]
  clear hv
  go_enter Tryd.func17, Tryd.ntmps17
  go_wp2_with fail
  refine (bare_any d w).mono ?_; rintro e w1 ⟨rfl, hg⟩
  have HG1 := hid hg
  clear hg
  go_wp2_with fail
  refine (Hf.out _ HG1.out).mono ?_; rintro e w2 ⟨rfl, hg⟩
  have HG2 := hid (grown_trans HG1.out hg)
  clear hg
  go_wp2
  go_ret
  exact ⟨rfl, HG2.out⟩
end Go.Proofs.YtepgnnnkhjnbjaaDoor
