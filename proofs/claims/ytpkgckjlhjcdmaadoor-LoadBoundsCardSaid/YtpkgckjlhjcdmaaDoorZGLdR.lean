/- facadesee's question about no error, and about what load tells: contracts. -/
import Derived.Test.YtpkgckjlhjcdmaaDoorZGLdC
namespace Go.Proofs.YtpkgckjlhjcdmaaDoor
open Go.RowKit
set_option maxRecDepth 100000 in
theorem none_any14 (w : World) : Calls Tryd.prog 99 #[] w fun e w' => e = .returned (faultV 0) ∧ w.grownBy w' none := by
  have Hr := hid (grown_refl w none)
  go_enter Tryd.func99, Tryd.ntmps99
  go_wp2
  refine bodyPost_ret (v := .agg #[.int .i64 0, .bool false, .int .i64 0]) (by simp [results, Tryd.results99, go_sem]) rfl ⟨rfl, grown_alloc Hr.out _⟩
set_option maxRecDepth 100000 in
set_option maxHeartbeats 1000000 in
theorem fault_none14 (w : World) : Calls Tryd.prog 80 #[.nilIface] w fun e w' => e = .returned (faultV 0) ∧ w.grownBy w' none := by
  go_enter Tryd.func80, Tryd.ntmps80
  go_wp2_with fail
  refine (none_any14 _).mono ?_; rintro e w2 ⟨rfl, hg⟩
  have HG2 := hid (grown_trans (World.grownBy_alloc w (.cells #[.int .i64 0, .bool false, .int .i64 0] 114) none) hg)
  have hblk : w2.heap[w.heap.size]? = some (.cells #[.int .i64 0, .bool false, .int .i64 0] 114 (0, 0)) := (hg.block _ (by simp) (by simp)).trans (heap_alloc_last _ _)
  have c0 : w2.cell? ⟨w.heap.size, 0, none⟩ = some (.int .i64 0) := by rw [cell_of_row w2 _ _ _ _ _ hblk]; rfl
  have c1 : w2.cell? ⟨w.heap.size, 1, none⟩ = some (.bool false) := by rw [cell_of_row w2 _ _ _ _ _ hblk]; rfl
  have c2 : w2.cell? ⟨w.heap.size, 2, none⟩ = some (.int .i64 0) := by rw [cell_of_row w2 _ _ _ _ _ hblk]; rfl
  have z0 := frozen_of_row w2 w.heap.size 0 _ _ hblk
  have z1 := frozen_of_row w2 w.heap.size 1 _ _ hblk
  have z2 := frozen_of_row w2 w.heap.size 2 _ _ hblk
  clear hblk hg
  unfold faultV
  go_wp2
  refine bodyPost_ret (v := .agg #[.int .i64 0, .bool false, .int .i64 0]) ?_ rfl ⟨rfl, ?_⟩
  · simp [results, Tryd.results80, go_sem, c0, c1, c2]
  · exact grown_new' (grown_setCell (grown_setCell (grown_setCell (grown_none HG2.out) _ _) _ _) _ _) (fun k hk => by obtain rfl := Option.some.inj hk; exact Nat.le_refl _)
set_option maxRecDepth 100000 in
set_option maxHeartbeats 1000000 in
theorem same_none14 {w : World} (d : Int) (r : Bool) (hr : ((0 : Int) == d) = r) :
    Calls Tryd.prog 53 #[.nilIface, faultV d] w fun e w' => e = .returned (.bool r) ∧ w.grownBy w' none := by
  have Hr := hid hr
  clear hr
  obtain ⟨v, hv⟩ : ∃ v : Value, .nilIface = v := ⟨_, rfl⟩
  have Hf : ∀ W, w.grownBy W none → Calls Tryd.prog 80 #[v] W fun e w' => e = .returned (faultV 0) ∧ W.grownBy w' none := fun W hW => by rw [← hv]; exact fault_none14 W
  have Hf := hid Hf
  rw [hv]
  clear hv
  unfold faultV
  go_enter Tryd.func53, Tryd.ntmps53
  go_wp2
  obtain ⟨W0, hW0⟩ : ∃ W0, W0 = w.alloc (.cells #[.int .i64 d, .bool false, .int .i64 0] 114) := ⟨_, rfl⟩
  rw [← hW0]
  have hb0 : W0.heap[w.heap.size]? = some (.cells #[.int .i64 d, .bool false, .int .i64 0] 114 (0, 0)) := by rw [hW0]; exact heap_alloc_last _ _
  have c0 : W0.cell? ⟨w.heap.size, 0, none⟩ = some (.int .i64 d) := by rw [cell_of_row W0 _ _ _ _ _ hb0]; rfl
  have c1 : W0.cell? ⟨w.heap.size, 1, none⟩ = some (.bool false) := by rw [cell_of_row W0 _ _ _ _ _ hb0]; rfl
  have c2 : W0.cell? ⟨w.heap.size, 2, none⟩ = some (.int .i64 0) := by rw [cell_of_row W0 _ _ _ _ _ hb0]; rfl
  have hlt : w.heap.size < W0.heap.size := (Array.getElem?_eq_some_iff.1 hb0).1
  have hg0 : w.grownBy W0 none := by rw [hW0]; exact World.grownBy_alloc _ _ _
  clear hW0 hb0
  go_region_held3 (fun W => W.cell? ⟨w.heap.size, 0, none⟩ = some (.int .i64 d) ∧ W.cell? ⟨w.heap.size, 1, none⟩ = some (.bool false) ∧ W.cell? ⟨w.heap.size, 2, none⟩ = some (.int .i64 0) ∧ w.heap.size < W.heap.size ∧ w.grownBy W none)
    (first | (exact ⟨c0, c1, c2, hlt, grown_drew hg0⟩) | (go_split_ands; exact ⟨(grown_cell hcb (by assumption) (by simp)).trans (by assumption), (grown_cell hcb (by assumption) (by simp)).trans (by assumption), (grown_cell hcb (by assumption) (by simp)).trans (by assumption), Nat.lt_of_lt_of_le (by assumption) hcb.size, grown_trans (by assumption) hcb⟩))
    (first
      | (go_split_ands; go_at_call 80; refine (Hf.out _ (by assumption)).mono ?_; rintro e w' ⟨rfl, hcb⟩)
      | (go_split_ands; go_at_call 79; refine (same_fault _ d _ r Hr.out).mono ?_; rintro e w' ⟨rfl, hcb⟩))
  go_wp2
  go_ret
  go_split_ands
  exact ⟨rfl, by assumption⟩
set_option maxRecDepth 100000 in
theorem is_none14 {w : World} (d : Int) (r : Bool) (hr : ((0 : Int) == d) = r) :
    Calls Tryd.prog 27 #[.nilIface, .int .i64 d] w fun e w' => e = .returned (.bool r) ∧ w.grownBy w' none := by
  have Hr := hid hr
  clear hr
  obtain ⟨v, hv⟩ : ∃ v : Value, .nilIface = v := ⟨_, rfl⟩
  have Hf : ∀ W, w.grownBy W none → Calls Tryd.prog 53 #[v, faultV d] W fun e w' => e = .returned (.bool r) ∧ W.grownBy w' none := fun W hW => by rw [← hv]; exact same_none14 d r Hr.out
  have Hf := hid Hf
  rw [hv]
  clear hv
  go_enter Tryd.func27, Tryd.ntmps27
  go_wp2_with fail
  refine (bare_any d w).mono ?_; rintro e w1 ⟨rfl, hg⟩
  have HG1 := hid hg
  clear hg
  go_wp2_with fail
  refine (Hf.out _ HG1.out).mono ?_; rintro e w2 ⟨rfl, hg⟩
  have HG2 := hid (grown_trans HG1.out hg)
  clear hg
  go_wp2
  go_ret
  exact ⟨rfl, HG2.out⟩
theorem is14 {A : Nat → Addr} {w : World} (h : Sents w A) {r : Int} (hr : r = 104 ∨ r = 103 ∨ r = 0) :
    Calls Tryd.prog 27 #[lvV A r, .int .i64 r] w fun e w' => e = .returned (.bool true) ∧ w.grownBy w' none := by
  rcases hr with rfl | rfl | rfl
  · exact is_sent h 3 (by decide) 104 true rfl
  · exact is_sent h 2 (by decide) 103 true rfl
  · exact is_none14 0 true rfl
theorem codeB_cases (x : Ig) (q : Int) : codeB x q = 104 ∨ codeB x q = 103 ∨ codeB x q = 0 := by
  unfold codeB
  rcases valI_cases x with h | h | h <;> rw [h]
  · exact .inl rfl
  · exact .inr (.inl rfl)
  · rw [if_neg (by decide)]
    by_cases h2 : q < (quoI x : Int) ∨ 256 < q
    · rw [if_pos h2]; exact .inr (.inl rfl)
    · rw [if_neg h2]; exact .inr (.inr rfl)
end Go.Proofs.YtpkgckjlhjcdmaaDoor
