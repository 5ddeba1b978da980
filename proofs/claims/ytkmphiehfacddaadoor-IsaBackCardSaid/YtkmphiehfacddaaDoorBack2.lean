/- The walk of the law IsaBack, where the words are unlike. -/
import Derived.Test.YtkmphiehfacddaaDoorInj
import Derived.Deep.RegionHeld3
namespace Go.Proofs.YtkmphiehfacddaaDoor
open Go.RowKit
theorem list_ne2 {x y : ByteArray} (h : x ≠ y) : ¬ x.toList = y.toList := fun e => h (WideShapes.bytes_inj (by rw [← ByteArray.toList_eq, ← ByteArray.toList_eq]; exact e))
set_option maxHeartbeats 80000000 in
theorem back_word (o a b c i o' a' b' c' i' : Nat) (w : World) (hv : Vars w) (hi : i < 4294967296) (hi' : i' < 4294967296) (hI : insB o a b c i = true) (hK : insB o' a' b' c' i' = true) (hW : (wrdI o a b c == wrdI o' a' b' c') = false) (hS : samI o a b c i o' a' b' c' i' = false) (hT : textB o a b c i ≠ textB o' a' b' c' i') :
    Calls Tryd.prog 4 #[.agg #[.int .i64 o, .int .i64 a, .int .i64 b, .int .i64 c, .int .u32 i], .agg #[.int .i64 o', .int .i64 a', .int .i64 b', .int .i64 c', .int .u32 i']] w fun e w' => e = .returned (.bool true) ∧ Below w.heap.size w w' := by
  have hwi := want_same hI
  have hwv := wordV_yes hI
  have hq : samI o a b c i o a b c i = true := by simp [samI]
  have hlen := text_two_up hI
  have hkv := wordV_yes hK
  have hi5 : At5 ((w.alloc (.cells #[.int .i64 o, .int .i64 a, .int .i64 b, .int .i64 c, .int .u32 i] 24)).alloc (.cells #[.int .i64 o', .int .i64 a', .int .i64 b', .int .i64 c', .int .u32 i'] 24)) (w.heap.size) (.int .i64 o) (.int .i64 a) (.int .i64 b) (.int .i64 c) (.int .u32 i) := (At5.new _ _ _ _ _ _ _).alloc _
  have hk5 : At5 ((w.alloc (.cells #[.int .i64 o, .int .i64 a, .int .i64 b, .int .i64 c, .int .u32 i] 24)).alloc (.cells #[.int .i64 o', .int .i64 a', .int .i64 b', .int .i64 c', .int .u32 i'] 24)) (w.heap.size + 1) (.int .i64 o') (.int .i64 a') (.int .i64 b') (.int .i64 c') (.int .u32 i') := by have := At5.new (w.alloc (.cells #[.int .i64 o, .int .i64 a, .int .i64 b, .int .i64 c, .int .u32 i] 24)) (.int .i64 o') (.int .i64 a') (.int .i64 b') (.int .i64 c') (.int .u32 i') 24; simpa only [World.size_alloc] using this
  have hB5 : Below w.heap.size w ((w.alloc (.cells #[.int .i64 o, .int .i64 a, .int .i64 b, .int .i64 c, .int .u32 i] 24)).alloc (.cells #[.int .i64 o', .int .i64 a', .int .i64 b', .int .i64 c', .int .u32 i'] 24)) := by go_grown
  have hV5 := hv.below hB5
  have hs5 := hB5.size
  go_enter Tryd.func4, Tryd.ntmps4
  go_wp2_with fail
  refine (first_any _).mono ?_; rintro e wa ⟨rfl, hcb⟩
  have hi5 : At5 wa (w.heap.size) (.int .i64 o) (.int .i64 a) (.int .i64 b) (.int .i64 c) (.int .u32 i) := At5.below (by repeat (first | exact hi5 | apply At5.alloc)) hcb
  have hk5 : At5 wa (w.heap.size + 1) (.int .i64 o') (.int .i64 a') (.int .i64 b') (.int .i64 c') (.int .u32 i') := At5.below (by repeat (first | exact hk5 | apply At5.alloc)) hcb
  have hV5 : Vars wa := (Vars.below hV5 (by go_grown)).below hcb
  have hB5 : Below w.heap.size w wa := (by refine Below.trans ?_ (hcb.mono ?_) <;> go_grown)
  have hs5 := hB5.size
  obtain ⟨zi, i0, i1, i2, i3, i4⟩ := hi5
  have hi5 := At5.mk zi i0 i1 i2 i3 i4
  obtain ⟨zk, k0, k1, k2, k3, k4⟩ := hk5
  have hk5 := At5.mk zk k0 k1 k2 k3 k4
  clear hcb
  go_wp2_with fail
  refine (word_any _ _ _ _ _ _).mono ?_; rintro e wb ⟨rfl, hcb⟩
  have hi5 : At5 wb (w.heap.size) (.int .i64 o) (.int .i64 a) (.int .i64 b) (.int .i64 c) (.int .u32 i) := At5.below (by repeat (first | exact hi5 | apply At5.alloc)) hcb
  have hk5 : At5 wb (w.heap.size + 1) (.int .i64 o') (.int .i64 a') (.int .i64 b') (.int .i64 c') (.int .u32 i') := At5.below (by repeat (first | exact hk5 | apply At5.alloc)) hcb
  have hV5 : Vars wb := (Vars.below hV5 (by go_grown)).below hcb
  have hB5 : Below w.heap.size w wb := (by refine Below.trans ?_ (hcb.mono ?_) <;> go_grown)
  have hs5 := hB5.size
  clear zi i0 i1 i2 i3 i4 zk k0 k1 k2 k3 k4
  obtain ⟨zi, i0, i1, i2, i3, i4⟩ := hi5
  have hi5 := At5.mk zi i0 i1 i2 i3 i4
  obtain ⟨zk, k0, k1, k2, k3, k4⟩ := hk5
  have hk5 := At5.mk zk k0 k1 k2 k3 k4
  clear hcb
  go_wp2_with fail
  refine (word_any _ _ _ _ _ _).mono ?_; rintro e wc ⟨rfl, hcb⟩
  have hi5 : At5 wc (w.heap.size) (.int .i64 o) (.int .i64 a) (.int .i64 b) (.int .i64 c) (.int .u32 i) := At5.below (by repeat (first | exact hi5 | apply At5.alloc)) hcb
  have hk5 : At5 wc (w.heap.size + 1) (.int .i64 o') (.int .i64 a') (.int .i64 b') (.int .i64 c') (.int .u32 i') := At5.below (by repeat (first | exact hk5 | apply At5.alloc)) hcb
  have hV5 : Vars wc := (Vars.below hV5 (by go_grown)).below hcb
  have hB5 : Below w.heap.size w wc := (by refine Below.trans ?_ (hcb.mono ?_) <;> go_grown)
  have hs5 := hB5.size
  clear zi i0 i1 i2 i3 i4 zk k0 k1 k2 k3 k4
  obtain ⟨zi, i0, i1, i2, i3, i4⟩ := hi5
  have hi5 := At5.mk zi i0 i1 i2 i3 i4
  obtain ⟨zk, k0, k1, k2, k3, k4⟩ := hk5
  have hk5 := At5.mk zk k0 k1 k2 k3 k4
  clear hcb
  go_wp2_with fail
  refine (of_wrd' (t := (i : Int)) o a b c i _ hwi hI).mono ?_; rintro e wd ⟨rfl, hcb⟩
  have hi5 : At5 wd (w.heap.size) (.int .i64 o) (.int .i64 a) (.int .i64 b) (.int .i64 c) (.int .u32 i) := At5.below (by repeat (first | exact hi5 | apply At5.alloc)) hcb
  have hk5 : At5 wd (w.heap.size + 1) (.int .i64 o') (.int .i64 a') (.int .i64 b') (.int .i64 c') (.int .u32 i') := At5.below (by repeat (first | exact hk5 | apply At5.alloc)) hcb
  have hV5 : Vars wd := (Vars.below hV5 (by go_grown)).below hcb
  have hB5 : Below w.heap.size w wd := (by refine Below.trans ?_ (hcb.mono ?_) <;> go_grown)
  have hs5 := hB5.size
  clear zi i0 i1 i2 i3 i4 zk k0 k1 k2 k3 k4
  obtain ⟨zi, i0, i1, i2, i3, i4⟩ := hi5
  have hi5 := At5.mk zi i0 i1 i2 i3 i4
  obtain ⟨zk, k0, k1, k2, k3, k4⟩ := hk5
  have hk5 := At5.mk zk k0 k1 k2 k3 k4
  clear hcb
  go_wp2_with fail
  refine (same_any _ _ _ _ _ _ _ _ _ _ _).mono ?_; rintro e we ⟨rfl, hcb⟩
  have hi5 : At5 we (w.heap.size) (.int .i64 o) (.int .i64 a) (.int .i64 b) (.int .i64 c) (.int .u32 i) := At5.below (by repeat (first | exact hi5 | apply At5.alloc)) hcb
  have hk5 : At5 we (w.heap.size + 1) (.int .i64 o') (.int .i64 a') (.int .i64 b') (.int .i64 c') (.int .u32 i') := At5.below (by repeat (first | exact hk5 | apply At5.alloc)) hcb
  have hV5 : Vars we := (Vars.below hV5 (by go_grown)).below hcb
  have hB5 : Below w.heap.size w we := (by refine Below.trans ?_ (hcb.mono ?_) <;> go_grown)
  have hs5 := hB5.size
  clear zi i0 i1 i2 i3 i4 zk k0 k1 k2 k3 k4
  obtain ⟨zi, i0, i1, i2, i3, i4⟩ := hi5
  have hi5 := At5.mk zi i0 i1 i2 i3 i4
  obtain ⟨zk, k0, k1, k2, k3, k4⟩ := hk5
  have hk5 := At5.mk zk k0 k1 k2 k3 k4
  clear hcb
  go_wp2_with fail
  refine (text_any o a b c i hi _ hV5 hI).mono ?_; rintro e wf ⟨rfl, hcb⟩
  have hi5 : At5 wf (w.heap.size) (.int .i64 o) (.int .i64 a) (.int .i64 b) (.int .i64 c) (.int .u32 i) := At5.below (by repeat (first | exact hi5 | apply At5.alloc)) hcb
  have hk5 : At5 wf (w.heap.size + 1) (.int .i64 o') (.int .i64 a') (.int .i64 b') (.int .i64 c') (.int .u32 i') := At5.below (by repeat (first | exact hk5 | apply At5.alloc)) hcb
  have hV5 : Vars wf := (Vars.below hV5 (by go_grown)).below hcb
  have hB5 : Below w.heap.size w wf := (by refine Below.trans ?_ (hcb.mono ?_) <;> go_grown)
  have hs5 := hB5.size
  clear zi i0 i1 i2 i3 i4 zk k0 k1 k2 k3 k4
  obtain ⟨zi, i0, i1, i2, i3, i4⟩ := hi5
  have hi5 := At5.mk zi i0 i1 i2 i3 i4
  obtain ⟨zk, k0, k1, k2, k3, k4⟩ := hk5
  have hk5 := At5.mk zk k0 k1 k2 k3 k4
  clear hcb
  go_wp2_with fail
  refine (same_any _ _ _ _ _ _ _ _ _ _ _).mono ?_; rintro e wg ⟨rfl, hcb⟩
  have hi5 : At5 wg (w.heap.size) (.int .i64 o) (.int .i64 a) (.int .i64 b) (.int .i64 c) (.int .u32 i) := At5.below (by repeat (first | exact hi5 | apply At5.alloc)) hcb
  have hk5 : At5 wg (w.heap.size + 1) (.int .i64 o') (.int .i64 a') (.int .i64 b') (.int .i64 c') (.int .u32 i') := At5.below (by repeat (first | exact hk5 | apply At5.alloc)) hcb
  have hV5 : Vars wg := (Vars.below hV5 (by go_grown)).below hcb
  have hB5 : Below w.heap.size w wg := (by refine Below.trans ?_ (hcb.mono ?_) <;> go_grown)
  have hs5 := hB5.size
  clear zi i0 i1 i2 i3 i4 zk k0 k1 k2 k3 k4
  obtain ⟨zi, i0, i1, i2, i3, i4⟩ := hi5
  have hi5 := At5.mk zi i0 i1 i2 i3 i4
  obtain ⟨zk, k0, k1, k2, k3, k4⟩ := hk5
  have hk5 := At5.mk zk k0 k1 k2 k3 k4
  clear hcb
  go_wp2_with fail
  clear zi i0 i1 i2 i3 i4 zk k0 k1 k2 k3 k4 hq hlen hwi hwv hkv
  generalize wrdI (o : Int) a b c = X at hW ⊢
  generalize wrdI (o' : Int) a' b' c' = Y at hW ⊢
  refine wp_region_held_drew (S := (fun W => w.heap.size < W.heap.size ∧ W.cell? ⟨w.heap.size, 0, none⟩ = some (.int .i64 o) ∧ W.cell? ⟨w.heap.size, 1, none⟩ = some (.int .i64 a) ∧ W.cell? ⟨w.heap.size, 2, none⟩ = some (.int .i64 b) ∧ W.cell? ⟨w.heap.size, 3, none⟩ = some (.int .i64 c) ∧ W.cell? ⟨w.heap.size, 4, none⟩ = some (.int .u32 i) ∧ w.heap.size + 1 < W.heap.size ∧ W.cell? ⟨w.heap.size + 1, 0, none⟩ = some (.int .i64 o') ∧ W.cell? ⟨w.heap.size + 1, 1, none⟩ = some (.int .i64 a') ∧ W.cell? ⟨w.heap.size + 1, 2, none⟩ = some (.int .i64 b') ∧ W.cell? ⟨w.heap.size + 1, 3, none⟩ = some (.int .i64 c') ∧ W.cell? ⟨w.heap.size + 1, 4, none⟩ = some (.int .u32 i') ∧ Vars W ∧ Below w.heap.size w W)) (by kernel_rfl) ?_ (fun hHeld => ?_)
  · exact ⟨hi5.lt, hi5.c0, hi5.c1, hi5.c2, hi5.c3, hi5.c4, hk5.lt, hk5.c0, hk5.c1, hk5.c2, hk5.c3, hk5.c4, hV5.below (by go_grown), hB5.drew⟩
  refine wpAnyH_take (i := 0) (v := ?_) rfl (by kernel_rfl) (by kernel_rfl) (by kernel_rfl) (fun _ _ _ h => h) (Or.inl ⟨by kernel_rfl, ?_⟩) (by assumption) ?_
  rotate_left
  · (intro w hSw; (try dsimp only at hSw); go_simp; try with_reducible rfl)
  try simp only [Act.put, List.setIfInBounds_toArray, List.set_cons_zero, List.set_cons_succ, List.getElem_toArray, List.getElem_cons_succ, List.getElem_cons_zero]
  refine wpAnyH_take (i := 1) (v := ?_) rfl (by kernel_rfl) (by kernel_rfl) (by kernel_rfl) (fun _ _ _ h => h) (Or.inl ⟨by kernel_rfl, ?_⟩) (by assumption) ?_
  rotate_left
  · (intro w hSw; (try dsimp only at hSw); go_simp; try with_reducible rfl)
  try simp only [Act.put, List.setIfInBounds_toArray, List.set_cons_zero, List.set_cons_succ, List.getElem_toArray, List.getElem_cons_succ, List.getElem_cons_zero]
  refine wpAnyH_take (i := 2) (v := ?_) rfl (by kernel_rfl) (by kernel_rfl) (by kernel_rfl) (fun _ _ _ h => h) (Or.inl ⟨by kernel_rfl, ?_⟩) (by assumption) ?_
  rotate_left
  · (intro w hSw; (try dsimp only at hSw); go_simp; try with_reducible rfl)
  try simp only [Act.put, List.setIfInBounds_toArray, List.set_cons_zero, List.set_cons_succ, List.getElem_toArray, List.getElem_cons_succ, List.getElem_cons_zero]
  refine wpAnyH_take (i := 3) (v := ?_) rfl (by kernel_rfl) (by kernel_rfl) (by kernel_rfl) (fun _ _ _ h => h) (Or.inl ⟨by kernel_rfl, ?_⟩) (by assumption) ?_
  rotate_left
  · (intro w hSw; (try dsimp only at hSw); go_simp; try with_reducible rfl)
  try simp only [Act.put, List.setIfInBounds_toArray, List.set_cons_zero, List.set_cons_succ, List.getElem_toArray, List.getElem_cons_succ, List.getElem_cons_zero]
  refine wpAnyH_take (i := 4) (v := ?_) rfl (by kernel_rfl) (by kernel_rfl) (by kernel_rfl) (fun _ _ _ h => h) (Or.inl ⟨by kernel_rfl, ?_⟩) (by assumption) ?_
  rotate_left
  · (intro w hSw; (try dsimp only at hSw); go_simp; try with_reducible rfl)
  try simp only [Act.put, List.setIfInBounds_toArray, List.set_cons_zero, List.set_cons_succ, List.getElem_toArray, List.getElem_cons_succ, List.getElem_cons_zero]
  refine wpAnyH_take (i := 5) (v := ?_) rfl (by kernel_rfl) (by kernel_rfl) (by kernel_rfl) (fun _ _ _ h => h) (Or.inl ⟨by kernel_rfl, ?_⟩) (by assumption) ?_
  rotate_left
  · (intro w hSw; (try dsimp only at hSw); go_simp; try with_reducible rfl)
  try simp only [Act.put, List.setIfInBounds_toArray, List.set_cons_zero, List.set_cons_succ, List.getElem_toArray, List.getElem_cons_succ, List.getElem_cons_zero]
  refine wpAnyH_take (i := 6) (v := ?_) rfl (by kernel_rfl) (by kernel_rfl) (by kernel_rfl) (fun _ _ _ h => h) (Or.inl ⟨by kernel_rfl, ?_⟩) (by assumption) ?_
  rotate_left
  · (intro w hSw; (try dsimp only at hSw); go_simp; try with_reducible rfl)
  try simp only [Act.put, List.setIfInBounds_toArray, List.set_cons_zero, List.set_cons_succ, List.getElem_toArray, List.getElem_cons_succ, List.getElem_cons_zero]
  refine wpAnyH_take (i := 7) (v := .bool false) rfl (by kernel_rfl) (by kernel_rfl) (by kernel_rfl) (fun _ _ _ h => h) (Or.inl ⟨by kernel_rfl, ?_⟩) (by assumption) ?_
  · (intro w hSw; (try dsimp only at hSw); go_simp; try with_reducible rfl)
  try simp only [Act.put, List.setIfInBounds_toArray, List.set_cons_zero, List.set_cons_succ, List.getElem_toArray, List.getElem_cons_succ, List.getElem_cons_zero]
  refine wpAnyH_take (i := 8) (v := .bool false) rfl (by kernel_rfl) (by kernel_rfl) (by kernel_rfl) (fun _ _ _ h => h) (Or.inl ⟨by kernel_rfl, ?_⟩) (by assumption) ?_
  · (intro w hSw; (try dsimp only at hSw); go_simp; (try simp only [hW]); try with_reducible rfl)
  try simp only [Act.put, List.setIfInBounds_toArray, List.set_cons_zero, List.set_cons_succ, List.getElem_toArray, List.getElem_cons_succ, List.getElem_cons_zero]
  refine wpAnyH_take (i := 9) (v := undef) rfl (by kernel_rfl) (by kernel_rfl) (by kernel_rfl) (fun _ _ _ h => h) (Or.inr ⟨by kernel_rfl, rfl⟩) (by assumption) ?_
  try simp only [Act.put, List.setIfInBounds_toArray, List.set_cons_zero, List.set_cons_succ, List.getElem_toArray, List.getElem_cons_succ, List.getElem_cons_zero]
  refine wpAnyH_take (i := 10) (v := undef) rfl (by kernel_rfl) (by kernel_rfl) (by kernel_rfl) (fun _ _ _ h => h) (Or.inr ⟨by kernel_rfl, rfl⟩) (by assumption) ?_
  try simp only [Act.put, List.setIfInBounds_toArray, List.set_cons_zero, List.set_cons_succ, List.getElem_toArray, List.getElem_cons_succ, List.getElem_cons_zero]
  refine wpAnyH_take (i := 11) (v := undef) rfl (by kernel_rfl) (by kernel_rfl) (by kernel_rfl) (fun _ _ _ h => h) (Or.inr ⟨by kernel_rfl, rfl⟩) (by assumption) ?_
  try simp only [Act.put, List.setIfInBounds_toArray, List.set_cons_zero, List.set_cons_succ, List.getElem_toArray, List.getElem_cons_succ, List.getElem_cons_zero]
  refine wpAnyH_take (i := 12) (v := undef) rfl (by kernel_rfl) (by kernel_rfl) (by kernel_rfl) (fun _ _ _ h => h) (Or.inr ⟨by kernel_rfl, rfl⟩) (by assumption) ?_
  try simp only [Act.put, List.setIfInBounds_toArray, List.set_cons_zero, List.set_cons_succ, List.getElem_toArray, List.getElem_cons_succ, List.getElem_cons_zero]
  refine wpAnyH_take (i := 13) (v := undef) rfl (by kernel_rfl) (by kernel_rfl) (by kernel_rfl) (fun _ _ _ h => h) (Or.inr ⟨by kernel_rfl, rfl⟩) (by assumption) ?_
  try simp only [Act.put, List.setIfInBounds_toArray, List.set_cons_zero, List.set_cons_succ, List.getElem_toArray, List.getElem_cons_succ, List.getElem_cons_zero]
  refine wpAnyH_take (i := 14) (v := ?_) rfl (by kernel_rfl) (by kernel_rfl) (by kernel_rfl) (fun _ _ _ h => h) (Or.inl ⟨by kernel_rfl, ?_⟩) (by assumption) ?_
  rotate_left
  · (intro w hSw; (try dsimp only at hSw); go_simp; try with_reducible rfl)
  try simp only [Act.put, List.setIfInBounds_toArray, List.set_cons_zero, List.set_cons_succ, List.getElem_toArray, List.getElem_cons_succ, List.getElem_cons_zero]
  refine wpAnyH_take (i := 15) (v := ?_) rfl (by kernel_rfl) (by kernel_rfl) (by kernel_rfl) (fun _ _ _ h => h) (Or.inl ⟨by kernel_rfl, ?_⟩) (by assumption) ?_
  rotate_left
  · (intro w hSw; (try dsimp only at hSw); go_simp; try with_reducible rfl)
  try simp only [Act.put, List.setIfInBounds_toArray, List.set_cons_zero, List.set_cons_succ, List.getElem_toArray, List.getElem_cons_succ, List.getElem_cons_zero]
  refine wpAnyH_take (i := 16) (v := ?_) rfl (by kernel_rfl) (by kernel_rfl) (by kernel_rfl) (fun _ _ _ h => h) (Or.inl ⟨by kernel_rfl, ?_⟩) (by assumption) ?_
  rotate_left
  · (intro w hSw; (try dsimp only at hSw); go_simp; try with_reducible rfl)
  try simp only [Act.put, List.setIfInBounds_toArray, List.set_cons_zero, List.set_cons_succ, List.getElem_toArray, List.getElem_cons_succ, List.getElem_cons_zero]
  refine wpAnyH_take (i := 17) (v := ?_) rfl (by kernel_rfl) (by kernel_rfl) (by kernel_rfl) (fun _ _ _ h => h) (Or.inl ⟨by kernel_rfl, ?_⟩) (by assumption) ?_
  rotate_left
  · (intro w hSw; (try dsimp only at hSw); go_simp; try with_reducible rfl)
  try simp only [Act.put, List.setIfInBounds_toArray, List.set_cons_zero, List.set_cons_succ, List.getElem_toArray, List.getElem_cons_succ, List.getElem_cons_zero]
  refine wpAnyH_take (i := 18) (v := ?_) rfl (by kernel_rfl) (by kernel_rfl) (by kernel_rfl) (fun _ _ _ h => h) (Or.inl ⟨by kernel_rfl, ?_⟩) (by assumption) ?_
  rotate_left
  · (intro w hSw; (try dsimp only at hSw); go_simp; try with_reducible rfl)
  try simp only [Act.put, List.setIfInBounds_toArray, List.set_cons_zero, List.set_cons_succ, List.getElem_toArray, List.getElem_cons_succ, List.getElem_cons_zero]
  refine wpAnyH_take (i := 20) (v := ?_) rfl (by kernel_rfl) (by kernel_rfl) (by kernel_rfl) (fun _ _ _ h => h) (Or.inl ⟨by kernel_rfl, ?_⟩) (by assumption) ?_
  rotate_left
  · (intro w hSw; (try dsimp only at hSw); go_simp; try with_reducible rfl)
  try simp only [Act.put, List.setIfInBounds_toArray, List.set_cons_zero, List.set_cons_succ, List.getElem_toArray, List.getElem_cons_succ, List.getElem_cons_zero]
  refine wpAnyH_take (i := 23) (v := ?_) rfl (by kernel_rfl) (by kernel_rfl) (by kernel_rfl) (fun _ _ _ h => h) (Or.inl ⟨by kernel_rfl, ?_⟩) (by assumption) ?_
  rotate_left
  · (intro w hSw; (try dsimp only at hSw); go_simp; try with_reducible rfl)
  try simp only [Act.put, List.setIfInBounds_toArray, List.set_cons_zero, List.set_cons_succ, List.getElem_toArray, List.getElem_cons_succ, List.getElem_cons_zero]
  refine wpAnyH_ready (rs := [19]) (by kernel_rfl) (by simp) ?_
  refine AllReadyH.cons rfl (fun KK hKK => ?_) AllReadyH.nil
  go_simp
  go_split_ands
  refine (text_any o a b c i hi _ (by assumption) hI).mono ?_; rintro e w' ⟨rfl, hcb⟩
  refine hKK.out _ _ ?_ (fun hHeld => ?_)
  · (go_split_ands; (repeat' apply And.intro) <;> first | (refine Eq.trans (hcb.cell ?_) ?_ <;> assumption) | (exact Nat.lt_of_lt_of_le (by assumption) hcb.size) | (exact Vars.below (by assumption) hcb) | (refine Below.trans (by assumption) (hcb.mono ?_); exact Below.size (by assumption)))
  clear hKK KK hcb
  try simp only [Act.put, List.setIfInBounds_toArray, List.set_cons_zero, List.set_cons_succ, List.getElem_toArray, List.getElem_cons_succ, List.getElem_cons_zero]
  refine wpAnyH_ready (rs := [21]) (by kernel_rfl) (by simp) ?_
  refine AllReadyH.cons rfl (fun KK hKK => ?_) AllReadyH.nil
  go_simp
  go_split_ands
  refine (text_any o' a' b' c' i' hi' _ (by assumption) hK).mono ?_; rintro e w' ⟨rfl, hcb⟩
  refine hKK.out _ _ ?_ (fun hHeld => ?_)
  · (go_split_ands; (repeat' apply And.intro) <;> first | (refine Eq.trans (hcb.cell ?_) ?_ <;> assumption) | (exact Nat.lt_of_lt_of_le (by assumption) hcb.size) | (exact Vars.below (by assumption) hcb) | (refine Below.trans (by assumption) (hcb.mono ?_); exact Below.size (by assumption)))
  clear hKK KK hcb
  try simp only [Act.put, List.setIfInBounds_toArray, List.set_cons_zero, List.set_cons_succ, List.getElem_toArray, List.getElem_cons_succ, List.getElem_cons_zero]
  refine wpAnyH_take (i := 22) (v := ?_) rfl (by kernel_rfl) (by kernel_rfl) (by kernel_rfl) (fun _ _ _ h => h) (Or.inl ⟨by kernel_rfl, ?_⟩) (by assumption) ?_
  rotate_left
  · (intro w hSw; (try dsimp only at hSw); go_simp; try with_reducible rfl)
  try simp only [Act.put, List.setIfInBounds_toArray, List.set_cons_zero, List.set_cons_succ, List.getElem_toArray, List.getElem_cons_succ, List.getElem_cons_zero]
  refine wpAnyH_take (i := 24) (v := ?_) rfl (by kernel_rfl) (by kernel_rfl) (by kernel_rfl) (fun _ _ _ h => h) (Or.inl ⟨by kernel_rfl, ?_⟩) (by assumption) ?_
  rotate_left
  · (intro w hSw; (try dsimp only at hSw); go_simp; try with_reducible rfl)
  try simp only [Act.put, List.setIfInBounds_toArray, List.set_cons_zero, List.set_cons_succ, List.getElem_toArray, List.getElem_cons_succ, List.getElem_cons_zero]
  refine wpAnyH_take (i := 25) (v := ?_) rfl (by kernel_rfl) (by kernel_rfl) (by kernel_rfl) (fun _ _ _ h => h) (Or.inl ⟨by kernel_rfl, ?_⟩) (by assumption) ?_
  rotate_left
  · (intro w hSw; (try dsimp only at hSw); go_simp; try with_reducible rfl)
  try simp only [Act.put, List.setIfInBounds_toArray, List.set_cons_zero, List.set_cons_succ, List.getElem_toArray, List.getElem_cons_succ, List.getElem_cons_zero]
  refine wpAnyH_take (i := 26) (v := ?_) rfl (by kernel_rfl) (by kernel_rfl) (by kernel_rfl) (fun _ _ _ h => h) (Or.inl ⟨by kernel_rfl, ?_⟩) (by assumption) ?_
  rotate_left
  · (intro w hSw; (try dsimp only at hSw); go_simp; try with_reducible rfl)
  try simp only [Act.put, List.setIfInBounds_toArray, List.set_cons_zero, List.set_cons_succ, List.getElem_toArray, List.getElem_cons_succ, List.getElem_cons_zero]
  refine wpAnyH_take (i := 27) (v := ?_) rfl (by kernel_rfl) (by kernel_rfl) (by kernel_rfl) (fun _ _ _ h => h) (Or.inl ⟨by kernel_rfl, ?_⟩) (by assumption) ?_
  rotate_left
  · (intro w hSw; (try dsimp only at hSw); go_simp; try with_reducible rfl)
  try simp only [Act.put, List.setIfInBounds_toArray, List.set_cons_zero, List.set_cons_succ, List.getElem_toArray, List.getElem_cons_succ, List.getElem_cons_zero]
  refine wpAnyH_take (i := 28) (v := ?_) rfl (by kernel_rfl) (by kernel_rfl) (by kernel_rfl) (fun _ _ _ h => h) (Or.inl ⟨by kernel_rfl, ?_⟩) (by assumption) ?_
  rotate_left
  · (intro w hSw; (try dsimp only at hSw); go_simp; try with_reducible rfl)
  try simp only [Act.put, List.setIfInBounds_toArray, List.set_cons_zero, List.set_cons_succ, List.getElem_toArray, List.getElem_cons_succ, List.getElem_cons_zero]
  refine wpAnyH_done (by kernel_rfl) ?_ _
  go_wp2
  go_ret
  go_split_ands
  refine ⟨?_, by assumption⟩
  exact ret_b (by first | rfl | (simp [list_ne2 hT]; done))
end Go.Proofs.YtkmphiehfacddaaDoor
