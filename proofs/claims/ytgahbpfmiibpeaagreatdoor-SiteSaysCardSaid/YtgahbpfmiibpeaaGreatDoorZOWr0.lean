/- An object of the law's own, in a box; a part of it that grows. (Made by gowrong0.py.) -/
import Derived.Test.YtgahbpfmiibpeaaGreatDoorZOOwn0
namespace Go.Proofs.YtgahbpfmiibpeaaGreatDoor
open Go.RowKit
/-- G1: the box of V1, of the law's own; Ts: blocks beside it that none of its rows is -/
structure OBx (W w : World) (G1 : Nat) (Ts : List Nat) (V1 : OV) (x1 : PO) : Prop where
  below : Below W.heap.size W w
  g1 : RwAt w G1 27 #[V1.d, V1.c, V1.m, V1.r, V1.q, V1.s]
  own : OwnO W.heap.size w V1 x1
  ge1 : W.heap.size ≤ G1
  ne : ∀ u ∈ [V1.d, V1.c, V1.m, V1.r, V1.q, V1.s], u.ownBlock ≠ some G1 ∧ ∀ T ∈ Ts, u.ownBlock ≠ some T
  lts : ∀ T ∈ Ts, T < w.heap.size
section
variable {W w w1 : World} {G1 : Nat} {Ts : List Nat} {V1 : OV} {x1 : PO}
theorem OBx.le (h : OBx W w G1 Ts V1 x1) : W.heap.size ≤ w.heap.size := h.below.size
theorem OBx.kept0 (h : OBx W w G1 Ts V1 x1) (hg : w.grownBy w1 none) : OBx W w1 G1 Ts V1 x1 :=
  ⟨h.below.grown hg h.le (by simp), h.g1.kept0 hg, h.own.kept0 hg, h.ge1, h.ne, fun T hT => Nat.lt_of_lt_of_le (h.lts T hT) hg.size⟩
theorem OBx.tD (h : OBx W w G1 Ts V1 x1) {w5 : World} {g cap N M : Nat} (ys : List Int) (hN : N = x1.D.length) (hM : ys.length = M) (hg : w.grownBy w5 V1.d.ownBlock) (hm : V1.d.ownBlock = some g ∨ g = w.heap.size)
    (ho : w5.ownsRow W.heap.size 46 1 (.slice (some ⟨g, 0, none⟩) (N + M) cap) (N + M) ((x1.D).map (Value.int .u32) ++ (ys).map (Value.int .u32))) :
    OBx W (w5.setCell ⟨G1, 0, none⟩ (.slice (some ⟨g, 0, none⟩) (N + M) cap)) G1 Ts { V1 with d := .slice (some ⟨g, 0, none⟩) (N + M) cap } { x1 with D := x1.D ++ ys } := by
  subst hN
  subst hM
  obtain ⟨a01, a02, a03, a04, a05, a12, a13, a14, a15, a23, a24, a25, a34, a35, a45⟩ := pairs h.own.ap
  have n0 := h.ne V1.d (by simp)
  have n1 := h.ne V1.c (by simp)
  have n2 := h.ne V1.m (by simp)
  have n3 := h.ne V1.r (by simp)
  have n4 := h.ne V1.q (by simp)
  have n5 := h.ne V1.s (by simp)
  have hgs : w5.grownBy (w5.setCell ⟨G1, 0, none⟩ (.slice (some ⟨g, 0, none⟩) (x1.D.length + ys.length) cap)) (some G1) := grown_setCell (grown_refl _ _) _ _
  have hB : ∀ k, V1.d.ownBlock = some k → W.heap.size ≤ k := fun k hk => (h.own.d.lt k hk).1
  have hle := h.le
  have l1 := h.g1.lt
  have hg1 : g ≠ G1 := by rcases hm with hm | hm; (intro e; rw [e] at hm; exact n0.1 hm); omega
  have hgT : ∀ T ∈ Ts, g ≠ T := fun T hT => by rcases hm with hm | hm; (intro e; rw [e] at hm; exact n0.2 T hT hm); (have := h.lts T hT; omega)
  have ms : V1.d.ownBlock = (Value.slice (some ⟨g, 0, none⟩) (x1.D.length + ys.length) cap).ownBlock ∨ ∃ k, (Value.slice (some ⟨g, 0, none⟩) (x1.D.length + ys.length) cap).ownBlock = some k ∧ w.heap.size ≤ k := by
    rcases hm with hm | hm
    · left; rw [hm]; rfl
    · right; exact ⟨g, rfl, by omega⟩
  have k1 : RwAt w5 G1 27 #[V1.d, V1.c, V1.m, V1.r, V1.q, V1.s] := h.g1.kept hg (fun e => n0.1 e.symm)
  have k2 := k1.set 0 (.slice (some ⟨g, 0, none⟩) (x1.D.length + ys.length) cap)
  refine ⟨(h.below.grown hg hle hB).setCell (by exact h.ge1) _, ⟨?_⟩, ⟨?_, ?_, ?_, ?_, ?_, ?_, ?_⟩, h.ge1, ?_, fun T hT => Nat.lt_of_lt_of_le (h.lts T hT) (Nat.le_trans hg.size hgs.size)⟩
  · rw [k2.blk]; rfl
  · have := ho.kept hgs (.inr (by simpa [Value.ownBlock] using hg1))
    simpa [List.map_append] using this
  · exact (h.own.c.kept hg (ap_sym a01)).kept hgs (.inr n1.1)
  · exact (h.own.m.kept hg (ap_sym a02)).kept hgs (.inr n2.1)
  · exact (h.own.r.kept hg (ap_sym a03)).kept hgs (.inr n3.1)
  · exact (h.own.q.kept hg (ap_sym a04)).kept hgs (.inr n4.1)
  · exact (h.own.s.kept hg (ap_sym a05)).kept hgs (.inr n5.1)
  · exact unpairs (ap_new h.own.d h.own.c a01 ms) (ap_new h.own.d h.own.m a02 ms) (ap_new h.own.d h.own.r a03 ms) (ap_new h.own.d h.own.q a04 ms) (ap_new h.own.d h.own.s a05 ms) a12 a13 a14 a15 a23 a24 a25 a34 a35 a45
  · intro u hu
    simp only [List.mem_cons, List.not_mem_nil, or_false] at hu
    rcases hu with rfl | rfl | rfl | rfl | rfl | rfl
    · exact ⟨by simpa [Value.ownBlock] using hg1, fun T hT => by simpa [Value.ownBlock] using hgT T hT⟩
    · exact n1
    · exact n2
    · exact n3
    · exact n4
    · exact n5
theorem OBx.tC (h : OBx W w G1 Ts V1 x1) {w5 : World} {g cap N M : Nat} (ys : List Int) (hN : N = x1.C.length) (hM : ys.length = M) (hg : w.grownBy w5 V1.c.ownBlock) (hm : V1.c.ownBlock = some g ∨ g = w.heap.size)
    (ho : w5.ownsRow W.heap.size 46 1 (.slice (some ⟨g, 0, none⟩) (N + M) cap) (N + M) ((x1.C).map (Value.int .u32) ++ (ys).map (Value.int .u32))) :
    OBx W (w5.setCell ⟨G1, 1, none⟩ (.slice (some ⟨g, 0, none⟩) (N + M) cap)) G1 Ts { V1 with c := .slice (some ⟨g, 0, none⟩) (N + M) cap } { x1 with C := x1.C ++ ys } := by
  subst hN
  subst hM
  obtain ⟨a01, a02, a03, a04, a05, a12, a13, a14, a15, a23, a24, a25, a34, a35, a45⟩ := pairs h.own.ap
  have n0 := h.ne V1.d (by simp)
  have n1 := h.ne V1.c (by simp)
  have n2 := h.ne V1.m (by simp)
  have n3 := h.ne V1.r (by simp)
  have n4 := h.ne V1.q (by simp)
  have n5 := h.ne V1.s (by simp)
  have hgs : w5.grownBy (w5.setCell ⟨G1, 1, none⟩ (.slice (some ⟨g, 0, none⟩) (x1.C.length + ys.length) cap)) (some G1) := grown_setCell (grown_refl _ _) _ _
  have hB : ∀ k, V1.c.ownBlock = some k → W.heap.size ≤ k := fun k hk => (h.own.c.lt k hk).1
  have hle := h.le
  have l1 := h.g1.lt
  have hg1 : g ≠ G1 := by rcases hm with hm | hm; (intro e; rw [e] at hm; exact n1.1 hm); omega
  have hgT : ∀ T ∈ Ts, g ≠ T := fun T hT => by rcases hm with hm | hm; (intro e; rw [e] at hm; exact n1.2 T hT hm); (have := h.lts T hT; omega)
  have ms : V1.c.ownBlock = (Value.slice (some ⟨g, 0, none⟩) (x1.C.length + ys.length) cap).ownBlock ∨ ∃ k, (Value.slice (some ⟨g, 0, none⟩) (x1.C.length + ys.length) cap).ownBlock = some k ∧ w.heap.size ≤ k := by
    rcases hm with hm | hm
    · left; rw [hm]; rfl
    · right; exact ⟨g, rfl, by omega⟩
  have k1 : RwAt w5 G1 27 #[V1.d, V1.c, V1.m, V1.r, V1.q, V1.s] := h.g1.kept hg (fun e => n1.1 e.symm)
  have k2 := k1.set 1 (.slice (some ⟨g, 0, none⟩) (x1.C.length + ys.length) cap)
  refine ⟨(h.below.grown hg hle hB).setCell (by exact h.ge1) _, ⟨?_⟩, ⟨?_, ?_, ?_, ?_, ?_, ?_, ?_⟩, h.ge1, ?_, fun T hT => Nat.lt_of_lt_of_le (h.lts T hT) (Nat.le_trans hg.size hgs.size)⟩
  · rw [k2.blk]; rfl
  · exact (h.own.d.kept hg (a01)).kept hgs (.inr n0.1)
  · have := ho.kept hgs (.inr (by simpa [Value.ownBlock] using hg1))
    simpa [List.map_append] using this
  · exact (h.own.m.kept hg (ap_sym a12)).kept hgs (.inr n2.1)
  · exact (h.own.r.kept hg (ap_sym a13)).kept hgs (.inr n3.1)
  · exact (h.own.q.kept hg (ap_sym a14)).kept hgs (.inr n4.1)
  · exact (h.own.s.kept hg (ap_sym a15)).kept hgs (.inr n5.1)
  · exact unpairs (ap_sym (ap_new h.own.c h.own.d (ap_sym a01) ms)) a02 a03 a04 a05 (ap_new h.own.c h.own.m a12 ms) (ap_new h.own.c h.own.r a13 ms) (ap_new h.own.c h.own.q a14 ms) (ap_new h.own.c h.own.s a15 ms) a23 a24 a25 a34 a35 a45
  · intro u hu
    simp only [List.mem_cons, List.not_mem_nil, or_false] at hu
    rcases hu with rfl | rfl | rfl | rfl | rfl | rfl
    · exact n0
    · exact ⟨by simpa [Value.ownBlock] using hg1, fun T hT => by simpa [Value.ownBlock] using hgT T hT⟩
    · exact n2
    · exact n3
    · exact n4
    · exact n5
theorem OBx.tM (h : OBx W w G1 Ts V1 x1) {w5 : World} {g cap N M : Nat} (ys : List Int) (hN : N = x1.M.length) (hM : ys.length = M) (hg : w.grownBy w5 V1.m.ownBlock) (hm : V1.m.ownBlock = some g ∨ g = w.heap.size)
    (ho : w5.ownsRow W.heap.size 5 1 (.slice (some ⟨g, 0, none⟩) (N + M) cap) (N + M) ((x1.M).map (Value.int .u8) ++ (ys).map (Value.int .u8))) :
    OBx W (w5.setCell ⟨G1, 2, none⟩ (.slice (some ⟨g, 0, none⟩) (N + M) cap)) G1 Ts { V1 with m := .slice (some ⟨g, 0, none⟩) (N + M) cap } { x1 with M := x1.M ++ ys } := by
  subst hN
  subst hM
  obtain ⟨a01, a02, a03, a04, a05, a12, a13, a14, a15, a23, a24, a25, a34, a35, a45⟩ := pairs h.own.ap
  have n0 := h.ne V1.d (by simp)
  have n1 := h.ne V1.c (by simp)
  have n2 := h.ne V1.m (by simp)
  have n3 := h.ne V1.r (by simp)
  have n4 := h.ne V1.q (by simp)
  have n5 := h.ne V1.s (by simp)
  have hgs : w5.grownBy (w5.setCell ⟨G1, 2, none⟩ (.slice (some ⟨g, 0, none⟩) (x1.M.length + ys.length) cap)) (some G1) := grown_setCell (grown_refl _ _) _ _
  have hB : ∀ k, V1.m.ownBlock = some k → W.heap.size ≤ k := fun k hk => (h.own.m.lt k hk).1
  have hle := h.le
  have l1 := h.g1.lt
  have hg1 : g ≠ G1 := by rcases hm with hm | hm; (intro e; rw [e] at hm; exact n2.1 hm); omega
  have hgT : ∀ T ∈ Ts, g ≠ T := fun T hT => by rcases hm with hm | hm; (intro e; rw [e] at hm; exact n2.2 T hT hm); (have := h.lts T hT; omega)
  have ms : V1.m.ownBlock = (Value.slice (some ⟨g, 0, none⟩) (x1.M.length + ys.length) cap).ownBlock ∨ ∃ k, (Value.slice (some ⟨g, 0, none⟩) (x1.M.length + ys.length) cap).ownBlock = some k ∧ w.heap.size ≤ k := by
    rcases hm with hm | hm
    · left; rw [hm]; rfl
    · right; exact ⟨g, rfl, by omega⟩
  have k1 : RwAt w5 G1 27 #[V1.d, V1.c, V1.m, V1.r, V1.q, V1.s] := h.g1.kept hg (fun e => n2.1 e.symm)
  have k2 := k1.set 2 (.slice (some ⟨g, 0, none⟩) (x1.M.length + ys.length) cap)
  refine ⟨(h.below.grown hg hle hB).setCell (by exact h.ge1) _, ⟨?_⟩, ⟨?_, ?_, ?_, ?_, ?_, ?_, ?_⟩, h.ge1, ?_, fun T hT => Nat.lt_of_lt_of_le (h.lts T hT) (Nat.le_trans hg.size hgs.size)⟩
  · rw [k2.blk]; rfl
  · exact (h.own.d.kept hg (a02)).kept hgs (.inr n0.1)
  · exact (h.own.c.kept hg (a12)).kept hgs (.inr n1.1)
  · have := ho.kept hgs (.inr (by simpa [Value.ownBlock] using hg1))
    simpa [List.map_append] using this
  · exact (h.own.r.kept hg (ap_sym a23)).kept hgs (.inr n3.1)
  · exact (h.own.q.kept hg (ap_sym a24)).kept hgs (.inr n4.1)
  · exact (h.own.s.kept hg (ap_sym a25)).kept hgs (.inr n5.1)
  · exact unpairs a01 (ap_sym (ap_new h.own.m h.own.d (ap_sym a02) ms)) a03 a04 a05 (ap_sym (ap_new h.own.m h.own.c (ap_sym a12) ms)) a13 a14 a15 (ap_new h.own.m h.own.r a23 ms) (ap_new h.own.m h.own.q a24 ms) (ap_new h.own.m h.own.s a25 ms) a34 a35 a45
  · intro u hu
    simp only [List.mem_cons, List.not_mem_nil, or_false] at hu
    rcases hu with rfl | rfl | rfl | rfl | rfl | rfl
    · exact n0
    · exact n1
    · exact ⟨by simpa [Value.ownBlock] using hg1, fun T hT => by simpa [Value.ownBlock] using hgT T hT⟩
    · exact n3
    · exact n4
    · exact n5
theorem OBx.tR (h : OBx W w G1 Ts V1 x1) {w5 : World} {g cap N M : Nat} (ys : List Rl) (hN : N = x1.R.length) (hM : ys.length = M) (hg : w.grownBy w5 V1.r.ownBlock) (hm : V1.r.ownBlock = some g ∨ g = w.heap.size)
    (ho : w5.ownsRow W.heap.size 90 4 (.slice (some ⟨g, 0, none⟩) (N + M) cap) (N + M) (rlsC (x1.R) ++ rlsC (ys))) :
    OBx W (w5.setCell ⟨G1, 3, none⟩ (.slice (some ⟨g, 0, none⟩) (N + M) cap)) G1 Ts { V1 with r := .slice (some ⟨g, 0, none⟩) (N + M) cap } { x1 with R := x1.R ++ ys } := by
  subst hN
  subst hM
  obtain ⟨a01, a02, a03, a04, a05, a12, a13, a14, a15, a23, a24, a25, a34, a35, a45⟩ := pairs h.own.ap
  have n0 := h.ne V1.d (by simp)
  have n1 := h.ne V1.c (by simp)
  have n2 := h.ne V1.m (by simp)
  have n3 := h.ne V1.r (by simp)
  have n4 := h.ne V1.q (by simp)
  have n5 := h.ne V1.s (by simp)
  have hgs : w5.grownBy (w5.setCell ⟨G1, 3, none⟩ (.slice (some ⟨g, 0, none⟩) (x1.R.length + ys.length) cap)) (some G1) := grown_setCell (grown_refl _ _) _ _
  have hB : ∀ k, V1.r.ownBlock = some k → W.heap.size ≤ k := fun k hk => (h.own.r.lt k hk).1
  have hle := h.le
  have l1 := h.g1.lt
  have hg1 : g ≠ G1 := by rcases hm with hm | hm; (intro e; rw [e] at hm; exact n3.1 hm); omega
  have hgT : ∀ T ∈ Ts, g ≠ T := fun T hT => by rcases hm with hm | hm; (intro e; rw [e] at hm; exact n3.2 T hT hm); (have := h.lts T hT; omega)
  have ms : V1.r.ownBlock = (Value.slice (some ⟨g, 0, none⟩) (x1.R.length + ys.length) cap).ownBlock ∨ ∃ k, (Value.slice (some ⟨g, 0, none⟩) (x1.R.length + ys.length) cap).ownBlock = some k ∧ w.heap.size ≤ k := by
    rcases hm with hm | hm
    · left; rw [hm]; rfl
    · right; exact ⟨g, rfl, by omega⟩
  have k1 : RwAt w5 G1 27 #[V1.d, V1.c, V1.m, V1.r, V1.q, V1.s] := h.g1.kept hg (fun e => n3.1 e.symm)
  have k2 := k1.set 3 (.slice (some ⟨g, 0, none⟩) (x1.R.length + ys.length) cap)
  refine ⟨(h.below.grown hg hle hB).setCell (by exact h.ge1) _, ⟨?_⟩, ⟨?_, ?_, ?_, ?_, ?_, ?_, ?_⟩, h.ge1, ?_, fun T hT => Nat.lt_of_lt_of_le (h.lts T hT) (Nat.le_trans hg.size hgs.size)⟩
  · rw [k2.blk]; rfl
  · exact (h.own.d.kept hg (a03)).kept hgs (.inr n0.1)
  · exact (h.own.c.kept hg (a13)).kept hgs (.inr n1.1)
  · exact (h.own.m.kept hg (a23)).kept hgs (.inr n2.1)
  · have := ho.kept hgs (.inr (by simpa [Value.ownBlock] using hg1))
    simpa [rlsC_append] using this
  · exact (h.own.q.kept hg (ap_sym a34)).kept hgs (.inr n4.1)
  · exact (h.own.s.kept hg (ap_sym a35)).kept hgs (.inr n5.1)
  · exact unpairs a01 a02 (ap_sym (ap_new h.own.r h.own.d (ap_sym a03) ms)) a04 a05 a12 (ap_sym (ap_new h.own.r h.own.c (ap_sym a13) ms)) a14 a15 (ap_sym (ap_new h.own.r h.own.m (ap_sym a23) ms)) a24 a25 (ap_new h.own.r h.own.q a34 ms) (ap_new h.own.r h.own.s a35 ms) a45
  · intro u hu
    simp only [List.mem_cons, List.not_mem_nil, or_false] at hu
    rcases hu with rfl | rfl | rfl | rfl | rfl | rfl
    · exact n0
    · exact n1
    · exact n2
    · exact ⟨by simpa [Value.ownBlock] using hg1, fun T hT => by simpa [Value.ownBlock] using hgT T hT⟩
    · exact n4
    · exact n5
theorem OBx.tQ (h : OBx W w G1 Ts V1 x1) {w5 : World} {g cap N M : Nat} (ys : List Rl) (hN : N = x1.Q.length) (hM : ys.length = M) (hg : w.grownBy w5 V1.q.ownBlock) (hm : V1.q.ownBlock = some g ∨ g = w.heap.size)
    (ho : w5.ownsRow W.heap.size 90 4 (.slice (some ⟨g, 0, none⟩) (N + M) cap) (N + M) (rlsC (x1.Q) ++ rlsC (ys))) :
    OBx W (w5.setCell ⟨G1, 4, none⟩ (.slice (some ⟨g, 0, none⟩) (N + M) cap)) G1 Ts { V1 with q := .slice (some ⟨g, 0, none⟩) (N + M) cap } { x1 with Q := x1.Q ++ ys } := by
  subst hN
  subst hM
  obtain ⟨a01, a02, a03, a04, a05, a12, a13, a14, a15, a23, a24, a25, a34, a35, a45⟩ := pairs h.own.ap
  have n0 := h.ne V1.d (by simp)
  have n1 := h.ne V1.c (by simp)
  have n2 := h.ne V1.m (by simp)
  have n3 := h.ne V1.r (by simp)
  have n4 := h.ne V1.q (by simp)
  have n5 := h.ne V1.s (by simp)
  have hgs : w5.grownBy (w5.setCell ⟨G1, 4, none⟩ (.slice (some ⟨g, 0, none⟩) (x1.Q.length + ys.length) cap)) (some G1) := grown_setCell (grown_refl _ _) _ _
  have hB : ∀ k, V1.q.ownBlock = some k → W.heap.size ≤ k := fun k hk => (h.own.q.lt k hk).1
  have hle := h.le
  have l1 := h.g1.lt
  have hg1 : g ≠ G1 := by rcases hm with hm | hm; (intro e; rw [e] at hm; exact n4.1 hm); omega
  have hgT : ∀ T ∈ Ts, g ≠ T := fun T hT => by rcases hm with hm | hm; (intro e; rw [e] at hm; exact n4.2 T hT hm); (have := h.lts T hT; omega)
  have ms : V1.q.ownBlock = (Value.slice (some ⟨g, 0, none⟩) (x1.Q.length + ys.length) cap).ownBlock ∨ ∃ k, (Value.slice (some ⟨g, 0, none⟩) (x1.Q.length + ys.length) cap).ownBlock = some k ∧ w.heap.size ≤ k := by
    rcases hm with hm | hm
    · left; rw [hm]; rfl
    · right; exact ⟨g, rfl, by omega⟩
  have k1 : RwAt w5 G1 27 #[V1.d, V1.c, V1.m, V1.r, V1.q, V1.s] := h.g1.kept hg (fun e => n4.1 e.symm)
  have k2 := k1.set 4 (.slice (some ⟨g, 0, none⟩) (x1.Q.length + ys.length) cap)
  refine ⟨(h.below.grown hg hle hB).setCell (by exact h.ge1) _, ⟨?_⟩, ⟨?_, ?_, ?_, ?_, ?_, ?_, ?_⟩, h.ge1, ?_, fun T hT => Nat.lt_of_lt_of_le (h.lts T hT) (Nat.le_trans hg.size hgs.size)⟩
  · rw [k2.blk]; rfl
  · exact (h.own.d.kept hg (a04)).kept hgs (.inr n0.1)
  · exact (h.own.c.kept hg (a14)).kept hgs (.inr n1.1)
  · exact (h.own.m.kept hg (a24)).kept hgs (.inr n2.1)
  · exact (h.own.r.kept hg (a34)).kept hgs (.inr n3.1)
  · have := ho.kept hgs (.inr (by simpa [Value.ownBlock] using hg1))
    simpa [rlsC_append] using this
  · exact (h.own.s.kept hg (ap_sym a45)).kept hgs (.inr n5.1)
  · exact unpairs a01 a02 a03 (ap_sym (ap_new h.own.q h.own.d (ap_sym a04) ms)) a05 a12 a13 (ap_sym (ap_new h.own.q h.own.c (ap_sym a14) ms)) a15 a23 (ap_sym (ap_new h.own.q h.own.m (ap_sym a24) ms)) a25 (ap_sym (ap_new h.own.q h.own.r (ap_sym a34) ms)) a35 (ap_new h.own.q h.own.s a45 ms)
  · intro u hu
    simp only [List.mem_cons, List.not_mem_nil, or_false] at hu
    rcases hu with rfl | rfl | rfl | rfl | rfl | rfl
    · exact n0
    · exact n1
    · exact n2
    · exact n3
    · exact ⟨by simpa [Value.ownBlock] using hg1, fun T hT => by simpa [Value.ownBlock] using hgT T hT⟩
    · exact n5
theorem OBx.tS (h : OBx W w G1 Ts V1 x1) {w5 : World} {g cap N M : Nat} (ys : List Sy) (hN : N = x1.S.length) (hM : ys.length = M) (hg : w.grownBy w5 V1.s.ownBlock) (hm : V1.s.ownBlock = some g ∨ g = w.heap.size)
    (ho : w5.ownsRow W.heap.size 88 4 (.slice (some ⟨g, 0, none⟩) (N + M) cap) (N + M) (sysC (x1.S) ++ sysC (ys))) :
    OBx W (w5.setCell ⟨G1, 5, none⟩ (.slice (some ⟨g, 0, none⟩) (N + M) cap)) G1 Ts { V1 with s := .slice (some ⟨g, 0, none⟩) (N + M) cap } { x1 with S := x1.S ++ ys } := by
  subst hN
  subst hM
  obtain ⟨a01, a02, a03, a04, a05, a12, a13, a14, a15, a23, a24, a25, a34, a35, a45⟩ := pairs h.own.ap
  have n0 := h.ne V1.d (by simp)
  have n1 := h.ne V1.c (by simp)
  have n2 := h.ne V1.m (by simp)
  have n3 := h.ne V1.r (by simp)
  have n4 := h.ne V1.q (by simp)
  have n5 := h.ne V1.s (by simp)
  have hgs : w5.grownBy (w5.setCell ⟨G1, 5, none⟩ (.slice (some ⟨g, 0, none⟩) (x1.S.length + ys.length) cap)) (some G1) := grown_setCell (grown_refl _ _) _ _
  have hB : ∀ k, V1.s.ownBlock = some k → W.heap.size ≤ k := fun k hk => (h.own.s.lt k hk).1
  have hle := h.le
  have l1 := h.g1.lt
  have hg1 : g ≠ G1 := by rcases hm with hm | hm; (intro e; rw [e] at hm; exact n5.1 hm); omega
  have hgT : ∀ T ∈ Ts, g ≠ T := fun T hT => by rcases hm with hm | hm; (intro e; rw [e] at hm; exact n5.2 T hT hm); (have := h.lts T hT; omega)
  have ms : V1.s.ownBlock = (Value.slice (some ⟨g, 0, none⟩) (x1.S.length + ys.length) cap).ownBlock ∨ ∃ k, (Value.slice (some ⟨g, 0, none⟩) (x1.S.length + ys.length) cap).ownBlock = some k ∧ w.heap.size ≤ k := by
    rcases hm with hm | hm
    · left; rw [hm]; rfl
    · right; exact ⟨g, rfl, by omega⟩
  have k1 : RwAt w5 G1 27 #[V1.d, V1.c, V1.m, V1.r, V1.q, V1.s] := h.g1.kept hg (fun e => n5.1 e.symm)
  have k2 := k1.set 5 (.slice (some ⟨g, 0, none⟩) (x1.S.length + ys.length) cap)
  refine ⟨(h.below.grown hg hle hB).setCell (by exact h.ge1) _, ⟨?_⟩, ⟨?_, ?_, ?_, ?_, ?_, ?_, ?_⟩, h.ge1, ?_, fun T hT => Nat.lt_of_lt_of_le (h.lts T hT) (Nat.le_trans hg.size hgs.size)⟩
  · rw [k2.blk]; rfl
  · exact (h.own.d.kept hg (a05)).kept hgs (.inr n0.1)
  · exact (h.own.c.kept hg (a15)).kept hgs (.inr n1.1)
  · exact (h.own.m.kept hg (a25)).kept hgs (.inr n2.1)
  · exact (h.own.r.kept hg (a35)).kept hgs (.inr n3.1)
  · exact (h.own.q.kept hg (a45)).kept hgs (.inr n4.1)
  · have := ho.kept hgs (.inr (by simpa [Value.ownBlock] using hg1))
    simpa [sysC_append] using this
  · exact unpairs a01 a02 a03 a04 (ap_sym (ap_new h.own.s h.own.d (ap_sym a05) ms)) a12 a13 a14 (ap_sym (ap_new h.own.s h.own.c (ap_sym a15) ms)) a23 a24 (ap_sym (ap_new h.own.s h.own.m (ap_sym a25) ms)) a34 (ap_sym (ap_new h.own.s h.own.r (ap_sym a35) ms)) (ap_sym (ap_new h.own.s h.own.q (ap_sym a45) ms))
  · intro u hu
    simp only [List.mem_cons, List.not_mem_nil, or_false] at hu
    rcases hu with rfl | rfl | rfl | rfl | rfl | rfl
    · exact n0
    · exact n1
    · exact n2
    · exact n3
    · exact n4
    · exact ⟨by simpa [Value.ownBlock] using hg1, fun T hT => by simpa [Value.ownBlock] using hgT T hT⟩
/-- the only symbol, written anew -/
theorem OBx.setS {D C M : List Int} {R Q : List Rl} {s0 : Sy} {g cap : Nat} (h : OBx W w G1 Ts V1 ⟨D, C, M, R, Q, [s0]⟩) (hV : V1.s = .slice (some ⟨g, 0, none⟩) 1 cap) (s1 : Sy) :
    OBx W ((((w.setCell ⟨g, 0, none⟩ (.string s1.n)).setCell ⟨g, 1, none⟩ (.int .i64 s1.i)).setCell ⟨g, 2, none⟩ (.int .i64 s1.v)).setCell ⟨g, 3, none⟩ (.bool s1.g)) G1 Ts V1 ⟨D, C, M, R, Q, [s1]⟩ := by
  obtain ⟨a01, a02, a03, a04, a05, a12, a13, a14, a15, a23, a24, a25, a34, a35, a45⟩ := pairs h.own.ap
  have hs : V1.s.ownBlock = some g := by rw [hV]; rfl
  have hgs : w.grownBy ((((w.setCell ⟨g, 0, none⟩ (.string s1.n)).setCell ⟨g, 1, none⟩ (.int .i64 s1.i)).setCell ⟨g, 2, none⟩ (.int .i64 s1.v)).setCell ⟨g, 3, none⟩ (.bool s1.g)) (some g) := grown_setCell (grown_setCell (grown_setCell (grown_setCell (grown_refl _ _) _ _) _ _) _ _) _ _
  have hgB := (h.own.s.lt g hs).1
  have hgG : g ≠ G1 := by intro e; have := (h.ne V1.s (by simp)).1; rw [hs, e] at this; exact this rfl
  have k : ∀ {u : Value}, Ap u V1.s → u.ownBlock = none ∨ u.ownBlock ≠ some g := fun h => by rw [← hs]; exact h
  refine ⟨h.below.grown hgs h.le (fun j hj => by obtain rfl := Option.some.inj hj; exact hgB), h.g1.kept hgs (by simpa using fun e => hgG e.symm), ⟨h.own.d.kept hgs (k a05), h.own.c.kept hgs (k a15), h.own.m.kept hgs (k a25), h.own.r.kept hgs (k a35), h.own.q.kept hgs (k a45), ?_, h.own.ap⟩, h.ge1, h.ne, fun T hT => Nat.lt_of_lt_of_le (h.lts T hT) hgs.size⟩
  have h0 := h.own.s
  rw [hV] at h0 ⊢
  have h1 := (((h0.stored 0 (.string s1.n)).1.stored 1 (.int .i64 s1.i)).1.stored 2 (.int .i64 s1.v)).1.stored 3 (.bool s1.g)
  simpa [sysC, syC] using h1.1
/-- a box more -/
theorem OBx.box (h : OBx W w G1 Ts V1 x1) (o : Obj) : OBx W (w.alloc o) G1 (w.heap.size :: Ts) V1 x1 := by
  have hk := h.kept0 (World.grownBy_alloc w o none)
  refine ⟨hk.below, hk.g1, hk.own, hk.ge1, fun u hu => ⟨(h.ne u hu).1, fun T hT => ?_⟩, fun T hT => ?_⟩
  · rcases List.mem_cons.1 hT with rfl | hT
    · intro e
      simp only [List.mem_cons, List.not_mem_nil, or_false] at hu
      have : w.heap.size < w.heap.size := by
        rcases hu with rfl | rfl | rfl | rfl | rfl | rfl
        · exact (h.own.d.lt _ e).2
        · exact (h.own.c.lt _ e).2
        · exact (h.own.m.lt _ e).2
        · exact (h.own.r.lt _ e).2
        · exact (h.own.q.lt _ e).2
        · exact (h.own.s.lt _ e).2
      omega
    · exact (h.ne u hu).2 T hT
  · rcases List.mem_cons.1 hT with rfl | hT
    · simp
    · exact hk.lts T hT
theorem OBx.drop {T : Nat} (h : OBx W w G1 (T :: Ts) V1 x1) : OBx W w G1 Ts V1 x1 :=
  ⟨h.below, h.g1, h.own, h.ge1, fun u hu => ⟨(h.ne u hu).1, fun S hS => (h.ne u hu).2 S (List.mem_cons_of_mem _ hS)⟩, fun S hS => h.lts S (List.mem_cons_of_mem _ hS)⟩
theorem OBx.base_le (h : OBx W w G1 Ts V1 x1) : W.grownBy w none := below_is_grown h.below
end
end Go.Proofs.YtgahbpfmiibpeaaGreatDoor
