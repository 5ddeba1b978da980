/- An object that came in and one of the law's own, in boxes; a part of it that grows. (Made by goown.py.) -/
import Derived.Test.YtgahbpfmiibpeaaGreatDoorZGObjM
import Derived.Deep.Cut
import Derived.Deep.CutRange
import Derived.Deep.CutBlock
import Derived.Handy
import Derived.Deep.AppendLies
namespace Go.Proofs.YtgahbpfmiibpeaaGreatDoor
open Go.RowKit
/-- G0: the box of V, which came in; G1: the box of V1, of the law's own -/
structure OS (W w : World) (G0 G1 : Nat) (V V1 : OV) (x x1 : PO) : Prop where
  below : Below W.heap.size W w
  g0 : RwAt w G0 27 #[V.d, V.c, V.m, V.r, V.q, V.s]
  g1 : RwAt w G1 27 #[V1.d, V1.c, V1.m, V1.r, V1.q, V1.s]
  o0 : OAt W V x
  own : OwnO W.heap.size w V1 x1
  ge0 : W.heap.size ≤ G0
  ge1 : W.heap.size ≤ G1
  ne : ∀ u ∈ [V1.d, V1.c, V1.m, V1.r, V1.q, V1.s], u.ownBlock ≠ some G0 ∧ u.ownBlock ≠ some G1
  d01 : G0 ≠ G1
section
variable {W w w1 : World} {G0 G1 : Nat} {V V1 : OV} {x x1 : PO}
theorem OS.le (h : OS W w G0 G1 V V1 x x1) : W.heap.size ≤ w.heap.size := h.below.size
theorem OS.o (h : OS W w G0 G1 V V1 x x1) : OAt w V x := h.o0.kept0 (below_is_grown h.below)
theorem OS.kept0 (h : OS W w G0 G1 V V1 x x1) (hg : w.grownBy w1 none) : OS W w1 G0 G1 V V1 x x1 :=
  ⟨h.below.grown hg h.le (by simp), h.g0.kept0 hg, h.g1.kept0 hg, h.o0, h.own.kept0 hg, h.ge0, h.ge1, h.ne, h.d01⟩
theorem ap_new {w : World} {B size n size' n' : Nat} {t t' : TypeId} {u v v' : Value} {cs cs' : List Value} (_hu : w.ownsRow B t size u n cs) (hv : w.ownsRow B t' size' v n' cs') (h : Ap u v) (hm : u.ownBlock = v'.ownBlock ∨ ∃ g, v'.ownBlock = some g ∧ w.heap.size ≤ g) : Ap v' v := by
  rcases hm with e | ⟨g, e, hg⟩
  · unfold Ap at h ⊢; rw [← e]; exact h
  · right; rw [e]; intro e2
    have := (hv.lt g e2.symm).2
    omega
theorem ap_sym {u v : Value} (h : Ap u v) : Ap v u := by
  rcases h with h | h
  · by_cases hv : v.ownBlock = none
    · exact .inl hv
    · right; rw [h]; exact hv
  · exact .inr (fun e => h e.symm)
theorem ap_of {w : World} {B size n : Nat} {t : TypeId} {u v : Value} {cs : List Value} (_hu : w.ownsRow B t size u n cs) (h : Ap u v) : u.ownBlock = none ∨ u.ownBlock ≠ v.ownBlock := h
theorem pairs {V : OV} (h : [V.d, V.c, V.m, V.r, V.q, V.s].Pairwise Ap) : Ap V.d V.c ∧ Ap V.d V.m ∧ Ap V.d V.r ∧ Ap V.d V.q ∧ Ap V.d V.s ∧ Ap V.c V.m ∧ Ap V.c V.r ∧ Ap V.c V.q ∧ Ap V.c V.s ∧ Ap V.m V.r ∧ Ap V.m V.q ∧ Ap V.m V.s ∧ Ap V.r V.q ∧ Ap V.r V.s ∧ Ap V.q V.s := by
  simp only [List.pairwise_cons, List.mem_cons, List.not_mem_nil, or_false, forall_eq_or_imp, forall_eq, List.Pairwise.nil, and_true, false_implies, implies_true] at h
  obtain ⟨⟨a01, a02, a03, a04, a05⟩, ⟨a12, a13, a14, a15⟩, ⟨a23, a24, a25⟩, ⟨a34, a35⟩, a45⟩ := h
  exact ⟨a01, a02, a03, a04, a05, a12, a13, a14, a15, a23, a24, a25, a34, a35, a45⟩
theorem unpairs {V : OV} (a01 : Ap V.d V.c) (a02 : Ap V.d V.m) (a03 : Ap V.d V.r) (a04 : Ap V.d V.q) (a05 : Ap V.d V.s) (a12 : Ap V.c V.m) (a13 : Ap V.c V.r) (a14 : Ap V.c V.q) (a15 : Ap V.c V.s) (a23 : Ap V.m V.r) (a24 : Ap V.m V.q) (a25 : Ap V.m V.s) (a34 : Ap V.r V.q) (a35 : Ap V.r V.s) (a45 : Ap V.q V.s) : [V.d, V.c, V.m, V.r, V.q, V.s].Pairwise Ap := by
  simp only [List.pairwise_cons, List.mem_cons, List.not_mem_nil, or_false, forall_eq_or_imp, forall_eq, List.Pairwise.nil, and_true, false_implies, implies_true]
  exact ⟨⟨a01, a02, a03, a04, a05⟩, ⟨a12, a13, a14, a15⟩, ⟨a23, a24, a25⟩, ⟨a34, a35⟩, a45⟩
theorem OS.tD (h : OS W w G0 G1 V V1 x x1) {w5 : World} {g cap N : Nat} (hN : N = x1.D.length) (hg : w.grownBy w5 V1.d.ownBlock) (hm : V1.d.ownBlock = some g ∨ g = w.heap.size)
    (ho : w5.ownsRow W.heap.size 46 1 (.slice (some ⟨g, 0, none⟩) (N + 1) cap) (N + 1) ((x1.D).map (Value.int .u32) ++ [.int .u32 1])) :
    OS W (w5.setCell ⟨G1, 0, none⟩ (.slice (some ⟨g, 0, none⟩) (N + 1) cap)) G0 G1 V { V1 with d := .slice (some ⟨g, 0, none⟩) (N + 1) cap } x { x1 with D := x1.D ++ [1] } := by
  subst hN
  obtain ⟨a01, a02, a03, a04, a05, a12, a13, a14, a15, a23, a24, a25, a34, a35, a45⟩ := pairs h.own.ap
  have n0 := h.ne V1.d (by simp)
  have n1 := h.ne V1.c (by simp)
  have n2 := h.ne V1.m (by simp)
  have n3 := h.ne V1.r (by simp)
  have n4 := h.ne V1.q (by simp)
  have n5 := h.ne V1.s (by simp)
  have hgs : w5.grownBy (w5.setCell ⟨G1, 0, none⟩ (.slice (some ⟨g, 0, none⟩) (x1.D.length + 1) cap)) (some G1) := grown_setCell (grown_refl _ _) _ _
  have hB : ∀ k, V1.d.ownBlock = some k → W.heap.size ≤ k := fun k hk => (h.own.d.lt k hk).1
  have hle := h.le
  have l0 := h.g0.lt
  have l1 := h.g1.lt
  have hgB : W.heap.size ≤ g := by rcases hm with hm | hm; exact hB g hm; omega
  have hg0 : g ≠ G0 := by rcases hm with hm | hm; (intro e; rw [e] at hm; exact n0.1 hm); omega
  have hg1 : g ≠ G1 := by rcases hm with hm | hm; (intro e; rw [e] at hm; exact n0.2 hm); omega
  have ms : V1.d.ownBlock = (Value.slice (some ⟨g, 0, none⟩) (x1.D.length + 1) cap).ownBlock ∨ ∃ k, (Value.slice (some ⟨g, 0, none⟩) (x1.D.length + 1) cap).ownBlock = some k ∧ w.heap.size ≤ k := by
    rcases hm with hm | hm
    · left; rw [hm]; rfl
    · right; exact ⟨g, rfl, by omega⟩
  have k1 : RwAt w5 G1 27 #[V1.d, V1.c, V1.m, V1.r, V1.q, V1.s] := h.g1.kept hg (fun e => n0.2 e.symm)
  have k2 := k1.set 0 (.slice (some ⟨g, 0, none⟩) (x1.D.length + 1) cap)
  refine ⟨(h.below.grown hg hle hB).setCell (by exact h.ge1) _, (h.g0.kept hg (fun e => n0.1 e.symm)).other _ _ _ h.d01, ⟨?_⟩, h.o0, ⟨?_, ?_, ?_, ?_, ?_, ?_, ?_⟩, h.ge0, h.ge1, ?_, h.d01⟩
  · rw [k2.blk]; rfl
  · have := ho.kept hgs (.inr (by simpa [Value.ownBlock] using hg1))
    simpa [List.map_append] using this
  · exact (h.own.c.kept hg (ap_sym a01)).kept hgs (.inr n1.2)
  · exact (h.own.m.kept hg (ap_sym a02)).kept hgs (.inr n2.2)
  · exact (h.own.r.kept hg (ap_sym a03)).kept hgs (.inr n3.2)
  · exact (h.own.q.kept hg (ap_sym a04)).kept hgs (.inr n4.2)
  · exact (h.own.s.kept hg (ap_sym a05)).kept hgs (.inr n5.2)
  · exact unpairs (ap_new h.own.d h.own.c a01 ms) (ap_new h.own.d h.own.m a02 ms) (ap_new h.own.d h.own.r a03 ms) (ap_new h.own.d h.own.q a04 ms) (ap_new h.own.d h.own.s a05 ms) a12 a13 a14 a15 a23 a24 a25 a34 a35 a45
  · intro u hu
    simp only [List.mem_cons, List.not_mem_nil, or_false] at hu
    rcases hu with rfl | rfl | rfl | rfl | rfl | rfl
    · exact ⟨by simpa [Value.ownBlock] using hg0, by simpa [Value.ownBlock] using hg1⟩
    · exact n1
    · exact n2
    · exact n3
    · exact n4
    · exact n5
theorem OS.tC (h : OS W w G0 G1 V V1 x x1) {w5 : World} {g cap N : Nat} (hN : N = x1.C.length) (hg : w.grownBy w5 V1.c.ownBlock) (hm : V1.c.ownBlock = some g ∨ g = w.heap.size)
    (ho : w5.ownsRow W.heap.size 46 1 (.slice (some ⟨g, 0, none⟩) (N + 1) cap) (N + 1) ((x1.C).map (Value.int .u32) ++ [.int .u32 1])) :
    OS W (w5.setCell ⟨G1, 1, none⟩ (.slice (some ⟨g, 0, none⟩) (N + 1) cap)) G0 G1 V { V1 with c := .slice (some ⟨g, 0, none⟩) (N + 1) cap } x { x1 with C := x1.C ++ [1] } := by
  subst hN
  obtain ⟨a01, a02, a03, a04, a05, a12, a13, a14, a15, a23, a24, a25, a34, a35, a45⟩ := pairs h.own.ap
  have n0 := h.ne V1.d (by simp)
  have n1 := h.ne V1.c (by simp)
  have n2 := h.ne V1.m (by simp)
  have n3 := h.ne V1.r (by simp)
  have n4 := h.ne V1.q (by simp)
  have n5 := h.ne V1.s (by simp)
  have hgs : w5.grownBy (w5.setCell ⟨G1, 1, none⟩ (.slice (some ⟨g, 0, none⟩) (x1.C.length + 1) cap)) (some G1) := grown_setCell (grown_refl _ _) _ _
  have hB : ∀ k, V1.c.ownBlock = some k → W.heap.size ≤ k := fun k hk => (h.own.c.lt k hk).1
  have hle := h.le
  have l0 := h.g0.lt
  have l1 := h.g1.lt
  have hgB : W.heap.size ≤ g := by rcases hm with hm | hm; exact hB g hm; omega
  have hg0 : g ≠ G0 := by rcases hm with hm | hm; (intro e; rw [e] at hm; exact n1.1 hm); omega
  have hg1 : g ≠ G1 := by rcases hm with hm | hm; (intro e; rw [e] at hm; exact n1.2 hm); omega
  have ms : V1.c.ownBlock = (Value.slice (some ⟨g, 0, none⟩) (x1.C.length + 1) cap).ownBlock ∨ ∃ k, (Value.slice (some ⟨g, 0, none⟩) (x1.C.length + 1) cap).ownBlock = some k ∧ w.heap.size ≤ k := by
    rcases hm with hm | hm
    · left; rw [hm]; rfl
    · right; exact ⟨g, rfl, by omega⟩
  have k1 : RwAt w5 G1 27 #[V1.d, V1.c, V1.m, V1.r, V1.q, V1.s] := h.g1.kept hg (fun e => n1.2 e.symm)
  have k2 := k1.set 1 (.slice (some ⟨g, 0, none⟩) (x1.C.length + 1) cap)
  refine ⟨(h.below.grown hg hle hB).setCell (by exact h.ge1) _, (h.g0.kept hg (fun e => n1.1 e.symm)).other _ _ _ h.d01, ⟨?_⟩, h.o0, ⟨?_, ?_, ?_, ?_, ?_, ?_, ?_⟩, h.ge0, h.ge1, ?_, h.d01⟩
  · rw [k2.blk]; rfl
  · exact (h.own.d.kept hg (a01)).kept hgs (.inr n0.2)
  · have := ho.kept hgs (.inr (by simpa [Value.ownBlock] using hg1))
    simpa [List.map_append] using this
  · exact (h.own.m.kept hg (ap_sym a12)).kept hgs (.inr n2.2)
  · exact (h.own.r.kept hg (ap_sym a13)).kept hgs (.inr n3.2)
  · exact (h.own.q.kept hg (ap_sym a14)).kept hgs (.inr n4.2)
  · exact (h.own.s.kept hg (ap_sym a15)).kept hgs (.inr n5.2)
  · exact unpairs (ap_sym (ap_new h.own.c h.own.d (ap_sym a01) ms)) a02 a03 a04 a05 (ap_new h.own.c h.own.m a12 ms) (ap_new h.own.c h.own.r a13 ms) (ap_new h.own.c h.own.q a14 ms) (ap_new h.own.c h.own.s a15 ms) a23 a24 a25 a34 a35 a45
  · intro u hu
    simp only [List.mem_cons, List.not_mem_nil, or_false] at hu
    rcases hu with rfl | rfl | rfl | rfl | rfl | rfl
    · exact n0
    · exact ⟨by simpa [Value.ownBlock] using hg0, by simpa [Value.ownBlock] using hg1⟩
    · exact n2
    · exact n3
    · exact n4
    · exact n5
theorem OS.tM (h : OS W w G0 G1 V V1 x x1) {w5 : World} {g cap N : Nat} (hN : N = x1.M.length) (hg : w.grownBy w5 V1.m.ownBlock) (hm : V1.m.ownBlock = some g ∨ g = w.heap.size)
    (ho : w5.ownsRow W.heap.size 5 1 (.slice (some ⟨g, 0, none⟩) (N + 1) cap) (N + 1) ((x1.M).map (Value.int .u8) ++ [.int .u8 1])) :
    OS W (w5.setCell ⟨G1, 2, none⟩ (.slice (some ⟨g, 0, none⟩) (N + 1) cap)) G0 G1 V { V1 with m := .slice (some ⟨g, 0, none⟩) (N + 1) cap } x { x1 with M := x1.M ++ [1] } := by
  subst hN
  obtain ⟨a01, a02, a03, a04, a05, a12, a13, a14, a15, a23, a24, a25, a34, a35, a45⟩ := pairs h.own.ap
  have n0 := h.ne V1.d (by simp)
  have n1 := h.ne V1.c (by simp)
  have n2 := h.ne V1.m (by simp)
  have n3 := h.ne V1.r (by simp)
  have n4 := h.ne V1.q (by simp)
  have n5 := h.ne V1.s (by simp)
  have hgs : w5.grownBy (w5.setCell ⟨G1, 2, none⟩ (.slice (some ⟨g, 0, none⟩) (x1.M.length + 1) cap)) (some G1) := grown_setCell (grown_refl _ _) _ _
  have hB : ∀ k, V1.m.ownBlock = some k → W.heap.size ≤ k := fun k hk => (h.own.m.lt k hk).1
  have hle := h.le
  have l0 := h.g0.lt
  have l1 := h.g1.lt
  have hgB : W.heap.size ≤ g := by rcases hm with hm | hm; exact hB g hm; omega
  have hg0 : g ≠ G0 := by rcases hm with hm | hm; (intro e; rw [e] at hm; exact n2.1 hm); omega
  have hg1 : g ≠ G1 := by rcases hm with hm | hm; (intro e; rw [e] at hm; exact n2.2 hm); omega
  have ms : V1.m.ownBlock = (Value.slice (some ⟨g, 0, none⟩) (x1.M.length + 1) cap).ownBlock ∨ ∃ k, (Value.slice (some ⟨g, 0, none⟩) (x1.M.length + 1) cap).ownBlock = some k ∧ w.heap.size ≤ k := by
    rcases hm with hm | hm
    · left; rw [hm]; rfl
    · right; exact ⟨g, rfl, by omega⟩
  have k1 : RwAt w5 G1 27 #[V1.d, V1.c, V1.m, V1.r, V1.q, V1.s] := h.g1.kept hg (fun e => n2.2 e.symm)
  have k2 := k1.set 2 (.slice (some ⟨g, 0, none⟩) (x1.M.length + 1) cap)
  refine ⟨(h.below.grown hg hle hB).setCell (by exact h.ge1) _, (h.g0.kept hg (fun e => n2.1 e.symm)).other _ _ _ h.d01, ⟨?_⟩, h.o0, ⟨?_, ?_, ?_, ?_, ?_, ?_, ?_⟩, h.ge0, h.ge1, ?_, h.d01⟩
  · rw [k2.blk]; rfl
  · exact (h.own.d.kept hg (a02)).kept hgs (.inr n0.2)
  · exact (h.own.c.kept hg (a12)).kept hgs (.inr n1.2)
  · have := ho.kept hgs (.inr (by simpa [Value.ownBlock] using hg1))
    simpa [List.map_append] using this
  · exact (h.own.r.kept hg (ap_sym a23)).kept hgs (.inr n3.2)
  · exact (h.own.q.kept hg (ap_sym a24)).kept hgs (.inr n4.2)
  · exact (h.own.s.kept hg (ap_sym a25)).kept hgs (.inr n5.2)
  · exact unpairs a01 (ap_sym (ap_new h.own.m h.own.d (ap_sym a02) ms)) a03 a04 a05 (ap_sym (ap_new h.own.m h.own.c (ap_sym a12) ms)) a13 a14 a15 (ap_new h.own.m h.own.r a23 ms) (ap_new h.own.m h.own.q a24 ms) (ap_new h.own.m h.own.s a25 ms) a34 a35 a45
  · intro u hu
    simp only [List.mem_cons, List.not_mem_nil, or_false] at hu
    rcases hu with rfl | rfl | rfl | rfl | rfl | rfl
    · exact n0
    · exact n1
    · exact ⟨by simpa [Value.ownBlock] using hg0, by simpa [Value.ownBlock] using hg1⟩
    · exact n3
    · exact n4
    · exact n5
theorem OS.tR (h : OS W w G0 G1 V V1 x x1) {w5 : World} {g cap N : Nat} (hN : N = x1.R.length) (hg : w.grownBy w5 V1.r.ownBlock) (hm : V1.r.ownBlock = some g ∨ g = w.heap.size)
    (ho : w5.ownsRow W.heap.size 90 4 (.slice (some ⟨g, 0, none⟩) (N + 1) cap) (N + 1) (rlsC (x1.R) ++ [.int .i64 0, .int .i64 0, .int .i64 0, .int .i64 0])) :
    OS W (w5.setCell ⟨G1, 3, none⟩ (.slice (some ⟨g, 0, none⟩) (N + 1) cap)) G0 G1 V { V1 with r := .slice (some ⟨g, 0, none⟩) (N + 1) cap } x { x1 with R := x1.R ++ [rl0] } := by
  subst hN
  obtain ⟨a01, a02, a03, a04, a05, a12, a13, a14, a15, a23, a24, a25, a34, a35, a45⟩ := pairs h.own.ap
  have n0 := h.ne V1.d (by simp)
  have n1 := h.ne V1.c (by simp)
  have n2 := h.ne V1.m (by simp)
  have n3 := h.ne V1.r (by simp)
  have n4 := h.ne V1.q (by simp)
  have n5 := h.ne V1.s (by simp)
  have hgs : w5.grownBy (w5.setCell ⟨G1, 3, none⟩ (.slice (some ⟨g, 0, none⟩) (x1.R.length + 1) cap)) (some G1) := grown_setCell (grown_refl _ _) _ _
  have hB : ∀ k, V1.r.ownBlock = some k → W.heap.size ≤ k := fun k hk => (h.own.r.lt k hk).1
  have hle := h.le
  have l0 := h.g0.lt
  have l1 := h.g1.lt
  have hgB : W.heap.size ≤ g := by rcases hm with hm | hm; exact hB g hm; omega
  have hg0 : g ≠ G0 := by rcases hm with hm | hm; (intro e; rw [e] at hm; exact n3.1 hm); omega
  have hg1 : g ≠ G1 := by rcases hm with hm | hm; (intro e; rw [e] at hm; exact n3.2 hm); omega
  have ms : V1.r.ownBlock = (Value.slice (some ⟨g, 0, none⟩) (x1.R.length + 1) cap).ownBlock ∨ ∃ k, (Value.slice (some ⟨g, 0, none⟩) (x1.R.length + 1) cap).ownBlock = some k ∧ w.heap.size ≤ k := by
    rcases hm with hm | hm
    · left; rw [hm]; rfl
    · right; exact ⟨g, rfl, by omega⟩
  have k1 : RwAt w5 G1 27 #[V1.d, V1.c, V1.m, V1.r, V1.q, V1.s] := h.g1.kept hg (fun e => n3.2 e.symm)
  have k2 := k1.set 3 (.slice (some ⟨g, 0, none⟩) (x1.R.length + 1) cap)
  refine ⟨(h.below.grown hg hle hB).setCell (by exact h.ge1) _, (h.g0.kept hg (fun e => n3.1 e.symm)).other _ _ _ h.d01, ⟨?_⟩, h.o0, ⟨?_, ?_, ?_, ?_, ?_, ?_, ?_⟩, h.ge0, h.ge1, ?_, h.d01⟩
  · rw [k2.blk]; rfl
  · exact (h.own.d.kept hg (a03)).kept hgs (.inr n0.2)
  · exact (h.own.c.kept hg (a13)).kept hgs (.inr n1.2)
  · exact (h.own.m.kept hg (a23)).kept hgs (.inr n2.2)
  · have := ho.kept hgs (.inr (by simpa [Value.ownBlock] using hg1))
    simpa [rlsC_append, rlsC, rlC, rl0] using this
  · exact (h.own.q.kept hg (ap_sym a34)).kept hgs (.inr n4.2)
  · exact (h.own.s.kept hg (ap_sym a35)).kept hgs (.inr n5.2)
  · exact unpairs a01 a02 (ap_sym (ap_new h.own.r h.own.d (ap_sym a03) ms)) a04 a05 a12 (ap_sym (ap_new h.own.r h.own.c (ap_sym a13) ms)) a14 a15 (ap_sym (ap_new h.own.r h.own.m (ap_sym a23) ms)) a24 a25 (ap_new h.own.r h.own.q a34 ms) (ap_new h.own.r h.own.s a35 ms) a45
  · intro u hu
    simp only [List.mem_cons, List.not_mem_nil, or_false] at hu
    rcases hu with rfl | rfl | rfl | rfl | rfl | rfl
    · exact n0
    · exact n1
    · exact n2
    · exact ⟨by simpa [Value.ownBlock] using hg0, by simpa [Value.ownBlock] using hg1⟩
    · exact n4
    · exact n5
theorem OS.tQ (h : OS W w G0 G1 V V1 x x1) {w5 : World} {g cap N : Nat} (hN : N = x1.Q.length) (hg : w.grownBy w5 V1.q.ownBlock) (hm : V1.q.ownBlock = some g ∨ g = w.heap.size)
    (ho : w5.ownsRow W.heap.size 90 4 (.slice (some ⟨g, 0, none⟩) (N + 1) cap) (N + 1) (rlsC (x1.Q) ++ [.int .i64 0, .int .i64 0, .int .i64 0, .int .i64 0])) :
    OS W (w5.setCell ⟨G1, 4, none⟩ (.slice (some ⟨g, 0, none⟩) (N + 1) cap)) G0 G1 V { V1 with q := .slice (some ⟨g, 0, none⟩) (N + 1) cap } x { x1 with Q := x1.Q ++ [rl0] } := by
  subst hN
  obtain ⟨a01, a02, a03, a04, a05, a12, a13, a14, a15, a23, a24, a25, a34, a35, a45⟩ := pairs h.own.ap
  have n0 := h.ne V1.d (by simp)
  have n1 := h.ne V1.c (by simp)
  have n2 := h.ne V1.m (by simp)
  have n3 := h.ne V1.r (by simp)
  have n4 := h.ne V1.q (by simp)
  have n5 := h.ne V1.s (by simp)
  have hgs : w5.grownBy (w5.setCell ⟨G1, 4, none⟩ (.slice (some ⟨g, 0, none⟩) (x1.Q.length + 1) cap)) (some G1) := grown_setCell (grown_refl _ _) _ _
  have hB : ∀ k, V1.q.ownBlock = some k → W.heap.size ≤ k := fun k hk => (h.own.q.lt k hk).1
  have hle := h.le
  have l0 := h.g0.lt
  have l1 := h.g1.lt
  have hgB : W.heap.size ≤ g := by rcases hm with hm | hm; exact hB g hm; omega
  have hg0 : g ≠ G0 := by rcases hm with hm | hm; (intro e; rw [e] at hm; exact n4.1 hm); omega
  have hg1 : g ≠ G1 := by rcases hm with hm | hm; (intro e; rw [e] at hm; exact n4.2 hm); omega
  have ms : V1.q.ownBlock = (Value.slice (some ⟨g, 0, none⟩) (x1.Q.length + 1) cap).ownBlock ∨ ∃ k, (Value.slice (some ⟨g, 0, none⟩) (x1.Q.length + 1) cap).ownBlock = some k ∧ w.heap.size ≤ k := by
    rcases hm with hm | hm
    · left; rw [hm]; rfl
    · right; exact ⟨g, rfl, by omega⟩
  have k1 : RwAt w5 G1 27 #[V1.d, V1.c, V1.m, V1.r, V1.q, V1.s] := h.g1.kept hg (fun e => n4.2 e.symm)
  have k2 := k1.set 4 (.slice (some ⟨g, 0, none⟩) (x1.Q.length + 1) cap)
  refine ⟨(h.below.grown hg hle hB).setCell (by exact h.ge1) _, (h.g0.kept hg (fun e => n4.1 e.symm)).other _ _ _ h.d01, ⟨?_⟩, h.o0, ⟨?_, ?_, ?_, ?_, ?_, ?_, ?_⟩, h.ge0, h.ge1, ?_, h.d01⟩
  · rw [k2.blk]; rfl
  · exact (h.own.d.kept hg (a04)).kept hgs (.inr n0.2)
  · exact (h.own.c.kept hg (a14)).kept hgs (.inr n1.2)
  · exact (h.own.m.kept hg (a24)).kept hgs (.inr n2.2)
  · exact (h.own.r.kept hg (a34)).kept hgs (.inr n3.2)
  · have := ho.kept hgs (.inr (by simpa [Value.ownBlock] using hg1))
    simpa [rlsC_append, rlsC, rlC, rl0] using this
  · exact (h.own.s.kept hg (ap_sym a45)).kept hgs (.inr n5.2)
  · exact unpairs a01 a02 a03 (ap_sym (ap_new h.own.q h.own.d (ap_sym a04) ms)) a05 a12 a13 (ap_sym (ap_new h.own.q h.own.c (ap_sym a14) ms)) a15 a23 (ap_sym (ap_new h.own.q h.own.m (ap_sym a24) ms)) a25 (ap_sym (ap_new h.own.q h.own.r (ap_sym a34) ms)) a35 (ap_new h.own.q h.own.s a45 ms)
  · intro u hu
    simp only [List.mem_cons, List.not_mem_nil, or_false] at hu
    rcases hu with rfl | rfl | rfl | rfl | rfl | rfl
    · exact n0
    · exact n1
    · exact n2
    · exact n3
    · exact ⟨by simpa [Value.ownBlock] using hg0, by simpa [Value.ownBlock] using hg1⟩
    · exact n5
theorem OS.tS (h : OS W w G0 G1 V V1 x x1) {w5 : World} {g cap N : Nat} (hN : N = x1.S.length) (hg : w.grownBy w5 V1.s.ownBlock) (hm : V1.s.ownBlock = some g ∨ g = w.heap.size)
    (ho : w5.ownsRow W.heap.size 88 4 (.slice (some ⟨g, 0, none⟩) (N + 1) cap) (N + 1) (sysC (x1.S) ++ [.string ⟨#[]⟩, .int .i64 0, .int .i64 0, .bool false])) :
    OS W (w5.setCell ⟨G1, 5, none⟩ (.slice (some ⟨g, 0, none⟩) (N + 1) cap)) G0 G1 V { V1 with s := .slice (some ⟨g, 0, none⟩) (N + 1) cap } x { x1 with S := x1.S ++ [sy0] } := by
  subst hN
  obtain ⟨a01, a02, a03, a04, a05, a12, a13, a14, a15, a23, a24, a25, a34, a35, a45⟩ := pairs h.own.ap
  have n0 := h.ne V1.d (by simp)
  have n1 := h.ne V1.c (by simp)
  have n2 := h.ne V1.m (by simp)
  have n3 := h.ne V1.r (by simp)
  have n4 := h.ne V1.q (by simp)
  have n5 := h.ne V1.s (by simp)
  have hgs : w5.grownBy (w5.setCell ⟨G1, 5, none⟩ (.slice (some ⟨g, 0, none⟩) (x1.S.length + 1) cap)) (some G1) := grown_setCell (grown_refl _ _) _ _
  have hB : ∀ k, V1.s.ownBlock = some k → W.heap.size ≤ k := fun k hk => (h.own.s.lt k hk).1
  have hle := h.le
  have l0 := h.g0.lt
  have l1 := h.g1.lt
  have hgB : W.heap.size ≤ g := by rcases hm with hm | hm; exact hB g hm; omega
  have hg0 : g ≠ G0 := by rcases hm with hm | hm; (intro e; rw [e] at hm; exact n5.1 hm); omega
  have hg1 : g ≠ G1 := by rcases hm with hm | hm; (intro e; rw [e] at hm; exact n5.2 hm); omega
  have ms : V1.s.ownBlock = (Value.slice (some ⟨g, 0, none⟩) (x1.S.length + 1) cap).ownBlock ∨ ∃ k, (Value.slice (some ⟨g, 0, none⟩) (x1.S.length + 1) cap).ownBlock = some k ∧ w.heap.size ≤ k := by
    rcases hm with hm | hm
    · left; rw [hm]; rfl
    · right; exact ⟨g, rfl, by omega⟩
  have k1 : RwAt w5 G1 27 #[V1.d, V1.c, V1.m, V1.r, V1.q, V1.s] := h.g1.kept hg (fun e => n5.2 e.symm)
  have k2 := k1.set 5 (.slice (some ⟨g, 0, none⟩) (x1.S.length + 1) cap)
  refine ⟨(h.below.grown hg hle hB).setCell (by exact h.ge1) _, (h.g0.kept hg (fun e => n5.1 e.symm)).other _ _ _ h.d01, ⟨?_⟩, h.o0, ⟨?_, ?_, ?_, ?_, ?_, ?_, ?_⟩, h.ge0, h.ge1, ?_, h.d01⟩
  · rw [k2.blk]; rfl
  · exact (h.own.d.kept hg (a05)).kept hgs (.inr n0.2)
  · exact (h.own.c.kept hg (a15)).kept hgs (.inr n1.2)
  · exact (h.own.m.kept hg (a25)).kept hgs (.inr n2.2)
  · exact (h.own.r.kept hg (a35)).kept hgs (.inr n3.2)
  · exact (h.own.q.kept hg (a45)).kept hgs (.inr n4.2)
  · have := ho.kept hgs (.inr (by simpa [Value.ownBlock] using hg1))
    simpa [sysC_append, sysC, syC, sy0] using this
  · exact unpairs a01 a02 a03 a04 (ap_sym (ap_new h.own.s h.own.d (ap_sym a05) ms)) a12 a13 a14 (ap_sym (ap_new h.own.s h.own.c (ap_sym a15) ms)) a23 a24 (ap_sym (ap_new h.own.s h.own.m (ap_sym a25) ms)) a34 (ap_sym (ap_new h.own.s h.own.r (ap_sym a35) ms)) (ap_sym (ap_new h.own.s h.own.q (ap_sym a45) ms))
  · intro u hu
    simp only [List.mem_cons, List.not_mem_nil, or_false] at hu
    rcases hu with rfl | rfl | rfl | rfl | rfl | rfl
    · exact n0
    · exact n1
    · exact n2
    · exact n3
    · exact n4
    · exact ⟨by simpa [Value.ownBlock] using hg0, by simpa [Value.ownBlock] using hg1⟩
end
end Go.Proofs.YtgahbpfmiibpeaaGreatDoor
