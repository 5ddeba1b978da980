/- An object that came in and one of the law's own, in boxes; a part of it that grows. (Made by goown.py.) -/
import Derived.Test.YtnpnafidhcnkhaaGreatDoorYObj12
import Derived.Test.YtnpnafidhcnkhaaGreatDoorYIsa2
import Derived.Test.YtnpnafidhcnkhaaGreatDoorYBase
import Derived.Deep.Slices
import Derived.ChangeArms
import Derived.Deep.Cut
import Derived.Deep.CutRange
import Derived.Deep.CutBlock
import Derived.Handy
import Derived.Deep.AppendLies
import Derived.Laws.BytesArg
import Derived.Laws.Rows
import Derived.Deep.RegionHeld3
import Derived.Laws.MakeOwn
import Derived.BigGuardPart
namespace Go.Proofs.YtnpnafidhcnkhaaGreatDoor
open Go.RowKit
/-- G0: the box of V, which came in; G1: the box of V1, of the law's own -/
structure OS (W w : World) (G0 G1 : Nat) (V V1 : OV) (x x1 : PO) : Prop where
  below : Below W.heap.size W w
  g0 : RwAt w G0 41 #[V.d, V.c, V.m, V.r, V.q, V.s]
  g1 : RwAt w G1 41 #[V1.d, V1.c, V1.m, V1.r, V1.q, V1.s]
  o0 : OAt W V x
  own : OwnO W.heap.size w V1 x1
  ge0 : W.heap.size ≤ G0
  ge1 : W.heap.size ≤ G1
  ne : ∀ u ∈ [V1.d, V1.c, V1.m, V1.r, V1.q, V1.s], u.ownBlock ≠ some G0 ∧ u.ownBlock ≠ some G1
  d01 : G0 ≠ G1
section
variable {W w w1 : World} {G0 G1 : Nat} {V V1 : OV} {x x1 : PO}
theorem OS.le (h : OS W w G0 G1 V V1 x x1) : W.heap.size ≤ w.heap.size := h.below.size
theorem OS.o (h : OS W w G0 G1 V V1 x x1) : OAt w V x := h.o0.kept0 (below_is_grown h.below)
theorem OS.kept0 (h : OS W w G0 G1 V V1 x x1) (hg : w.grownBy w1 none) : OS W w1 G0 G1 V V1 x x1 :=
  ⟨h.below.grown hg h.le (by simp), h.g0.kept0 hg, h.g1.kept0 hg, h.o0, h.own.kept0 hg, h.ge0, h.ge1, h.ne, h.d01⟩
theorem ap_new {w : World} {B size n size' n' : Nat} {t t' : TypeId} {u v v' : Value} {cs cs' : List Value} (_hu : w.ownsRow B t size u n cs) (hv : w.ownsRow B t' size' v n' cs') (h : Ap u v) (hm : u.ownBlock = v'.ownBlock ∨ ∃ g, v'.ownBlock = some g ∧ w.heap.size ≤ g) : Ap v' v := by
  rcases hm with e | ⟨g, e, hg⟩
  · unfold Ap at h ⊢; rw [← e]; exact h
  · right; rw [e]; intro e2
    have := (hv.lt g e2.symm).2
    omega
theorem ap_sym {u v : Value} (h : Ap u v) : Ap v u := by
  rcases h with h | h
  · by_cases hv : v.ownBlock = none
    · exact .inl hv
    · right; rw [h]; exact hv
  · exact .inr (fun e => h e.symm)
theorem pairs {V : OV} (h : [V.d, V.c, V.m, V.r, V.q, V.s].Pairwise Ap) : Ap V.d V.c ∧ Ap V.d V.m ∧ Ap V.d V.r ∧ Ap V.d V.q ∧ Ap V.d V.s ∧ Ap V.c V.m ∧ Ap V.c V.r ∧ Ap V.c V.q ∧ Ap V.c V.s ∧ Ap V.m V.r ∧ Ap V.m V.q ∧ Ap V.m V.s ∧ Ap V.r V.q ∧ Ap V.r V.s ∧ Ap V.q V.s := by
  simp only [List.pairwise_cons, List.mem_cons, List.not_mem_nil, or_false, forall_eq_or_imp, forall_eq, List.Pairwise.nil, and_true, false_implies, implies_true] at h
  obtain ⟨⟨a01, a02, a03, a04, a05⟩, ⟨a12, a13, a14, a15⟩, ⟨a23, a24, a25⟩, ⟨a34, a35⟩, a45⟩ := h
  exact ⟨a01, a02, a03, a04, a05, a12, a13, a14, a15, a23, a24, a25, a34, a35, a45⟩
theorem unpairs {V : OV} (a01 : Ap V.d V.c) (a02 : Ap V.d V.m) (a03 : Ap V.d V.r) (a04 : Ap V.d V.q) (a05 : Ap V.d V.s) (a12 : Ap V.c V.m) (a13 : Ap V.c V.r) (a14 : Ap V.c V.q) (a15 : Ap V.c V.s) (a23 : Ap V.m V.r) (a24 : Ap V.m V.q) (a25 : Ap V.m V.s) (a34 : Ap V.r V.q) (a35 : Ap V.r V.s) (a45 : Ap V.q V.s) : [V.d, V.c, V.m, V.r, V.q, V.s].Pairwise Ap := by
  simp only [List.pairwise_cons, List.mem_cons, List.not_mem_nil, or_false, forall_eq_or_imp, forall_eq, List.Pairwise.nil, and_true, false_implies, implies_true]
  exact ⟨⟨a01, a02, a03, a04, a05⟩, ⟨a12, a13, a14, a15⟩, ⟨a23, a24, a25⟩, ⟨a34, a35⟩, a45⟩
theorem OS.tR (h : OS W w G0 G1 V V1 x x1) {w5 : World} {g cap N : Nat} (hN : N = x1.R.length) (hg : w.grownBy w5 V1.r.ownBlock) (hm : V1.r.ownBlock = some g ∨ g = w.heap.size)
    (ho : w5.ownsRow W.heap.size 65 4 (.slice (some ⟨g, 0, none⟩) (N + 1) cap) (N + 1) (rlsC (x1.R) ++ [.int .i64 0, .int .i64 0, .int .i64 0, .int .i64 0])) :
    OS W (w5.setCell ⟨G1, 3, none⟩ (.slice (some ⟨g, 0, none⟩) (N + 1) cap)) G0 G1 V { V1 with r := .slice (some ⟨g, 0, none⟩) (N + 1) cap } x { x1 with R := x1.R ++ [rl0] } := by
  subst hN
  obtain ⟨a01, a02, a03, a04, a05, a12, a13, a14, a15, a23, a24, a25, a34, a35, a45⟩ := pairs h.own.ap
  have n0 := h.ne V1.d (by simp)
  have n1 := h.ne V1.c (by simp)
  have n2 := h.ne V1.m (by simp)
  have n3 := h.ne V1.r (by simp)
  have n4 := h.ne V1.q (by simp)
  have n5 := h.ne V1.s (by simp)
  have hgs : w5.grownBy (w5.setCell ⟨G1, 3, none⟩ (.slice (some ⟨g, 0, none⟩) (x1.R.length + 1) cap)) (some G1) := grown_setCell (grown_refl _ _) _ _
  have hB : ∀ k, V1.r.ownBlock = some k → W.heap.size ≤ k := fun k hk => (h.own.r.lt k hk).1
  have hle := h.le
  have l0 := h.g0.lt
  have l1 := h.g1.lt
  have hgB : W.heap.size ≤ g := by rcases hm with hm | hm; exact hB g hm; omega
  have hg0 : g ≠ G0 := by rcases hm with hm | hm; (intro e; rw [e] at hm; exact n3.1 hm); omega
  have hg1 : g ≠ G1 := by rcases hm with hm | hm; (intro e; rw [e] at hm; exact n3.2 hm); omega
  have ms : V1.r.ownBlock = (Value.slice (some ⟨g, 0, none⟩) (x1.R.length + 1) cap).ownBlock ∨ ∃ k, (Value.slice (some ⟨g, 0, none⟩) (x1.R.length + 1) cap).ownBlock = some k ∧ w.heap.size ≤ k := by
    rcases hm with hm | hm
    · left; rw [hm]; rfl
    · right; exact ⟨g, rfl, by omega⟩
  have k1 : RwAt w5 G1 41 #[V1.d, V1.c, V1.m, V1.r, V1.q, V1.s] := h.g1.kept hg (fun e => n3.2 e.symm)
  have k2 := k1.set 3 (.slice (some ⟨g, 0, none⟩) (x1.R.length + 1) cap)
  refine ⟨(h.below.grown hg hle hB).setCell (by exact h.ge1) _, (h.g0.kept hg (fun e => n3.1 e.symm)).other _ _ _ h.d01, ⟨?_⟩, h.o0, ⟨?_, ?_, ?_, ?_, ?_, ?_, ?_⟩, h.ge0, h.ge1, ?_, h.d01⟩
  · rw [k2.blk]; rfl
  · exact (h.own.d.kept hg (a03)).kept hgs (.inr n0.2)
  · exact (h.own.c.kept hg (a13)).kept hgs (.inr n1.2)
  · exact (h.own.m.kept hg (a23)).kept hgs (.inr n2.2)
  · have := ho.kept hgs (.inr (by simpa [Value.ownBlock] using hg1))
    simpa [rlsC_append, rlsC, rlC, rl0] using this
  · exact (h.own.q.kept hg (ap_sym a34)).kept hgs (.inr n4.2)
  · exact (h.own.s.kept hg (ap_sym a35)).kept hgs (.inr n5.2)
  · exact unpairs a01 a02 (ap_sym (ap_new h.own.r h.own.d (ap_sym a03) ms)) a04 a05 a12 (ap_sym (ap_new h.own.r h.own.c (ap_sym a13) ms)) a14 a15 (ap_sym (ap_new h.own.r h.own.m (ap_sym a23) ms)) a24 a25 (ap_new h.own.r h.own.q a34 ms) (ap_new h.own.r h.own.s a35 ms) a45
  · intro u hu
    simp only [List.mem_cons, List.not_mem_nil, or_false] at hu
    rcases hu with rfl | rfl | rfl | rfl | rfl | rfl
    · exact n0
    · exact n1
    · exact n2
    · exact ⟨by simpa [Value.ownBlock] using hg0, by simpa [Value.ownBlock] using hg1⟩
    · exact n4
    · exact n5
theorem OS.tS (h : OS W w G0 G1 V V1 x x1) {w5 : World} {g cap N : Nat} (hN : N = x1.S.length) (hg : w.grownBy w5 V1.s.ownBlock) (hm : V1.s.ownBlock = some g ∨ g = w.heap.size)
    (ho : w5.ownsRow W.heap.size 63 4 (.slice (some ⟨g, 0, none⟩) (N + 1) cap) (N + 1) (sysC (x1.S) ++ [.string ⟨#[]⟩, .int .i64 0, .int .i64 0, .bool false])) :
    OS W (w5.setCell ⟨G1, 5, none⟩ (.slice (some ⟨g, 0, none⟩) (N + 1) cap)) G0 G1 V { V1 with s := .slice (some ⟨g, 0, none⟩) (N + 1) cap } x { x1 with S := x1.S ++ [sy0] } := by
  subst hN
  obtain ⟨a01, a02, a03, a04, a05, a12, a13, a14, a15, a23, a24, a25, a34, a35, a45⟩ := pairs h.own.ap
  have n0 := h.ne V1.d (by simp)
  have n1 := h.ne V1.c (by simp)
  have n2 := h.ne V1.m (by simp)
  have n3 := h.ne V1.r (by simp)
  have n4 := h.ne V1.q (by simp)
  have n5 := h.ne V1.s (by simp)
  have hgs : w5.grownBy (w5.setCell ⟨G1, 5, none⟩ (.slice (some ⟨g, 0, none⟩) (x1.S.length + 1) cap)) (some G1) := grown_setCell (grown_refl _ _) _ _
  have hB : ∀ k, V1.s.ownBlock = some k → W.heap.size ≤ k := fun k hk => (h.own.s.lt k hk).1
  have hle := h.le
  have l0 := h.g0.lt
  have l1 := h.g1.lt
  have hgB : W.heap.size ≤ g := by rcases hm with hm | hm; exact hB g hm; omega
  have hg0 : g ≠ G0 := by rcases hm with hm | hm; (intro e; rw [e] at hm; exact n5.1 hm); omega
  have hg1 : g ≠ G1 := by rcases hm with hm | hm; (intro e; rw [e] at hm; exact n5.2 hm); omega
  have ms : V1.s.ownBlock = (Value.slice (some ⟨g, 0, none⟩) (x1.S.length + 1) cap).ownBlock ∨ ∃ k, (Value.slice (some ⟨g, 0, none⟩) (x1.S.length + 1) cap).ownBlock = some k ∧ w.heap.size ≤ k := by
    rcases hm with hm | hm
    · left; rw [hm]; rfl
    · right; exact ⟨g, rfl, by omega⟩
  have k1 : RwAt w5 G1 41 #[V1.d, V1.c, V1.m, V1.r, V1.q, V1.s] := h.g1.kept hg (fun e => n5.2 e.symm)
  have k2 := k1.set 5 (.slice (some ⟨g, 0, none⟩) (x1.S.length + 1) cap)
  refine ⟨(h.below.grown hg hle hB).setCell (by exact h.ge1) _, (h.g0.kept hg (fun e => n5.1 e.symm)).other _ _ _ h.d01, ⟨?_⟩, h.o0, ⟨?_, ?_, ?_, ?_, ?_, ?_, ?_⟩, h.ge0, h.ge1, ?_, h.d01⟩
  · rw [k2.blk]; rfl
  · exact (h.own.d.kept hg (a05)).kept hgs (.inr n0.2)
  · exact (h.own.c.kept hg (a15)).kept hgs (.inr n1.2)
  · exact (h.own.m.kept hg (a25)).kept hgs (.inr n2.2)
  · exact (h.own.r.kept hg (a35)).kept hgs (.inr n3.2)
  · exact (h.own.q.kept hg (a45)).kept hgs (.inr n4.2)
  · have := ho.kept hgs (.inr (by simpa [Value.ownBlock] using hg1))
    simpa [sysC_append, sysC, syC, sy0] using this
  · exact unpairs a01 a02 a03 a04 (ap_sym (ap_new h.own.s h.own.d (ap_sym a05) ms)) a12 a13 a14 (ap_sym (ap_new h.own.s h.own.c (ap_sym a15) ms)) a23 a24 (ap_sym (ap_new h.own.s h.own.m (ap_sym a25) ms)) a34 (ap_sym (ap_new h.own.s h.own.r (ap_sym a35) ms)) (ap_sym (ap_new h.own.s h.own.q (ap_sym a45) ms))
  · intro u hu
    simp only [List.mem_cons, List.not_mem_nil, or_false] at hu
    rcases hu with rfl | rfl | rfl | rfl | rfl | rfl
    · exact n0
    · exact n1
    · exact n2
    · exact n3
    · exact n4
    · exact ⟨by simpa [Value.ownBlock] using hg0, by simpa [Value.ownBlock] using hg1⟩
end
end Go.Proofs.YtnpnafidhcnkhaaGreatDoor
namespace Go.Proofs.YtnpnafidhcnkhaaGreatDoor
open Go.RowKit
/-- G1: the box of V1, of the law's own; Ts: blocks beside it that none of its rows is -/
structure OBx (W w : World) (G1 : Nat) (Ts : List Nat) (V1 : OV) (x1 : PO) : Prop where
  below : Below W.heap.size W w
  g1 : RwAt w G1 41 #[V1.d, V1.c, V1.m, V1.r, V1.q, V1.s]
  own : OwnO W.heap.size w V1 x1
  ge1 : W.heap.size ≤ G1
  ne : ∀ u ∈ [V1.d, V1.c, V1.m, V1.r, V1.q, V1.s], u.ownBlock ≠ some G1 ∧ ∀ T ∈ Ts, u.ownBlock ≠ some T
  lts : ∀ T ∈ Ts, T < w.heap.size
section
variable {W w w1 : World} {G1 : Nat} {Ts : List Nat} {V1 : OV} {x1 : PO}
theorem OBx.le (h : OBx W w G1 Ts V1 x1) : W.heap.size ≤ w.heap.size := h.below.size
theorem OBx.kept0 (h : OBx W w G1 Ts V1 x1) (hg : w.grownBy w1 none) : OBx W w1 G1 Ts V1 x1 :=
  ⟨h.below.grown hg h.le (by simp), h.g1.kept0 hg, h.own.kept0 hg, h.ge1, h.ne, fun T hT => Nat.lt_of_lt_of_le (h.lts T hT) hg.size⟩
theorem OBx.tR (h : OBx W w G1 Ts V1 x1) {w5 : World} {g cap N M : Nat} (ys : List Rl) (hN : N = x1.R.length) (hM : ys.length = M) (hg : w.grownBy w5 V1.r.ownBlock) (hm : V1.r.ownBlock = some g ∨ g = w.heap.size)
    (ho : w5.ownsRow W.heap.size 65 4 (.slice (some ⟨g, 0, none⟩) (N + M) cap) (N + M) (rlsC (x1.R) ++ rlsC (ys))) :
    OBx W (w5.setCell ⟨G1, 3, none⟩ (.slice (some ⟨g, 0, none⟩) (N + M) cap)) G1 Ts { V1 with r := .slice (some ⟨g, 0, none⟩) (N + M) cap } { x1 with R := x1.R ++ ys } := by
  subst hN
  subst hM
  obtain ⟨a01, a02, a03, a04, a05, a12, a13, a14, a15, a23, a24, a25, a34, a35, a45⟩ := pairs h.own.ap
  have n0 := h.ne V1.d (by simp)
  have n1 := h.ne V1.c (by simp)
  have n2 := h.ne V1.m (by simp)
  have n3 := h.ne V1.r (by simp)
  have n4 := h.ne V1.q (by simp)
  have n5 := h.ne V1.s (by simp)
  have hgs : w5.grownBy (w5.setCell ⟨G1, 3, none⟩ (.slice (some ⟨g, 0, none⟩) (x1.R.length + ys.length) cap)) (some G1) := grown_setCell (grown_refl _ _) _ _
  have hB : ∀ k, V1.r.ownBlock = some k → W.heap.size ≤ k := fun k hk => (h.own.r.lt k hk).1
  have hle := h.le
  have l1 := h.g1.lt
  have hg1 : g ≠ G1 := by rcases hm with hm | hm; (intro e; rw [e] at hm; exact n3.1 hm); omega
  have hgT : ∀ T ∈ Ts, g ≠ T := fun T hT => by rcases hm with hm | hm; (intro e; rw [e] at hm; exact n3.2 T hT hm); (have := h.lts T hT; omega)
  have ms : V1.r.ownBlock = (Value.slice (some ⟨g, 0, none⟩) (x1.R.length + ys.length) cap).ownBlock ∨ ∃ k, (Value.slice (some ⟨g, 0, none⟩) (x1.R.length + ys.length) cap).ownBlock = some k ∧ w.heap.size ≤ k := by
    rcases hm with hm | hm
    · left; rw [hm]; rfl
    · right; exact ⟨g, rfl, by omega⟩
  have k1 : RwAt w5 G1 41 #[V1.d, V1.c, V1.m, V1.r, V1.q, V1.s] := h.g1.kept hg (fun e => n3.1 e.symm)
  have k2 := k1.set 3 (.slice (some ⟨g, 0, none⟩) (x1.R.length + ys.length) cap)
  refine ⟨(h.below.grown hg hle hB).setCell (by exact h.ge1) _, ⟨?_⟩, ⟨?_, ?_, ?_, ?_, ?_, ?_, ?_⟩, h.ge1, ?_, fun T hT => Nat.lt_of_lt_of_le (h.lts T hT) (Nat.le_trans hg.size hgs.size)⟩
  · rw [k2.blk]; rfl
  · exact (h.own.d.kept hg (a03)).kept hgs (.inr n0.1)
  · exact (h.own.c.kept hg (a13)).kept hgs (.inr n1.1)
  · exact (h.own.m.kept hg (a23)).kept hgs (.inr n2.1)
  · have := ho.kept hgs (.inr (by simpa [Value.ownBlock] using hg1))
    simpa [rlsC_append] using this
  · exact (h.own.q.kept hg (ap_sym a34)).kept hgs (.inr n4.1)
  · exact (h.own.s.kept hg (ap_sym a35)).kept hgs (.inr n5.1)
  · exact unpairs a01 a02 (ap_sym (ap_new h.own.r h.own.d (ap_sym a03) ms)) a04 a05 a12 (ap_sym (ap_new h.own.r h.own.c (ap_sym a13) ms)) a14 a15 (ap_sym (ap_new h.own.r h.own.m (ap_sym a23) ms)) a24 a25 (ap_new h.own.r h.own.q a34 ms) (ap_new h.own.r h.own.s a35 ms) a45
  · intro u hu
    simp only [List.mem_cons, List.not_mem_nil, or_false] at hu
    rcases hu with rfl | rfl | rfl | rfl | rfl | rfl
    · exact n0
    · exact n1
    · exact n2
    · exact ⟨by simpa [Value.ownBlock] using hg1, fun T hT => by simpa [Value.ownBlock] using hgT T hT⟩
    · exact n4
    · exact n5
theorem OBx.tS (h : OBx W w G1 Ts V1 x1) {w5 : World} {g cap N M : Nat} (ys : List Sy) (hN : N = x1.S.length) (hM : ys.length = M) (hg : w.grownBy w5 V1.s.ownBlock) (hm : V1.s.ownBlock = some g ∨ g = w.heap.size)
    (ho : w5.ownsRow W.heap.size 63 4 (.slice (some ⟨g, 0, none⟩) (N + M) cap) (N + M) (sysC (x1.S) ++ sysC (ys))) :
    OBx W (w5.setCell ⟨G1, 5, none⟩ (.slice (some ⟨g, 0, none⟩) (N + M) cap)) G1 Ts { V1 with s := .slice (some ⟨g, 0, none⟩) (N + M) cap } { x1 with S := x1.S ++ ys } := by
  subst hN
  subst hM
  obtain ⟨a01, a02, a03, a04, a05, a12, a13, a14, a15, a23, a24, a25, a34, a35, a45⟩ := pairs h.own.ap
  have n0 := h.ne V1.d (by simp)
  have n1 := h.ne V1.c (by simp)
  have n2 := h.ne V1.m (by simp)
  have n3 := h.ne V1.r (by simp)
  have n4 := h.ne V1.q (by simp)
  have n5 := h.ne V1.s (by simp)
  have hgs : w5.grownBy (w5.setCell ⟨G1, 5, none⟩ (.slice (some ⟨g, 0, none⟩) (x1.S.length + ys.length) cap)) (some G1) := grown_setCell (grown_refl _ _) _ _
  have hB : ∀ k, V1.s.ownBlock = some k → W.heap.size ≤ k := fun k hk => (h.own.s.lt k hk).1
  have hle := h.le
  have l1 := h.g1.lt
  have hg1 : g ≠ G1 := by rcases hm with hm | hm; (intro e; rw [e] at hm; exact n5.1 hm); omega
  have hgT : ∀ T ∈ Ts, g ≠ T := fun T hT => by rcases hm with hm | hm; (intro e; rw [e] at hm; exact n5.2 T hT hm); (have := h.lts T hT; omega)
  have ms : V1.s.ownBlock = (Value.slice (some ⟨g, 0, none⟩) (x1.S.length + ys.length) cap).ownBlock ∨ ∃ k, (Value.slice (some ⟨g, 0, none⟩) (x1.S.length + ys.length) cap).ownBlock = some k ∧ w.heap.size ≤ k := by
    rcases hm with hm | hm
    · left; rw [hm]; rfl
    · right; exact ⟨g, rfl, by omega⟩
  have k1 : RwAt w5 G1 41 #[V1.d, V1.c, V1.m, V1.r, V1.q, V1.s] := h.g1.kept hg (fun e => n5.1 e.symm)
  have k2 := k1.set 5 (.slice (some ⟨g, 0, none⟩) (x1.S.length + ys.length) cap)
  refine ⟨(h.below.grown hg hle hB).setCell (by exact h.ge1) _, ⟨?_⟩, ⟨?_, ?_, ?_, ?_, ?_, ?_, ?_⟩, h.ge1, ?_, fun T hT => Nat.lt_of_lt_of_le (h.lts T hT) (Nat.le_trans hg.size hgs.size)⟩
  · rw [k2.blk]; rfl
  · exact (h.own.d.kept hg (a05)).kept hgs (.inr n0.1)
  · exact (h.own.c.kept hg (a15)).kept hgs (.inr n1.1)
  · exact (h.own.m.kept hg (a25)).kept hgs (.inr n2.1)
  · exact (h.own.r.kept hg (a35)).kept hgs (.inr n3.1)
  · exact (h.own.q.kept hg (a45)).kept hgs (.inr n4.1)
  · have := ho.kept hgs (.inr (by simpa [Value.ownBlock] using hg1))
    simpa [sysC_append] using this
  · exact unpairs a01 a02 a03 a04 (ap_sym (ap_new h.own.s h.own.d (ap_sym a05) ms)) a12 a13 a14 (ap_sym (ap_new h.own.s h.own.c (ap_sym a15) ms)) a23 a24 (ap_sym (ap_new h.own.s h.own.m (ap_sym a25) ms)) a34 (ap_sym (ap_new h.own.s h.own.r (ap_sym a35) ms)) (ap_sym (ap_new h.own.s h.own.q (ap_sym a45) ms))
  · intro u hu
    simp only [List.mem_cons, List.not_mem_nil, or_false] at hu
    rcases hu with rfl | rfl | rfl | rfl | rfl | rfl
    · exact n0
    · exact n1
    · exact n2
    · exact n3
    · exact n4
    · exact ⟨by simpa [Value.ownBlock] using hg1, fun T hT => by simpa [Value.ownBlock] using hgT T hT⟩
/-- a box more -/
theorem OBx.box (h : OBx W w G1 Ts V1 x1) (o : Obj) : OBx W (w.alloc o) G1 (w.heap.size :: Ts) V1 x1 := by
  have hk := h.kept0 (World.grownBy_alloc w o none)
  refine ⟨hk.below, hk.g1, hk.own, hk.ge1, fun u hu => ⟨(h.ne u hu).1, fun T hT => ?_⟩, fun T hT => ?_⟩
  · rcases List.mem_cons.1 hT with rfl | hT
    · intro e
      simp only [List.mem_cons, List.not_mem_nil, or_false] at hu
      have : w.heap.size < w.heap.size := by
        rcases hu with rfl | rfl | rfl | rfl | rfl | rfl
        · exact (h.own.d.lt _ e).2
        · exact (h.own.c.lt _ e).2
        · exact (h.own.m.lt _ e).2
        · exact (h.own.r.lt _ e).2
        · exact (h.own.q.lt _ e).2
        · exact (h.own.s.lt _ e).2
      omega
    · exact (h.ne u hu).2 T hT
  · rcases List.mem_cons.1 hT with rfl | hT
    · simp
    · exact hk.lts T hT
theorem OBx.drop {T : Nat} (h : OBx W w G1 (T :: Ts) V1 x1) : OBx W w G1 Ts V1 x1 :=
  ⟨h.below, h.g1, h.own, h.ge1, fun u hu => ⟨(h.ne u hu).1, fun S hS => (h.ne u hu).2 S (List.mem_cons_of_mem _ hS)⟩, fun S hS => h.lts S (List.mem_cons_of_mem _ hS)⟩
theorem OBx.base_le (h : OBx W w G1 Ts V1 x1) : W.grownBy w none := below_is_grown h.below
end
end Go.Proofs.YtnpnafidhcnkhaaGreatDoor
namespace Go.Proofs.YtnpnafidhcnkhaaGreatDoor
/-- what is left, and what was wrong first -/
structure RS where
  l : List Int
  e : Option Nat
deriving DecidableEq
def takeS (n : Nat) (s : RS) : List Int × RS :=
  if s.e = none then (if s.l.length < n then ([], ⟨s.l, some 0⟩) else (s.l.take n, ⟨s.l.drop n, none⟩)) else ([], s)
def leW : List Int → Int
  | [] => 0
  | b :: l => b + 256 * leW l
def wordS (s : RS) : Int × RS := (leW (takeS 4 s).1, (takeS 4 s).2)
def manyS {α : Type} (f : RS → α × RS) : Nat → RS → List α × RS
  | 0, s => ([], s)
  | n + 1, s => ((manyS f n s).1 ++ [(f (manyS f n s).2).1], (f (manyS f n s).2).2)
abbrev wordsS (n : Nat) (s : RS) := manyS wordS n s
/-! ### an error stays -/
/-! ### the whole -/
def sizS (b : List Int) : List Int × RS := wordsS 5 (wordS ⟨b, none⟩).2
def sz (b : List Int) (k : Nat) : Nat := ((sizS b).1.getD k 0).toNat
def pD (b : List Int) : List Int × RS := wordsS (sz b 0) (sizS b).2
def pC (b : List Int) : List Int × RS := wordsS (sz b 1) (pD b).2
/-! ### forth -/
end Go.Proofs.YtnpnafidhcnkhaaGreatDoor
namespace Go.Proofs.YtnpnafidhcnkhaaGreatDoor
open Go.RowKit
theorem run_err_nil (a : Addr) (w : World) : (binOp .eql 47 (errV a) .nilIface).run Tryz.prog w = .ok (.bool false) w := by
  have h : ∀ d : Nat, (Op.equalIn (d + 1) 47 (errV a) .nilIface).run Tryz.prog w = .ok false w := fun d => by simp [errV, Op.equalIn, run_underlying Tryz.underlying47]
  simp only [binOp]
  simp [Op.equal, Op.maxDepth, h 9999]
end Go.Proofs.YtnpnafidhcnkhaaGreatDoor
namespace Go.Proofs.YtnpnafidhcnkhaaGreatDoor
open Go.RowKit
/-- bytes taken: no block of the reader's -/
def Tk (w : World) (R b : Nat) (v : Value) (l : List Int) : Prop := (v = .slice none 0 0 ∧ l = []) ∨ ∃ o c, v = .slice (some ⟨b, o, none⟩) l.length c ∧ l.length ≤ c ∧ b < w.heap.size ∧ b ≠ R ∧ ∀ j x, l[j]? = some x → w.cell? ⟨b, o + j, none⟩ = some (.int .u8 x)
theorem Tk.sl {w : World} {R b : Nat} {v : Value} {l : List Int} (h : Tk w R b v l) : SlAt w .u8 v l := by
  rcases h with ⟨rfl, rfl⟩ | ⟨o, c, rfl, _, hb, _, hc⟩
  · exact .inl ⟨⟨_, _, rfl⟩, rfl⟩
  · exact .inr ⟨b, o, c, rfl, hb, hc⟩
theorem Tk.kept {w w1 : World} {R b : Nat} {v : Value} {l : List Int} {r : Option Nat} (h : Tk w R b v l) (hg : w.grownBy w1 r) (hr : some b ≠ r) : Tk w1 R b v l := by
  rcases h with h | ⟨o, c, rfl, hn, hb, hne, hc⟩
  · exact .inl h
  · exact .inr ⟨o, c, rfl, hn, Nat.lt_of_lt_of_le hb hg.size, hne, fun j x hx => by rw [grown_cell hg hb hr]; exact hc j x hx⟩
section
variable {w : World} {R : Nat} {A : Nat → Addr} {b o c : Nat} {s : RS}
end
section
variable {w : World} {R : Nat} {A : Nat → Addr} {b o c : Nat} {s : RS}
end
end Go.Proofs.YtnpnafidhcnkhaaGreatDoor
namespace Go.Proofs.YtnpnafidhcnkhaaGreatDoor
open Go.RowKit
section
variable {w0 w w1 : World} {K : Nat} {T : TypeId} {cs : List Value} {R : Nat} {A : Nat → Addr} {b o c : Nat} {s : RS}
end
/-- so many read, the others as they were made -/
def part {α : Type} (f : RS → α × RS) (z : α) (n k : Nat) (s : RS) : List α := (manyS f k s).1 ++ List.replicate (n - k) z
end Go.Proofs.YtnpnafidhcnkhaaGreatDoor
namespace Go.Proofs.YtnpnafidhcnkhaaGreatDoor
open Go.RowKit
theorem CsAt.keptO {w w1 : World} {v : Value} {n : Nat} {cs : List Value} {r : Option Nat} (h : CsAt w v n cs) (hg : w.grownBy w1 r) (hr : v.ownBlock = none ∨ v.ownBlock ≠ r) : CsAt w1 v n cs := by
  rcases h with h | ⟨b, o, c, rfl, hn, hb, hc⟩
  · exact .inl h
  · refine .inr ⟨b, o, c, rfl, hn, Nat.lt_of_lt_of_le hb hg.size, fun j x hx => ?_⟩
    rw [grown_cell hg hb (by simpa [Value.ownBlock] using hr)]
    exact hc j x hx
/-- in blocks from B on -/
def AbB (B : Nat) (v : Value) : Prop := ∀ g, v.ownBlock = some g → B ≤ g
theorem AbB.ne {B r : Nat} {v : Value} (h : AbB B v) (hr : r < B) : v.ownBlock = none ∨ v.ownBlock ≠ some r := .inr fun e => by have := h r e; omega
structure SlB (B : Nat) (w : World) (k : IntKind) (v : Value) (xs : List Int) : Prop where
  sl : SlAt w k v xs
  ab : AbB B v
structure CsB (B : Nat) (w : World) (v : Value) (n : Nat) (cs : List Value) : Prop where
  cs : CsAt w v n cs
  ab : AbB B v
theorem SlB.kept {B r : Nat} {w w1 : World} {k : IntKind} {v : Value} {xs : List Int} (h : SlB B w k v xs) (hg : w.grownBy w1 (some r)) (hr : r < B) : SlB B w1 k v xs := ⟨h.sl.kept hg (h.ab.ne hr), h.ab⟩
theorem CsB.kept {B r : Nat} {w w1 : World} {v : Value} {n : Nat} {cs : List Value} (h : CsB B w v n cs) (hg : w.grownBy w1 (some r)) (hr : r < B) : CsB B w1 v n cs := ⟨h.cs.keptO hg (h.ab.ne hr), h.ab⟩
section
variable {w0 w w1 : World} {B S H G : Nat} {nn gc : Array Value} {R : Nat} {A : Nat → Addr} {b o c : Nat} {s : RS}
end
end Go.Proofs.YtnpnafidhcnkhaaGreatDoor
namespace Go.Proofs.YtnpnafidhcnkhaaGreatDoor
open Go.RowKit
/-- a slice of these bytes -/
def BvAt (w : World) (v : Value) (l : List Int) : Prop := (∃ p c, v = .slice p 0 c ∧ l = []) ∨
  ∃ b o c, v = .slice (some ⟨b, o, none⟩) l.length c ∧ l.length ≤ c ∧ c ≤ 9223372036854775807 ∧ b < w.heap.size ∧ ∀ j x, l[j]? = some x → w.cell? ⟨b, o + j, none⟩ = some (.int .u8 x)
theorem BvAt.kept0 {w w1 : World} {v : Value} {l : List Int} (h : BvAt w v l) (hg : w.grownBy w1 none) : BvAt w1 v l := by
  rcases h with h | ⟨b, o, c, rfl, h1, h2, hb, hc⟩
  · exact .inl h
  · exact .inr ⟨b, o, c, rfl, h1, h2, Nat.lt_of_lt_of_le hb hg.size, fun j x hx => by rw [grown_cell hg hb (by simp)]; exact hc j x hx⟩
theorem BvAt.len {w : World} {v : Value} {l : List Int} (h : BvAt w v l) : ∃ p c, v = .slice p l.length c := by
  rcases h with ⟨p, c, rfl, rfl⟩ | ⟨b, o, c, rfl, _⟩
  · exact ⟨_, _, rfl⟩
  · exact ⟨_, _, rfl⟩
end Go.Proofs.YtnpnafidhcnkhaaGreatDoor
namespace Go.Proofs.YtnpnafidhcnkhaaGreatDoor
open Go.RowKit Go.WideShapes Go.ChangeShapes
section
variable {H : Type} {enc : TypeId × Value → H} {W : World} {P : Program}
end
theorem BvAt.sl {w : World} {v : Value} {l : List Int} (h : BvAt w v l) : SlAt w .u8 v l := by
  rcases h with ⟨p, c, rfl, rfl⟩ | ⟨b, o, c, rfl, _, _, hb, hc⟩
  · exact .inl ⟨⟨_, _, rfl⟩, rfl⟩
  · exact .inr ⟨b, o, c, rfl, hb, hc⟩
end Go.Proofs.YtnpnafidhcnkhaaGreatDoor
namespace Go.Proofs.YtnpnafidhcnkhaaGreatDoor
open Go.RowKit
/-- a label's line -/
def lbC (nm : ByteArray) : Array Value := #[.int .i64 0, .int .i64 0, .int .i64 0, .int .i64 0, .int .u32 0, .string nm, .string ByteArray.empty, .bool false]
theorem build_lab (nm : ByteArray) (w : World) : (Instr.build 31 #[(1, .string nm)]).run Tryz.prog w = .ok (.agg (lbC nm)) w := by kernel_rfl
theorem lab_one (nm : ByteArray) : (lbC nm).all (·.oneCell') = true := by simp [lbC, Value.oneCell']
section
variable {ops : Array Oper} {rest : List Oper} {o : Oper} {A : Act} {w : World} {Q : Exit → Act → World → Prop}
theorem wpList_build_lab (hgd : o.guard = none) (x : Operand) (ho : o.op = .build 31 #[(1, x)]) {nm : ByteArray} (hx : A.eval x = .string nm) (h : wpList Tryz.prog ops Q rest (A.put o.dst (.agg (lbC nm))) w) : wpList Tryz.prog ops Q (o :: rest) A w := by
  refine wpList_plain hgd fun K hK => ?_
  unfold Oper.wp
  simp [execOp, ho, hx, build_lab nm w, Result.andThen]
  exact hK _ _ h
end
set_option maxRecDepth 100000 in
set_option maxHeartbeats 1000000 in
theorem at_any (nm : ByteArray) (W : World) : Calls Tryz.prog 9 #[.string nm] W fun e w' => e = .returned (.agg (lbC nm)) ∧ W.grownBy w' none := by
  have Hz := zero_line
  have H1 := hid ((RwAt.new W 31 (lnC 0 0)).row (lbC nm))
  have HG := hid (grown_setRow (grown_alloc (grown_refl W none) (.cells (lnC 0 0) 31)) (Nat.le_refl W.heap.size) (lbC nm))
  go_enter Tryz.func9, Tryz.ntmps9
  go_wp2_with (first
    | (refine wpList_build_lab rfl _ rfl rfl ?_)
    | (refine wpList_store_rw rfl 31 _ _ rfl rfl rfl (RwAt.new _ _ _) (by kernel_rfl) rfl (lab_one _) ?_)
    | fail)
  refine bodyPost_ret (results_cell_row Tryz.results9 _ _ W.heap.size _ _ _ _ rfl H1.out.blk Tryz.underlying31 rfl (by kernel_rfl)) rfl ?_
  exact ⟨rfl, HG.out⟩
theorem own_keep0 {w w1 : World} {B size n : Nat} {t : TypeId} {v : Value} {cs : List Value} (h : w.ownsRow B t size v n cs) (hg : w.grownBy w1 none) : w1.ownsRow B t size v n cs := h.kept hg (by cases v.ownBlock <;> simp)
structure RWo (w0 : World) (lv : Value) (xs : List Int) (v : Value) (k : Nat) (w : World) : Prop where
  by_ : w.ownsRow w0.heap.size 27 1 v (xs.take k).length ((xs.take k).map (Value.int .u32))
  g : w0.grownBy w none
  sl : SlAt w .u32 lv xs
set_option maxRecDepth 100000 in
set_option maxHeartbeats 2000000 in
theorem rwords_any {w : World} {lv : Value} {xs : List Int} (hl : SlAt w .u32 lv xs) (hn : xs.length ≤ 1000000) :
    Calls Tryz.prog 23 #[lv] w fun e w' => ∃ v, e = .returned v ∧ w'.ownsRow w.heap.size 27 1 v xs.length (xs.map (Value.int .u32)) ∧ w.grownBy w' none := by
  obtain ⟨p, c, rfl⟩ := hl.len'
  obtain ⟨i, hi, hz0, hz1, hz2⟩ := info_u32
  obtain ⟨w1, hmk, how, hgr⟩ := run_make_own (P := Tryz.prog) w w.heap.size 36 27 i _ 1 Tryz.underlying36 hi hz0 hz1 .i64 .i64 xs.length (by rw [hz2]; omega) (by unfold maxLen; omega) (Nat.le_refl _)
  have Hi := hid hi
  have Hz0 := hid hz0
  have Hz1 := hid hz1
  have Hz2 := hid hz2
  have HSl := hid hl
  have HA : Hid (RWo w (.slice p xs.length c) xs (.slice (some ⟨w.heap.size, 0, none⟩) 0 xs.length) 0 w1) := hid ⟨by simpa using how, hgr, hl.kept0 hgr⟩
  have Hn := hid hn
  have nl : (xs.length : Int) ≤ 9223372036854775807 := by omega
  clear hl hn hi hz0 hz1 hz2 how hgr
  go_enter Tryz.func23, Tryz.ntmps23
  go_wp2
  clear hmk
  go_loopw [3, 4] (fun b i wr => ∃ k : Nat, k ≤ xs.length ∧ i = .int .i64 k ∧ Hid (RWo w (.slice p xs.length c) xs b k wr)) (fun _ i _ => xs.length - (intOf i).toNat)
  case atStart => exact ⟨0, Nat.zero_le _, rfl, HA⟩
  case round =>
    obtain ⟨k, hk, rfl, HR⟩ := hrel
    have k0 : (0 : Int) ≤ (k : Int) := by omega
    by_cases hlt : k < xs.length
    · have kn : (k : Int) < (xs.length : Int) := by omega
      obtain ⟨x, hx⟩ : ∃ x, xs[k]? = some x := ⟨_, List.getElem?_eq_getElem hlt⟩
      obtain ⟨b, o, c', hv, hb, hc⟩ := HR.out.sl.at_ (by omega)
      obtain ⟨rfl, rfl⟩ : p = some ⟨b, o, none⟩ ∧ c = c' := by simpa using hv
      have ex := hc k x hx
      have Hx := hid hx
      have Hlt := hid hlt
      clear hc hv hx hlt
      have HB := hid (own_keep0 HR.out.by_ (World.grownBy_alloc wr (.cells #[.int .u32 x] 27) none))
      obtain ⟨L, HL⟩ : ∃ L, Hid ((xs.take k).length = L) := ⟨_, hid rfl⟩
      have HLn : Hid (L + 1 ≤ 1000000) := hid (by
        have h1 := HL.out
        have h2 := Hn.out
        have h3 := Hlt.out
        rw [List.length_take] at h1
        omega)
      have HBo := hid HB.out
      rw [HL.out] at HBo
      have Hnews : Hid (∀ j u, [Value.int .u32 x][j]? = some u → (wr.alloc (.cells #[.int .u32 x] 27)).cell? ((⟨wr.heap.size, 0, none⟩ : Addr).add j) = some u) := hid (World.news_of_block (heap_alloc_new wr _))
      go_wp2_with (first
        | (refine wpList_append_lies _ rfl _ _ 36 rfl w.heap.size 27 i _ 1 4 Tryz.underlying36 Hi.out Hz0.out Hz1.out Hz2.out rfl (by decide) _ L _ rfl HBo.out ⟨wr.heap.size, 0, none⟩ 1 1 _ rfl rfl Hnews.out (by simp [Value.oneCell']) (by decide) (by have := HLn.out; unfold maxLen; omega) (by have := HLn.out; omega) (Nat.le_trans HR.out.g.size (by simp)) _ rfl ?_; intro g cap w2 hown hgrow hat hlt2; have HO := hid hown; have HG := hid hgrow; have HT := hid hat; clear hown hgrow hat)
        | fail)
      go_roundw
      case rel =>
        refine ⟨k + 1, by omega, by go_num, hid ?_⟩
        have hww : xs.take (k + 1) = xs.take k ++ [x] := by rw [List.take_add_one, Hx.out]; rfl
        have hL := HL.out
        have hgw : w.grownBy w2 none := grown_new' (grown_trans (grown_none HR.out.g) (grown_trans (World.grownBy_alloc wr _ _) HG.out)) (fun j hj => (HR.out.by_.lt j hj).1)
        refine ⟨?_, hgw, ?_⟩
        · rw [hww, List.length_append, hL, List.map_append]
          exact HO.out
        · exact HSl.out.kept0 hgw
      case measure => simp [intOf]; have := Hlt.out; omega
    · obtain rfl : k = xs.length := by omega
      clear hlt
      go_wp2
      go_ret
      have h1 := HR.out.by_
      rw [List.take_length] at h1
      exact ⟨_, rfl, h1, HR.out.g⟩
theorem lzero_sym (w : World) : (zeroValue 63).run Tryz.prog w = .ok (.agg #[.string ⟨#[]⟩, .int .i64 0, .int .i64 0, .bool false]) w := by kernel_rfl
end Go.Proofs.YtnpnafidhcnkhaaGreatDoor
namespace Go.Proofs.YtnpnafidhcnkhaaGreatDoor
open Go.RowKit
/-- where instructions begin, below n -/
def stL (x : PO) (n : Nat) : List Nat := (List.range n).filter fun k => decide (mapN x k = 1)
/-- the operation of word k -/
def wOp (x : PO) (k : Nat) : Int := x.C.getD k 0 / 16777216
def isT (x : PO) (k : Nat) : Bool := decide (clsI (wOp x k) = 2 ∨ clsI (wOp x k) = 3)
/-- what has to be rewritten, of these -/
def siL (x : PO) (l : List Nat) : List Nat := l.filter (isT x)
def secN (x : PO) (k : Nat) : Int := x.C.getD (k + 1) 0
/-- the instruction that begins at word k -/
def begC (x : PO) (k : Nat) : List Value := [.int .i64 (x.C.getD k 0 / 16777216), .int .i64 (x.C.getD k 0 / 65536 % 256), .int .i64 (x.C.getD k 0 / 256 % 256), .int .i64 (x.C.getD k 0 % 256), .int .u32 (wantImm (x.C.getD k 0 / 16777216) (secN x k))]
def siC (x : PO) (k : Nat) : List Value := .int .i64 k :: .int .i64 (clsI (wOp x k)) :: begC x k
def sisC (x : PO) : List Nat → List Value
  | [] => []
  | k :: l => siC x k ++ sisC x l
end Go.Proofs.YtnpnafidhcnkhaaGreatDoor
namespace Go.Proofs.YtnpnafidhcnkhaaGreatDoor
open Go.RowKit
def cntN (x : PO) (k : Nat) : Nat := (siL x (stL x k)).length
/-- where word k stands then -/
def plN (x : PO) (k : Nat) : Nat := k + cntN x k
def plL (x : PO) (n : Nat) : List Int := (List.range n).map fun k => (plN x k : Int)
theorem plL_length (x : PO) (n : Nat) : (plL x n).length = n := by simp [plL]
theorem plL_succ (x : PO) (n : Nat) : plL x (n + 1) = plL x n ++ [(plN x n : Int)] := by
  unfold plL
  rw [List.range_succ, List.map_append]; rfl
/-- the places, so far filled in -/
def fillP (x : PO) (N j : Nat) : List Value := (plL x j).map (Value.int .i64) ++ List.replicate (N - j) (.int .i64 0)
theorem fill_set (x : PO) {N j : Nat} (h : j < N) : (fillP x N j).set j (.int .i64 (plN x j : Int)) = fillP x N (j + 1) := by
  unfold fillP
  obtain ⟨m, hm⟩ : ∃ m, N - j = m + 1 := ⟨N - j - 1, by omega⟩
  have e : j = ((plL x j).map (Value.int .i64)).length + 0 := by simp [plL_length]
  rw [hm, show N - (j + 1) = m by omega, plL_succ, List.map_append, List.append_assoc, List.replicate_succ]
  conv => lhs; arg 2; rw [e]
  rw [List.set_append_right _ _ (by omega)]
  simp
/-! ### where nothing is to be rewritten -/
/-! ### the first one is told -/
theorem getD_some {l : List Int} {k : Nat} {v d : Int} (h : l[k]? = some v) : l.getD k d = v := by rw [List.getD_eq_getElem?_getD, h]; rfl
end Go.Proofs.YtnpnafidhcnkhaaGreatDoor
namespace Go.Proofs.YtnpnafidhcnkhaaGreatDoor
structure RIt where
  s : Int
  t : Int
  b : Bool
def okRI (n : Nat) (it : RIt) : Bool := decide (0 ≤ it.s ∧ it.s ≤ 2048) && (!it.b || decide (0 ≤ it.t ∧ it.t ≤ (n : Int)))
def okR (L : List RIt) : Bool := L.all (okRI L.length)
def validR (L : List RIt) : Bool := decide (L.length ≤ 4096) && okR L
def sR : Option RIt → Int
  | some it => it.s
  | none => 0
/-- how much an item takes -/
def szR (L : List RIt) (B : List Bool) (k : Nat) : Int := sR L[k]? + (if B.getD k false then 1 else 0)
def plR (L : List RIt) (B : List Bool) : Nat → Int
  | 0 => 0
  | k + 1 => plR L B k + szR L B k
def plsR (L : List RIt) (B : List Bool) (n : Nat) : List Int := (List.range n).map (plR L B)
def nearR (d : Int) : Bool := decide (-128 ≤ d) && decide (d ≤ 127)
def tooB (L : List RIt) (B : List Bool) (k : Nat) : Bool :=
  match L[k]? with
  | some it => it.b && !(B.getD k false) && !(nearR (plR L B it.t.toNat - plR L B k))
  | none => false
def farR (L : List RIt) (B : List Bool) : Nat → List Int
  | 0 => []
  | k + 1 => farR L B k ++ (if tooB L B k then [(k : Int)] else [])
def nextR (L : List RIt) (B : List Bool) : List Bool := (List.range L.length).map fun k => B.getD k false || tooB L B k
def itR (L : List RIt) : Nat → List Bool
  | 0 => List.replicate L.length false
  | j + 1 => nextR L (itR L j)
section
variable {L L' : List RIt} {B B' : List Bool} {n k : Nat}
theorem nextR_length : (nextR L B).length = L.length := by simp [nextR]
theorem itR_length : ∀ j, (itR L j).length = L.length
  | 0 => by simp [itR]
  | _ + 1 => nextR_length
theorem plsR_length : (plsR L B n).length = n := by simp [plsR]
theorem plsR_get (h : k < n) : (plsR L B n)[k]? = some (plR L B k) := by simp [plsR, h]
theorem nextR_getD (h : k < L.length) : (nextR L B).getD k false = (B.getD k false || tooB L B k) := by
  simp [nextR, List.getD_eq_getElem?_getD, h]
theorem farR_succ_yes (h : tooB L B k = true) : farR L B (k + 1) = farR L B k ++ [(k : Int)] := by simp [farR, h]
theorem farR_succ_no (h : tooB L B k = false) : farR L B (k + 1) = farR L B k := by simp [farR, h]
theorem farR_length {L : List RIt} {B : List Bool} : ∀ n, (farR L B n).length ≤ n
  | 0 => by simp [farR]
  | n + 1 => by
    have := @farR_length L B n
    cases h : tooB L B n
    · rw [farR_succ_no h]; omega
    · rw [farR_succ_yes h, List.length_append, List.length_singleton]; omega
theorem farR_mem {L : List RIt} {B : List Bool} : ∀ {n : Nat} {x : Int}, x ∈ farR L B n ↔ ∃ k : Nat, k < n ∧ x = k ∧ tooB L B k = true
  | 0, x => by simp [farR]
  | n + 1, x => by
    cases h : tooB L B n
    · rw [farR_succ_no h, farR_mem]
      constructor
      · rintro ⟨k, h1, h2, h3⟩; exact ⟨k, by omega, h2, h3⟩
      · rintro ⟨k, h1, h2, h3⟩
        refine ⟨k, ?_, h2, h3⟩
        rcases Nat.lt_succ_iff_lt_or_eq.1 h1 with h4 | rfl
        · exact h4
        · rw [h] at h3; cases h3
    · rw [farR_succ_yes h, List.mem_append, farR_mem, List.mem_singleton]
      constructor
      · rintro (⟨k, h1, h2, h3⟩ | rfl)
        · exact ⟨k, by omega, h2, h3⟩
        · exact ⟨n, by omega, rfl, h⟩
      · rintro ⟨k, h1, h2, h3⟩
        rcases Nat.lt_succ_iff_lt_or_eq.1 h1 with h4 | rfl
        · exact .inl ⟨k, h4, h2, h3⟩
        · exact .inr h2
/-! ### how many rounds -/
def cntP (p : Nat → Bool) : Nat → Nat
  | 0 => 0
  | k + 1 => cntP p k + (if p k then 1 else 0)
theorem cntP_le {p q : Nat → Bool} : ∀ n, (∀ k, k < n → p k = true → q k = true) → cntP p n ≤ cntP q n
  | 0, _ => Nat.le_refl _
  | n + 1, h => by
    have h1 := cntP_le n (fun k hk => h k (by omega)) (p := p) (q := q)
    have h2 := h n (by omega)
    unfold cntP
    cases hp : p n <;> cases hq : q n <;> simp_all <;> omega
theorem cntP_lt {p q : Nat → Bool} : ∀ n, (∀ k, k < n → p k = true → q k = true) → (∃ k, k < n ∧ q k = true ∧ p k = false) → cntP p n < cntP q n
  | 0, _, ⟨k, h, _⟩ => by omega
  | n + 1, h, ⟨k, hk, h1, h2⟩ => by
    have hle := cntP_le n (fun k hk => h k (by omega)) (p := p) (q := q)
    by_cases e : k = n
    · subst e; unfold cntP; rw [h1, h2]; simp; omega
    · have hlt := cntP_lt n (fun k hk => h k (by omega)) ⟨k, by omega, h1, h2⟩ (p := p) (q := q)
      have h3 := h n (by omega)
      unfold cntP
      cases hp : p n <;> cases hq : q n <;> simp_all <;> omega
theorem cntP_bound (p : Nat → Bool) : ∀ n, cntP p n ≤ n
  | 0 => Nat.le_refl _
  | n + 1 => by have := cntP_bound p n; unfold cntP; split <;> omega
def isBr (L : List RIt) (k : Nat) : Bool := match L[k]? with | some it => it.b | none => false
theorem far_br (h : tooB L B k = true) : isBr L k = true ∧ B.getD k false = false := by
  unfold tooB at h; unfold isBr
  split at h
  · simp only [Bool.and_eq_true, Bool.not_eq_true'] at h; rename_i e; exact ⟨h.1.1, h.1.2⟩
  · cases h
theorem itR_getD_lt {j : Nat} (h : (itR L j).getD k false = true) : k < L.length := by
  by_cases hk : k < L.length
  · exact hk
  · rw [List.getD_eq_getElem?_getD, List.getElem?_eq_none (by rw [itR_length]; omega)] at h; cases h
theorem itR_zero_getD : (itR L 0).getD k false = false := by
  unfold itR; rw [List.getD_eq_getElem?_getD, List.getElem?_replicate]; split <;> rfl
theorem itR_br : ∀ j, (itR L j).getD k false = true → isBr L k = true
  | 0, h => by rw [itR_zero_getD] at h; cases h
  | j + 1, h => by
    have hk := itR_getD_lt h
    rw [itR, nextR_getD hk, Bool.or_eq_true] at h
    rcases h with h | h
    · exact itR_br j h
    · exact (far_br h).1
theorem itR_count : ∀ j, (∀ i, i < j → farR L (itR L i) L.length ≠ []) → j ≤ cntP (fun k => (itR L j).getD k false) L.length
  | 0, _ => Nat.zero_le _
  | j + 1, h => by
    have h1 := itR_count j (fun i hi => h i (by omega))
    have h2 := h j (by omega)
    have h3 : cntP (fun k => (itR L j).getD k false) L.length < cntP (fun k => (itR L (j + 1)).getD k false) L.length := by
      refine cntP_lt _ (fun k hk hp => ?_) ?_
      · rw [itR, nextR_getD hk]; simp only [hp, Bool.true_or]
      · obtain ⟨x, r, hx⟩ := List.exists_cons_of_ne_nil h2
        obtain ⟨k, hk, _, hf⟩ := (farR_mem (x := x) (n := L.length)).1 (by rw [hx]; simp)
        exact ⟨k, hk, by rw [itR, nextR_getD hk, hf]; simp, (far_br hf).2⟩
    omega
/-- the number of rounds -/
theorem rounds_ex (L : List RIt) : ∃ K, K ≤ cntP (isBr L) L.length ∧ farR L (itR L K) L.length = [] ∧ ∀ i, i < K → farR L (itR L i) L.length ≠ [] := by
  have least : ∀ m : Nat, (∃ K, K < m ∧ farR L (itR L K) L.length = [] ∧ ∀ i, i < K → farR L (itR L i) L.length ≠ []) ∨ ∀ i, i < m → farR L (itR L i) L.length ≠ [] := by
    intro m
    induction m with
    | zero => exact .inr (fun i hi => by omega)
    | succ m ih =>
      rcases ih with ⟨K, h1, h2⟩ | h
      · exact .inl ⟨K, by omega, h2⟩
      · by_cases e : farR L (itR L m) L.length = []
        · exact .inl ⟨m, by omega, e, h⟩
        · refine .inr (fun i hi => ?_)
          rcases Nat.lt_succ_iff_lt_or_eq.1 hi with h1 | rfl
          · exact h i h1
          · exact e
  rcases least (cntP (isBr L) L.length + 1) with ⟨K, h1, h2⟩ | h
  · exact ⟨K, by omega, h2⟩
  · have h1 := itR_count _ h
    have h2 := cntP_le (p := fun k => (itR L (cntP (isBr L) L.length + 1)).getD k false) (q := isBr L) L.length (fun k _ hp => itR_br _ hp)
    omega
/-- so many rounds, and then all fit -/
def RndR (L : List RIt) (K : Nat) : Prop := farR L (itR L K) L.length = [] ∧ ∀ i, i < K → farR L (itR L i) L.length ≠ []
theorem rnd_unique {K K' : Nat} (h : RndR L K) (h' : RndR L K') : K = K' := by
  rcases Nat.lt_trichotomy K K' with e | e | e
  · exact absurd h.1 (h'.2 _ e)
  · exact e
  · exact absurd h'.1 (h.2 _ e)
theorem rnd_bound {K : Nat} (h : RndR L K) : K ≤ L.length := by
  obtain ⟨K', h1, h2⟩ := rounds_ex L
  rw [rnd_unique h h2]
  exact Nat.le_trans h1 (cntP_bound _ _)
/-! ### places grow -/
theorem szR_nonneg (h : okR L = true) : 0 ≤ szR L B k := by
  unfold szR
  have h1 : (0 : Int) ≤ sR L[k]? := by
    cases e : L[k]? with
    | none => exact Int.le_refl _
    | some it =>
      have := List.all_eq_true.1 h it (List.mem_of_getElem? e)
      simp only [okRI, Bool.and_eq_true, decide_eq_true_eq] at this
      show 0 ≤ it.s
      omega
  split <;> omega
theorem szR_small (h : okR L = true) : szR L B k ≤ 2049 := by
  unfold szR
  have h1 : sR L[k]? ≤ 2048 := by
    cases e : L[k]? with
    | none => show (0 : Int) ≤ 2048; omega
    | some it =>
      have := List.all_eq_true.1 h it (List.mem_of_getElem? e)
      simp only [okRI, Bool.and_eq_true, decide_eq_true_eq] at this
      show it.s ≤ 2048
      omega
  split <;> omega
theorem plR_succ (k : Nat) : plR L B (k + 1) = plR L B k + szR L B k := rfl
theorem plR_bd {L : List RIt} {B : List Bool} (h : okR L = true) : ∀ k : Nat, 0 ≤ plR L B k ∧ plR L B k ≤ 2049 * k
  | 0 => by simp [plR]
  | k + 1 => by
    have h1 := @plR_bd L B h k
    have h2 := szR_nonneg h (B := B) (k := k)
    have h3 := szR_small h (B := B) (k := k)
    rw [plR_succ]
    omega
theorem plR_mono (h : okR L = true) {i j : Nat} (hij : i ≤ j) : plR L B i ≤ plR L B j := by
  obtain ⟨d, rfl⟩ := Nat.exists_eq_add_of_le hij
  induction d with
  | zero => exact Int.le_refl _
  | succ d ih =>
    have h1 := ih (by omega)
    have h2 := szR_nonneg h (B := B) (k := i + d)
    rw [show i + (d + 1) = i + d + 1 from rfl, plR_succ]
    omega
/-- no smaller, to the same places -/
structure LeR (L L' : List RIt) : Prop where
  len : L.length = L'.length
  ok : okR L = true
  s : ∀ k : Nat, sR L[k]? ≤ sR L'[k]?
  tb : ∀ (k : Nat) (it it' : RIt), L[k]? = some it → L'[k]? = some it' → it.b = it'.b ∧ (it.b = true → it.t = it'.t)
theorem LeR.refl (h : okR L = true) : LeR L L := ⟨rfl, h, fun _ => Int.le_refl _, fun k it it' h1 h2 => by rw [h1] at h2; cases h2; exact ⟨rfl, fun _ => rfl⟩⟩
end
end Go.Proofs.YtnpnafidhcnkhaaGreatDoor
namespace Go.Proofs.YtnpnafidhcnkhaaGreatDoor
open Go.RowKit
def wordV (op a b c imm : Int) : Int := if insB op a b c imm = true then wrdI op a b c else 0
theorem wordV_yes {op a b c imm : Int} (h : insB op a b c imm = true) : wordV op a b c imm = wrdI op a b c := by unfold wordV; rw [if_pos h]
theorem wordV_no {op a b c imm : Int} (h : insB op a b c imm = false) : wordV op a b c imm = 0 := by unfold wordV; rw [if_neg (by simp [h])]
theorem word_any (op a b c imm : Int) (w : World) :
    Calls Tryz.prog 60 #[.agg #[.int .i64 op, .int .i64 a, .int .i64 b, .int .i64 c, .int .u32 imm]] w fun e w' => e = .returned (.tuple #[.int .u32 (wordV op a b c imm), .bool (insB op a b c imm)]) ∧ Below w.heap.size w w' := by
  cases h : insB op a b c imm
  · rw [wordV_no h]; exact word_no op a b c imm w h
  · rw [wordV_yes h]; exact word_yes op a b c imm w h
set_option maxHeartbeats 400000 in
theorem rclass_any (op : Int) (w : World) :
    Calls Tryz.prog 18 #[.int .i64 op] w fun e w' => e = .returned (.int .i64 (clsI op)) ∧ w = w' := by
  go_enter Tryz.func18, Tryz.ntmps18
  go_wp2
  all_goals
    go_ret
    refine ⟨ret_i ?_, rfl⟩
    try simp only [beq_iff_eq, beq_eq_false_iff_ne, ne_eq] at *
    unfold clsI
    repeat' split
    all_goals omega
def rA (op : Int) : Bool := decide (¬ (op = 1 ∨ op = 34 ∨ op = 42 ∨ op = 64 ∨ op = 65 ∨ op = 19 ∨ op = 22 ∨ op = 96 ∨ op = 16))
def rB (op : Int) : Bool := decide (op = 2 ∨ op = 37 ∨ op = 38 ∨ op = 41 ∨ (3 ≤ op ∧ op ≤ 13) ∨ op = 24)
def rC (op : Int) : Bool := decide (op = 16 ∨ op = 17 ∨ op = 18 ∨ (3 ≤ op ∧ op ≤ 13) ∨ op = 24)
def rN (op : Int) : Bool := decide (op = 16 ∨ op = 17 ∨ op = 18 ∨ op = 12 ∨ op = 13)
theorem rA_has {op : Int} (h : clsI op ≠ 0) : hasA op = if rA op = true then 1 else 0 := by
  unfold rA hasA; unfold clsI at h; simp only [decide_eq_true_eq]
  repeat' split at h
  all_goals (repeat' split) <;> omega
theorem rB_has (op : Int) : hasB op = if rB op = true then 1 else 0 := by
  unfold rB hasB; simp only [decide_eq_true_eq]
theorem rC_has (op : Int) : hasC op = if rC op = true then (if rN op = true then 2 else 1) else 0 := by
  unfold rC rN hasC; simp only [decide_eq_true_eq]
  (repeat' split) <;> omega
theorem ret_4b {a b c d a' b' c' d' : Bool} (h : a = a') (h1 : b = b') (h2 : c = c') (h3 : d = d') :
    Ending.returned (.tuple #[.bool a, .bool b, .bool c, .bool d]) = .returned (.tuple #[.bool a', .bool b', .bool c', .bool d']) := by rw [h, h1, h2, h3]
set_option maxHeartbeats 1000000 in
theorem uses_any (op : Int) (w : World) :
    Calls Tryz.prog 35 #[.int .i64 op] w fun e w' => e = .returned (.tuple #[.bool (rA op), .bool (rB op), .bool (rC op), .bool (rN op)]) ∧ w = w' := by
  go_enter Tryz.func35, Tryz.ntmps35
  go_wp2
  all_goals
    refine bodyPost_ret (by simp [results, Tryz.results35, go_sem]; try rfl) rfl ?_
    refine ⟨ret_4b ?_ ?_ ?_ ?_, rfl⟩
    all_goals simp only [beq_iff_eq, beq_eq_false_iff_ne, ne_eq] at *
    all_goals first | unfold rA | unfold rB | unfold rC | unfold rN
    all_goals simp only [true_eq_decide_iff, false_eq_decide_iff]
    all_goals omega
end Go.Proofs.YtnpnafidhcnkhaaGreatDoor
namespace Go.Proofs.YtnpnafidhcnkhaaGreatDoor
open Go.RowKit
set_option maxHeartbeats 1000000 in
theorem rtwo_any (op : Int) (w : World) :
    Calls Tryz.prog 26 #[.int .i64 op] w fun e w' => e = .returned (.bool (twoB op)) ∧ w = w' := by
  go_enter Tryz.func26, Tryz.ntmps26
  go_wp2
  all_goals
    go_ret
    refine ⟨ret_b ?_, rfl⟩
    rw [Bool.eq_iff_iff]
    unfold twoB
    simp only [beq_iff_eq, decide_eq_true_eq] at *
    first | omega | (simp_all; done) | (simp_all; omega)
def regB (n : Int) (has : Bool) : Bool := decide (n = 0) || has && decide (0 < n) && decide (n < 16)
set_option maxHeartbeats 1000000 in
theorem reg_any (n : Int) (has : Bool) (w : World) :
    Calls Tryz.prog 36 #[.int .i64 n, .bool has] w fun e w' => e = .returned (.bool (regB n has)) ∧ w = w' := by
  by_cases h0 : n = 0
  · subst h0
    go_enter Tryz.func36, Tryz.ntmps36
    go_wp2
    go_ret
    exact ⟨ret_b (by simp [regB]), rfl⟩
  · have e0 : (n == 0) = false := by simpa using h0
    have H0 := hid h0
    clear h0
    cases has
    · go_enter Tryz.func36, Tryz.ntmps36
      go_wp2
      go_ret
      exact ⟨ret_b (by simp [regB, H0.out]), rfl⟩
    · by_cases h1 : 0 < n
      · go_enter Tryz.func36, Tryz.ntmps36
        go_wp2
        go_ret
        exact ⟨ret_b (by simp [regB, H0.out, h1]), rfl⟩
      · go_enter Tryz.func36, Tryz.ntmps36
        go_wp2
        go_ret
        exact ⟨ret_b (by simp [regB, H0.out]; try omega), rfl⟩
theorem alw_reg (x : Bool) (n : Int) : alwB (if x = true then 1 else 0) n = regB n x := by
  unfold alwB regB
  cases x
  · simp
  · rw [Bool.eq_iff_iff]; simp; omega
theorem ins_ref (op a b c imm : Int) : insB op a b c imm = (decide (clsI op ≠ 0) && regB a (rA op) && regB b (rB op) && (twoB op || decide (imm = 0)) && (if rN op = true then decide (0 ≤ c ∧ c ≤ 255) else regB c (rC op))) := by
  unfold insB
  by_cases h : clsI op = 0
  · simp [h]
  · rw [rA_has h, rB_has, alw_reg, alw_reg]
    have hC : alwB (hasC op) c = (if rN op = true then decide (0 ≤ c ∧ c ≤ 255) else regB c (rC op)) := by
      rw [rC_has]
      cases hn : rN op
      · simp only [Bool.false_eq_true, if_false]
        exact alw_reg _ _
      · have hc : rC op = true := by
          unfold rN at hn; have := of_decide_eq_true hn
          unfold rC; exact decide_eq_true (by omega)
        rw [hc]; unfold alwB; simp
    rw [hC]
    cases regB a (rA op) <;> cases regB b (rB op) <;> cases twoB op <;> simp [h, Bool.and_comm]
end Go.Proofs.YtnpnafidhcnkhaaGreatDoor
namespace Go.Proofs.YtnpnafidhcnkhaaGreatDoor
open Go.RowKit
theorem rins_yes {op a b c imm : Int} (h : insB op a b c imm = true) :
    (clsI op != 0) = true ∧ regB a (rA op) = true ∧ regB b (rB op) = true ∧ (twoB op = true ∨ twoB op = false ∧ (imm == 0) = true) ∧ (rN op = true ∨ rN op = false ∧ regB c (rC op) = true) := by
  rw [ins_ref] at h
  simp only [Bool.and_eq_true, Bool.or_eq_true, decide_eq_true_eq] at h
  obtain ⟨⟨⟨⟨h1, h2⟩, h3⟩, h4⟩, h5⟩ := h
  refine ⟨by simpa using h1, h2, h3, ?_, ?_⟩
  · cases ht : twoB op
    · right; simp [ht] at h4; simp [h4]
    · left; rfl
  · cases hn : rN op
    · right; simp [hn] at h5; simp [h5]
    · left; rfl
theorem rins_no {op a b c imm : Int} (h : insB op a b c imm = false) :
    ((clsI op != 0) = false ∧ rN op = rN op) ∨
    ((clsI op != 0) = true ∧ regB a (rA op) = false) ∨
    ((clsI op != 0) = true ∧ regB a (rA op) = true ∧ regB b (rB op) = false) ∨
    ((clsI op != 0) = true ∧ regB a (rA op) = true ∧ regB b (rB op) = true ∧ twoB op = false ∧ (imm == 0) = false) ∨
    ((clsI op != 0) = true ∧ regB a (rA op) = true ∧ regB b (rB op) = true ∧ twoB op = true ∧ rN op = true ∧ c < 0) ∨
    ((clsI op != 0) = true ∧ regB a (rA op) = true ∧ regB b (rB op) = true ∧ twoB op = true ∧ rN op = true ∧ 0 ≤ c ∧ decide (c ≤ 255) = false) ∨
    ((clsI op != 0) = true ∧ regB a (rA op) = true ∧ regB b (rB op) = true ∧ twoB op = true ∧ rN op = false ∧ regB c (rC op) = false) ∨
    ((clsI op != 0) = true ∧ regB a (rA op) = true ∧ regB b (rB op) = true ∧ twoB op = false ∧ (imm == 0) = true ∧ rN op = true ∧ c < 0) ∨
    ((clsI op != 0) = true ∧ regB a (rA op) = true ∧ regB b (rB op) = true ∧ twoB op = false ∧ (imm == 0) = true ∧ rN op = true ∧ 0 ≤ c ∧ decide (c ≤ 255) = false) ∨
    ((clsI op != 0) = true ∧ regB a (rA op) = true ∧ regB b (rB op) = true ∧ twoB op = false ∧ (imm == 0) = true ∧ rN op = false ∧ regB c (rC op) = false) := by
  rw [ins_ref] at h
  by_cases h1 : clsI op = 0
  · left; simp [h1]
  · right
    have e1 : (clsI op != 0) = true := by simpa using h1
    cases h2 : regB a (rA op)
    · left; simp [e1]
    · right
      cases h3 : regB b (rB op)
      · left; simp [e1]
      · right
        cases ht : twoB op
        · by_cases hi : imm = 0
          · right; right; right; right
            cases hn : rN op
            · right; right
              simp [h1, h2, h3, ht, hi, hn] at h; simp [e1, hi, h]
            · simp [h1, h2, h3, ht, hi, hn] at h
              by_cases hc : c < 0
              · left; simp [e1, hi, hc]
              · right; left; simp [e1, hi]; omega
          · left; simp [e1, hi]
        · right
          cases hn : rN op
          · right; right; left
            simp [h1, h2, h3, ht, hn] at h; simp [e1, h]
          · simp [h1, h2, h3, ht, hn] at h
            by_cases hc : c < 0
            · left; simp [e1, hc]
            · right; left; simp [e1]; omega
set_option maxHeartbeats 2000000 in
theorem rword_yes (op a b c imm : Int) (w : World) (h : insB op a b c imm = true) :
    Calls Tryz.prog 25 #[.agg #[.int .i64 op, .int .i64 a, .int .i64 b, .int .i64 c, .int .u32 imm]] w fun e w' => e = .returned (.tuple #[.int .u32 (wrdI op a b c), .bool true]) ∧ Below w.heap.size w w' := by
  obtain ⟨⟨o1, o2⟩, ⟨a1, a2⟩, ⟨b1, b2⟩, ⟨c1, c2⟩⟩ := ins_bd h
  have H : Hid (bits BinOp.or IntKind.u32 (bits BinOp.or IntKind.u32 (bits BinOp.or IntKind.u32 (op * 16777216) (a * 65536)) (b * 256)) c = wrdI op a b c) := wrd_or op a b c ⟨by omega, by omega⟩ ⟨a1, a2⟩ ⟨b1, b2⟩ ⟨c1, c2⟩
  obtain ⟨h1, h2, h3, h4, h5⟩ := rins_yes h
  clear h
  rcases h4 with h4 | ⟨h4, h6⟩ <;> rcases h5 with h5 | ⟨h5, h7⟩
  all_goals
    go_enter Tryz.func25, Tryz.ntmps25
    go_wp2_with (first | (go_at_call 35; refine (uses_any _ _).mono ?_; rintro e w' ⟨rfl, rfl⟩) | (go_at_call 18; refine (rclass_any _ _).mono ?_; rintro e w' ⟨rfl, rfl⟩) | (go_at_call 36; refine (reg_any _ _ _).mono ?_; rintro e w' ⟨rfl, rfl⟩) | (go_at_call 26; refine (rtwo_any _ _).mono ?_; rintro e w' ⟨rfl, rfl⟩))
    go_ret2
    exact ⟨ret_wb H.out, by go_grown⟩
set_option maxHeartbeats 4000000 in
theorem rword_no (op a b c imm : Int) (w : World) (h : insB op a b c imm = false) :
    Calls Tryz.prog 25 #[.agg #[.int .i64 op, .int .i64 a, .int .i64 b, .int .i64 c, .int .u32 imm]] w fun e w' => e = .returned (.tuple #[.int .u32 0, .bool false]) ∧ Below w.heap.size w w' := by
  have h' := rins_no h
  clear h
  rcases h' with ⟨h1, _⟩ | ⟨h1, h2⟩ | ⟨h1, h2, h3⟩ | ⟨h1, h2, h3, h4, h5⟩ | ⟨h1, h2, h3, h4, h5, h6⟩ | ⟨h1, h2, h3, h4, h5, h6, h7⟩ | ⟨h1, h2, h3, h4, h5, h6⟩ | ⟨h1, h2, h3, h4, h5, h6, h7⟩ | ⟨h1, h2, h3, h4, h5, h6, h7, h8⟩ | ⟨h1, h2, h3, h4, h5, h6, h7⟩
  all_goals
    go_enter Tryz.func25, Tryz.ntmps25
    go_wp2_with (first | (go_at_call 35; refine (uses_any _ _).mono ?_; rintro e w' ⟨rfl, rfl⟩) | (go_at_call 18; refine (rclass_any _ _).mono ?_; rintro e w' ⟨rfl, rfl⟩) | (go_at_call 36; refine (reg_any _ _ _).mono ?_; rintro e w' ⟨rfl, rfl⟩) | (go_at_call 26; refine (rtwo_any _ _).mono ?_; rintro e w' ⟨rfl, rfl⟩))
    all_goals
      go_ret2
      exact ⟨rfl, by go_grown⟩
theorem rword_any (op a b c imm : Int) (w : World) :
    Calls Tryz.prog 25 #[.agg #[.int .i64 op, .int .i64 a, .int .i64 b, .int .i64 c, .int .u32 imm]] w fun e w' => e = .returned (.tuple #[.int .u32 (wordV op a b c imm), .bool (insB op a b c imm)]) ∧ Below w.heap.size w w' := by
  cases h : insB op a b c imm
  · rw [wordV_no h]; exact rword_no op a b c imm w h
  · rw [wordV_yes h]; exact rword_yes op a b c imm w h
end Go.Proofs.YtnpnafidhcnkhaaGreatDoor
namespace Go.Proofs.YtnpnafidhcnkhaaGreatDoor
open Go.RowKit
/-- what Of answers, as one -/
def ofV (x imm : Int) : Value := if insB (x / 16777216) (x / 65536 % 256) (x / 256 % 256) (x % 256) (wantImm (x / 16777216) imm) = true then .tuple #[.agg #[.int .i64 (x / 16777216), .int .i64 (x / 65536 % 256), .int .i64 (x / 256 % 256), .int .i64 (x % 256), .int .u32 (wantImm (x / 16777216) imm)], .bool true] else .tuple #[.agg #[.int .i64 0, .int .i64 0, .int .i64 0, .int .i64 0, .int .u32 0], .bool false]
theorem ofV_parts (x imm : Int) : ∃ a b c d e t, ofV x imm = .tuple #[.agg #[.int .i64 a, .int .i64 b, .int .i64 c, .int .i64 d, .int .u32 e], .bool t] := by
  unfold ofV
  split
  · exact ⟨_, _, _, _, _, _, rfl⟩
  · exact ⟨_, _, _, _, _, _, rfl⟩
theorem info_ins9 : (Tryz.prog.info? 29).map (·.size) = some 5 := by kernel_rfl
theorem zero_ins9 (w : World) : (zeroValue 29).run Tryz.prog w = .ok (.agg #[.int .i64 0, .int .i64 0, .int .i64 0, .int .i64 0, .int .u32 0]) w := by kernel_rfl
theorem build_ins0 (w : World) : (Instr.build 29 #[]).run Tryz.prog w = .ok (.agg #[.int .i64 0, .int .i64 0, .int .i64 0, .int .i64 0, .int .u32 0]) w := by kernel_rfl
end Go.Proofs.YtnpnafidhcnkhaaGreatDoor
namespace Go.Proofs.YtnpnafidhcnkhaaGreatDoor
open Go.RowKit
/-- the word behind the mark, as an instruction's parts -/
def bkIns (z : Int) : Bool := insB (z / 16777216) (z / 65536 % 256) (z / 256 % 256) (z % 256) (wantImm (z / 16777216) 0)
def bkB (y : Int) : Bool := decide (2147483648 ≤ y) && (bkIns (y - 2147483648) && (decide (clsI ((y - 2147483648) / 16777216) = 2) || decide (clsI ((y - 2147483648) / 16777216) = 3)))
def noneV : Value := .tuple #[.agg #[.int .i64 0, .int .i64 0, .int .i64 0, .int .i64 0, .int .u32 0], .bool false]
def insV (z : Int) : Value := .tuple #[.agg #[.int .i64 (z / 16777216), .int .i64 (z / 65536 % 256), .int .i64 (z / 256 % 256), .int .i64 (z % 256), .int .u32 (wantImm (z / 16777216) 0)], .bool true]
def backV (y : Int) : Value := if bkB y = true then insV (y - 2147483648) else noneV
theorem back_low {y : Int} (h : y < 2147483648) : backV y = noneV := by
  unfold backV bkB
  rw [if_neg (by simp; omega)]
/-- what is answered by what Of says -/
def backL (t : Bool) (cl a b c d i : Int) : Value := if (t && (decide (cl = 2) || decide (cl = 3))) = true then .tuple #[.agg #[.int .i64 a, .int .i64 b, .int .i64 c, .int .i64 d, .int .u32 i], .bool true] else noneV
theorem back_leaf {y z a b c d i : Int} {t : Bool} (hz : y - 2147483648 = z) (h : 2147483648 ≤ y) (hv : ofV z 0 = .tuple #[.agg #[.int .i64 a, .int .i64 b, .int .i64 c, .int .i64 d, .int .u32 i], .bool t]) : backV y = backL t (clsI a) a b c d i := by
  unfold ofV at hv
  unfold backV bkB backL bkIns
  rw [hz]
  split at hv
  · rename_i hi
    simp only [Value.tuple.injEq, Array.mk.injEq, List.cons.injEq, Value.agg.injEq, Value.int.injEq, Value.bool.injEq, and_true, true_and] at hv
    obtain ⟨⟨rfl, rfl, rfl, rfl, rfl⟩, rfl⟩ := hv
    rw [hi]
    simp only [h, decide_true, Bool.true_and]
    rfl
  · rename_i hi
    simp only [Value.tuple.injEq, Array.mk.injEq, List.cons.injEq, Value.agg.injEq, Value.int.injEq, Value.bool.injEq, and_true, true_and] at hv
    obtain ⟨-, rfl⟩ := hv
    rw [Bool.eq_false_iff.2 hi]
    simp
end Go.Proofs.YtnpnafidhcnkhaaGreatDoor
