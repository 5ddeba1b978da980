/- New devices, a copy of devices (package dev); lists of what is seen compared: contracts. -/
import Derived.Test.YtiglmdilooaeeaaDev4
import Derived.LoopTactic
import Derived.StillTailTactics
import Derived.Deep.WholeRow
namespace Go.Proofs.Ytiglmdilooaeeaa
open Go.RowKit
/-! ### new devices -/
def zeroD : Array Value := #[.int .u32 0, .int .u32 0, .int .u32 0, .int .u32 0, .int .u32 0, .int .u32 0, .int .u32 0, .int .u32 0, .int .u32 0, .int .u32 0, .int .u32 0, .int .u32 0, .int .u32 0, .int .u32 0, .int .u32 0, .int .u32 0, .int .u32 0, .int .u32 0, .int .u32 0, .int .u32 0, .int .u32 0, .int .u32 0, .int .u32 0, .int .u32 0, .int .u32 0, .int .u32 0, .int .u32 0, .int .u32 0, .int .u32 0, .int .u32 0, .int .u32 0, .int .u32 0, .int .u32 0, .int .u32 0, .int .u32 0, .int .u32 0, .int .u32 0, .int .u32 0, .int .u32 0, .int .u32 0, .int .u32 0, .int .u32 0, .int .u32 0, .int .u32 0, .int .u32 0, .int .u32 0, .int .u32 0, .int .u32 0, .int .u32 0, .int .u32 0, .int .u32 0, .int .u32 0, .int .u32 0, .int .u32 0, .int .u32 0, .int .u32 0, .int .u32 0, .int .u32 0, .int .u32 0, .int .u32 0, .int .u32 0, .int .u32 0, .int .u32 0, .int .u32 0, .int .i64 0, .int .i64 0, .int .u32 0, .int .u32 0, .int .u32 0, .int .u32 0, .int .u32 0, .int .u32 0, .int .u32 0, .int .u32 0, .int .u32 0, .int .u32 0, .int .u32 0, .int .u32 0, .int .u32 0, .int .u32 0, .int .u32 0, .int .u32 0, .int .i64 0, .int .u32 0, .slice none 0 0]
def zeroS : DvS := ⟨[], [0, 0, 0, 0, 0, 0, 0, 0, 0, 0, 0, 0, 0, 0, 0, 0], 0, 0, []⟩
theorem zeroS_get (k : Nat) (hk : k < 16) : zeroS.S[k]? = some 0 := by
  rcases (by omega : k = 0 ∨ k = 1 ∨ k = 2 ∨ k = 3 ∨ k = 4 ∨ k = 5 ∨ k = 6 ∨ k = 7 ∨ k = 8 ∨ k = 9 ∨ k = 10 ∨ k = 11 ∨ k = 12 ∨ k = 13 ∨ k = 14 ∨ k = 15) with rfl | rfl | rfl | rfl | rfl | rfl | rfl | rfl | rfl | rfl | rfl | rfl | rfl | rfl | rfl | rfl <;> rfl
theorem zero_is : DevIs zeroD 0 zeroS (.slice none 0 0) where
  size := rfl
  one := by
    have : zeroD.all (·.oneCell') = true := by kernel_rfl
    intro k u hu
    exact (Array.all_eq_true_iff_forall_mem.1 this) u (Array.mem_of_getElem? hu)
  f64 := by decide
  first := rfl
  ring := by intro j y hy; simp [zeroS] at hy
  count := rfl
  q64 := by decide
  sec := by
    intro k y hy
    have hk : k < 16 := (List.getElem?_eq_some_iff.1 hy).1
    rw [zeroS_get k hk] at hy
    obtain rfl := Option.some.inj hy
    rcases (by omega : k = 0 ∨ k = 1 ∨ k = 2 ∨ k = 3 ∨ k = 4 ∨ k = 5 ∨ k = 6 ∨ k = 7 ∨ k = 8 ∨ k = 9 ∨ k = 10 ∨ k = 11 ∨ k = 12 ∨ k = 13 ∨ k = 14 ∨ k = 15) with rfl | rfl | rfl | rfl | rfl | rfl | rfl | rfl | rfl | rfl | rfl | rfl | rfl | rfl | rfl | rfl <;> rfl
  s16 := rfl
  frm := rfl
  aft := rfl
  seen := rfl
theorem dev_zero (w : World) {B : Nat} (hB : B ≤ w.heap.size) : DevAt (w.alloc (.cells zeroD 33)) B w.heap.size zeroS (.slice none 0 0) :=
  ⟨⟨zeroD, 0, heap_alloc_new _ _, zero_is⟩, World.ownsRow_nil _ _ _ _, hB⟩
theorem zero_dev (w : World) : (zeroValue 33).run Try.prog w = .ok (.agg zeroD) w := by kernel_rfl
/-! ### a copy -/
theorem dev_info : (Try.prog.info? 33).map (·.size) = some 85 := by kernel_rfl
def ClonedAt (w : World) (x : DvS) (e : Ending) (w' : World) : Prop :=
  ∃ c u, e = .returned (.pointer (some ⟨c, 0, none⟩)) ∧ DevAt w' w.heap.size c x u ∧ w.grownBy w' none
set_option maxRecDepth 100000 in
set_option maxHeartbeats 1000000 in
theorem clone_any {w : World} {B d : Nat} {x : DvS} {v : Value} (h : DevAt w B d x v) (hl : x.sn.length ≤ 1000000) :
    Calls Try.prog 12 #[.pointer (some ⟨d, 0, none⟩)] w (ClonedAt w x) := by
  obtain ⟨cur, f, hb, hi⟩ := h.hd
  have Hb := hid hb
  have His := hid hi
  have H := hid h
  have Hs1 : Hid ((Try.prog.info? 33).map (·.size) = some cur.size) := hid (by rw [dev_info, hi.size])
  have Hz : Hid (zeroD.size = cur.size) := hid (by rw [hi.size]; rfl)
  have Ho : Hid (cur.all (·.oneCell') = true) := hid (Array.all_eq_true_iff_forall_mem.2 (fun u hu => by
    obtain ⟨k, hk, rfl⟩ := Array.mem_iff_getElem.1 hu
    exact hi.one k _ (Array.getElem?_eq_getElem hk)))
  have hc : ∀ o, (w.alloc o).cell? ⟨d, 84, none⟩ = some v := fun o => by rw [World.cell?_alloc_lt _ _ _ h.lt, cell_of_row w d _ _ _ _ hb, hi.seen]
  have hn84 : (w.alloc (.cells cur 33)).heap[w.heap.size]? = some (.cells cur 33 (0, 0)) := heap_alloc_new _ _
  have Hn := hid hn84
  have Hz33 := zero_dev
  clear hb hi h hn84
  go_enter Try.func12, Try.ntmps12
  go_wp2_with (first
    | (refine wpList_load_row rfl 33 _ rfl d rfl _ cur _ _ Hb.out Try.underlying33 rfl Hs1.out ?_)
    | (refine wpList_store_row rfl 33 _ _ rfl w.heap.size cur rfl rfl _ _ (heap_alloc_last w _) Hs1.out Hz.out Ho.out ?_; rw [World.setRow_alloc_new])
    | (go_at_call 32; refine (clone_seens (H.out.kept0 (World.grownBy_alloc _ _ _)).own hl).mono ?_; rintro e w1 ⟨u, rfl, hown, hg⟩; obtain ⟨p, c, rfl⟩ := (SnAt.own hown).len; have hn1 := (hg.block _ (by simp) (by simp)).trans Hn.out; have hc1 : w1.cell? ⟨w.heap.size, 84, none⟩ = some v := (by rw [cell_of_row w1 _ _ _ _ _ hn1, His.out.seen]); have hf1 : w1.frozen? ⟨w.heap.size, 84, none⟩ = false := frozen_of_row w1 _ _ _ _ hn1; have HO := hid hown; have HG := hid hg; have HN := hid hn1; clear hown hg hn1)
    | fail)
  go_ret
  have hL : Lv w1 (w1.setCell ⟨w.heap.size, 84, none⟩ (.slice p x.sn.length c)) [w.heap.size] := (Lv.refl _ _).set (by simp) _ _
  have hsz : (w.alloc (.cells cur 33)).heap.size = w.heap.size + 1 := by simp
  refine ⟨w.heap.size, .slice p x.sn.length c, rfl, ⟨⟨_, f, heap_setCell_same _ _ _ _ _ _ HN.out, His.out.show rfl x.sn⟩, ?_, Nat.le_refl _⟩, ?_⟩
  · refine own_base (own_keptL HO.out hL ?_) (by omega)
    intro g hg
    have := (HO.out.lt g hg).1
    simp; omega
  · refine Lv.after (grown_trans (World.grownBy_alloc _ _ _) HG.out) hL (by simp)
end Go.Proofs.Ytiglmdilooaeeaa
