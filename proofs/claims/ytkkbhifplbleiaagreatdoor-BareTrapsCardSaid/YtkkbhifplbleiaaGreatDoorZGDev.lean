/- Keys that wait (package dev): contracts. -/
import Derived.Test.YtkkbhifplbleiaaGreatDoorZGAluA
import Derived.WalkKit
import Derived.WalkSpells
import Derived.WalkLawsBesides
import Derived.Handy
import Derived.RegionTactic
import Derived.Deep.QuietTactic
import Derived.BigQuiet
import Derived.IntWalk
import Derived.Outline
import Derived.Deep.RegionLaw
import Derived.LoopTactic
import Derived.StillTailTactics
import Derived.Deep.WholeRow
namespace Go.Proofs.YtkkbhifplbleiaaGreatDoor
open Go.RowKit
section
variable {w : World} {B d : Nat} {x : DvS} {v : Value}
/-- behind a call that writes devices: they read so now; nothing else was written -/
structure Turned (w : World) (B d : Nat) (v : Value) (x' : DvS) (w' : World) (v' : Value) : Prop where
  at_ : DevAt w' B d x' v'
  lv : Lv w w' (foot d v)
  mine : Mine w v v'
theorem DevAt.re {w' : World} (h : DevAt w B d x v) (hg : Lv w w' [d]) {cur' : Array Value} {f' : Nat} {x' : DvS} (hb : w'.heap[d]? = some (.cells cur' 88 (0, 0))) (hi : DevIs cur' f' x' v) (hsn : x'.sn = x.sn) : DevAt w' B d x' v :=
  ⟨⟨cur', f', hb, hi⟩, by rw [hsn]; exact own_keptL h.own hg (fun g hgv e => h.own_ne (by rw [hgv]; simp at e; rw [e])), h.ge⟩
theorem Turned.of (_h : DevAt w B d x v) {w' : World} {x' : DvS} (ha : DevAt w' B d x' v) (hg : Lv w w' [d]) : Turned w B d v x' w' v :=
  ⟨ha, hg.mono (fun i hi => mem_foot.2 (.inl (by simpa using hi))), .inl rfl⟩
theorem push_no (h : DevAt w B d x v) (hq : x.Q.length = 64) (key : Int) :
    Calls Tryz.prog 79 #[.pointer (some ⟨d, 0, none⟩), .int .u32 key] w fun e w' => e = .returned (.bool false) ∧ w = w' := by
  obtain ⟨cur, f, hb, hi⟩ := h.hd
  have hc : w.cell? ⟨d, 65, none⟩ = some (.int .i64 64) := by rw [cell_of_row w d _ _ _ _ hb, hi.count, hq]; rfl
  clear hb hi h
  go_enter Tryz.func79, Tryz.ntmps79
  go_wp2
  go_ret
  exact ⟨rfl, rfl⟩
set_option maxHeartbeats 1000000 in
theorem push_yes (h : DevAt w B d x v) (hq : x.Q.length < 64) (key : Int) :
    Calls Tryz.prog 79 #[.pointer (some ⟨d, 0, none⟩), .int .u32 key] w fun e w' => e = .returned (.bool true) ∧ DevAt w' B d { x with Q := x.Q ++ [key] } v ∧ Lv w w' [d] := by
  obtain ⟨cur, f, hb, hi⟩ := h.hd
  have Hb := hid hb
  have Hi := hid hi
  have H := hid h
  obtain ⟨n, hn⟩ : ∃ n, x.Q.length = n := ⟨_, rfl⟩
  have hc : w.cell? ⟨d, 65, none⟩ = some (.int .i64 n) := by rw [cell_of_row w d _ _ _ _ hb, hi.count, hn]
  have hf : w.cell? ⟨d, 64, none⟩ = some (.int .i64 f) := by rw [cell_of_row w d _ _ _ _ hb, hi.first]
  obtain ⟨k, hk⟩ : ∃ k, (f + n) % 64 = k := ⟨_, rfl⟩
  have hk64 : k < 64 := by omega
  have hfz : ∀ j, w.frozen? ⟨d, j, none⟩ = false := fun j => frozen_of_row w d j _ _ hb
  have hs := hi.size
  obtain ⟨u, hu⟩ : ∃ u, w.cell? ⟨d, k, none⟩ = some u := by rw [cell_of_row w d _ _ _ _ hb]; exact ⟨_, Array.getElem?_eq_getElem (by omega)⟩
  have hf64 := hi.f64
  have hne : ((n : Int) == 64) = false := by simp; omega
  have hN0 : (0 : Int) ≤ (f : Int) + (n : Int) := by omega
  have hN1 : (f : Int) + (n : Int) ≤ 9223372036854775807 := by omega
  have hK : ((f : Int) + (n : Int)) % 64 = (k : Int) := by omega
  have hk0 : (0 : Int) ≤ (k : Int) := by omega
  have hk1 : (k : Int) < 64 := by omega
  clear hb hi h hs
  go_enter Tryz.func79, Tryz.ntmps79
  go_wp2
  go_region
  go_wp2
  go_ret
  have hg : Lv w ((w.setCell ⟨d, k, none⟩ (.int .u32 key)).setCell ⟨d, 65, none⟩ (.int .i64 ((n : Int) + 1))).drew [d] := (((Lv.refl w [d]).set (by simp) _ _).set (by simp) _ _).drew
  refine ⟨rfl, H.out.re hg (cur' := (cur.setIfInBounds k (.int .u32 key)).setIfInBounds 65 (.int .i64 ((n : Int) + 1))) (heap_setCell_same _ _ _ _ _ _ (heap_setCell_same _ _ _ _ _ _ Hb.out)) (f' := f) ?_ rfl, hg⟩
  have := Hi.out.push hq key
  rw [hn, hk] at this
  exact this
theorem pop_no (h : DevAt w B d x v) (hq : x.Q = []) :
    Calls Tryz.prog 148 #[.pointer (some ⟨d, 0, none⟩)] w fun e w' => e = .returned (.int .u32 0) ∧ w = w' := by
  obtain ⟨cur, f, hb, hi⟩ := h.hd
  have hc : w.cell? ⟨d, 65, none⟩ = some (.int .i64 0) := by rw [cell_of_row w d _ _ _ _ hb, hi.count, hq]; rfl
  clear hb hi h
  go_enter Tryz.func148, Tryz.ntmps148
  go_wp2
  go_ret
  exact ⟨rfl, rfl⟩
set_option maxHeartbeats 1000000 in
theorem pop_yes (h : DevAt w B d x v) {key : Int} {r : List Int} (hq : x.Q = key :: r) :
    Calls Tryz.prog 148 #[.pointer (some ⟨d, 0, none⟩)] w fun e w' => e = .returned (.int .u32 key) ∧ DevAt w' B d { x with Q := r } v ∧ Lv w w' [d] := by
  obtain ⟨cur, f, hb, hi⟩ := h.hd
  have Hb := hid hb
  have Hi := hid hi
  have H := hid h
  obtain ⟨n, hn⟩ : ∃ n, r.length = n := ⟨_, rfl⟩
  have hc : w.cell? ⟨d, 65, none⟩ = some (.int .i64 ((n + 1 : Nat) : Int)) := by rw [cell_of_row w d _ _ _ _ hb, hi.count, hq]; simp [hn]
  have hf : w.cell? ⟨d, 64, none⟩ = some (.int .i64 f) := by rw [cell_of_row w d _ _ _ _ hb, hi.first]
  have hf64 := hi.f64
  have hk : w.cell? ⟨d, f, none⟩ = some (.int .u32 key) := by
    rw [cell_of_row w d _ _ _ _ hb]
    have := hi.ring 0 key (by rw [hq]; rfl)
    rwa [Nat.add_zero, Nat.mod_eq_of_lt hf64] at this
  have hfz : ∀ j, w.frozen? ⟨d, j, none⟩ = false := fun j => frozen_of_row w d j _ _ hb
  have hl : n < 64 := by have := hi.q64; rw [hq] at this; simp [hn] at this; omega
  obtain ⟨M, hM⟩ : ∃ M, n + 1 = M := ⟨_, rfl⟩
  rw [hM] at hc
  have hne : ((M : Int) == 0) = false := by simp; omega
  have hf0 : (0 : Int) ≤ (f : Int) := by omega
  have hf1 : (f : Int) < 64 := by omega
  obtain ⟨k, hkk⟩ : ∃ k, (f + 1) % 64 = k := ⟨_, rfl⟩
  have hN0 : (0 : Int) ≤ (f : Int) + 1 := by omega
  have hK : ((f : Int) + 1) % 64 = (k : Int) := by omega
  have hM1 : (M : Int) - 1 = (n : Int) := by omega
  have hM2 : (M : Int) ≤ 64 := by omega
  clear hb hi h
  go_enter Tryz.func148, Tryz.ntmps148
  go_wp2
  go_quiet (fail)
  go_wp2
  go_ret
  have hg : Lv w (((w.drewN nq).setCell ⟨d, 64, none⟩ (.int .i64 k)).setCell ⟨d, 65, none⟩ (.int .i64 n)) [d] := (((Lv.refl w [d]).drewN nq).set (by simp) _ _).set (by simp) _ _
  refine ⟨rfl, H.out.re hg (cur' := (cur.setIfInBounds 64 (.int .i64 k)).setIfInBounds 65 (.int .i64 n)) (heap_setCell_same _ _ _ _ _ _ (heap_setCell_same _ _ _ _ _ _ Hb.out)) (f' := (f + 1) % 64) ?_ rfl, hg⟩
  have := Hi.out.pop hq
  rw [hn, hkk] at this
  rw [hkk]
  exact this
/-! ### the calls of devices on keys -/
theorem press_no (h : DevAt w B d x v) (hq : x.Q.length = 64) (key : Int) :
    Calls Tryz.prog 52 #[.pointer (some ⟨d, 0, none⟩), .int .u32 key] w fun e w' => e = .returned (.bool false) ∧ w = w' := by
  go_enter Tryz.func52, Tryz.ntmps52
  go_wp2_with (go_at_call 79; refine (push_no h hq _).mono ?_; rintro e w' ⟨rfl, rfl⟩)
  go_ret
  exact ⟨rfl, rfl⟩
theorem press_yes (h : DevAt w B d x v) (hq : x.Q.length < 64) (key : Int) :
    Calls Tryz.prog 52 #[.pointer (some ⟨d, 0, none⟩), .int .u32 key] w fun e w' => e = .returned (.bool true) ∧ Turned w B d v { x with Q := x.Q ++ [key] } w' v := by
  go_enter Tryz.func52, Tryz.ntmps52
  go_wp2_with fail
  refine (push_yes h hq key).mono ?_; rintro e w1 ⟨rfl, hd, hg⟩
  have HT := hid (Turned.of h hd hg)
  clear hd hg
  go_wp2
  go_ret
  exact ⟨rfl, HT.out⟩
theorem in_no (h : DevAt w B d x v) (hq : x.Q = []) :
    Calls Tryz.prog 131 #[.pointer (some ⟨d, 0, none⟩)] w fun e w' => e = .returned (.int .u32 0) ∧ w = w' := by
  go_enter Tryz.func131, Tryz.ntmps131
  go_wp2_with (go_at_call 148; refine (pop_no h hq).mono ?_; rintro e w' ⟨rfl, rfl⟩)
  go_ret
  exact ⟨rfl, rfl⟩
theorem in_yes (h : DevAt w B d x v) {key : Int} {r : List Int} (hq : x.Q = key :: r) :
    Calls Tryz.prog 131 #[.pointer (some ⟨d, 0, none⟩)] w fun e w' => e = .returned (.int .u32 key) ∧ Turned w B d v { x with Q := r } w' v := by
  go_enter Tryz.func131, Tryz.ntmps131
  go_wp2_with fail
  refine (pop_yes h hq).mono ?_; rintro e w1 ⟨rfl, hd, hg⟩
  have HT := hid (Turned.of h hd hg)
  clear hd hg
  go_wp2
  go_ret
  exact ⟨rfl, HT.out⟩
theorem keys_any (h : DevAt w B d x v) (n : Nat) (hn : x.Q.length = n) :
    Calls Tryz.prog 100 #[.pointer (some ⟨d, 0, none⟩)] w fun e w' => e = .returned (.int .i64 n) ∧ w = w' := by
  obtain ⟨cur, f, hb, hi⟩ := h.hd
  have hc : w.cell? ⟨d, 65, none⟩ = some (.int .i64 n) := by rw [cell_of_row w d _ _ _ _ hb, hi.count, hn]
  clear hb hi h
  go_enter Tryz.func100, Tryz.ntmps100
  go_wp2
  go_ret
  exact ⟨rfl, rfl⟩
end
end Go.Proofs.YtkkbhifplbleiaaGreatDoor
/- Sectors and the timer (package dev): contracts. -/
namespace Go.Proofs.YtkkbhifplbleiaaGreatDoor
open Go.RowKit
section
variable {w : World} {B d : Nat} {x : DvS} {v : Value}
theorem get_any (h : DevAt w B d x v) (s : Int) (h0 : 0 ≤ s) (_h1 : s ≤ 4294967295) (k : Nat) (hk : s % 16 = (k : Int)) (y : Int) (hy : x.S[k]? = some y) :
    Calls Tryz.prog 133 #[.pointer (some ⟨d, 0, none⟩), .int .u32 s] w fun e w' => e = .returned (.int .u32 y) ∧ w = w' := by
  obtain ⟨cur, f, hb, hi⟩ := h.hd
  have hc : w.cell? ⟨d, 66 + k, none⟩ = some (.int .u32 y) := by rw [cell_of_row w d _ _ _ _ hb, hi.sec k y hy]
  have hk0 : (0 : Int) ≤ (k : Int) := by omega
  have hk1 : (k : Int) < 16 := by omega
  clear hb hi h
  go_enter Tryz.func133, Tryz.ntmps133
  go_wp2
  go_ret
  exact ⟨rfl, rfl⟩
theorem set_any (h : DevAt w B d x v) (a b : Int) :
    Calls Tryz.prog 134 #[.pointer (some ⟨d, 0, none⟩), .int .i64 a, .int .u32 b] w fun e w' => e = .returned (.tuple #[]) ∧ Turned w B d v { x with fr := a, af := b } w' v := by
  obtain ⟨cur, f, hb, hi⟩ := h.hd
  have Hb := hid hb
  have Hi := hid hi
  have H := hid h
  have hfz : ∀ j, w.frozen? ⟨d, j, none⟩ = false := fun j => frozen_of_row w d j _ _ hb
  have hc : w.cell? ⟨d, 82, none⟩ = some (.int .i64 x.fr) := by rw [cell_of_row w d _ _ _ _ hb, hi.frm]
  have hc2 : w.cell? ⟨d, 83, none⟩ = some (.int .u32 x.af) := by rw [cell_of_row w d _ _ _ _ hb, hi.aft]
  clear hb hi h
  go_enter Tryz.func134, Tryz.ntmps134
  go_wp2
  go_end0
  have hg : Lv w ((w.setCell ⟨d, 82, none⟩ (.int .i64 a)).setCell ⟨d, 83, none⟩ (.int .u32 b)) [d] := ((Lv.refl w [d]).set (by simp) _ _).set (by simp) _ _
  exact ⟨rfl, Turned.of H.out (H.out.re hg (heap_setCell_same _ _ _ _ _ _ (heap_setCell_same _ _ _ _ _ _ Hb.out)) (Hi.out.timer a b) rfl) hg⟩
theorem rang_any (h : DevAt w B d x v) :
    Calls Tryz.prog 70 #[.pointer (some ⟨d, 0, none⟩)] w fun e w' => e = .returned (.tuple #[]) ∧ Turned w B d v { x with fr := 0, af := 0 } w' v := by
  obtain ⟨cur, f, hb, hi⟩ := h.hd
  have Hb := hid hb
  have Hi := hid hi
  have H := hid h
  have hfz : ∀ j, w.frozen? ⟨d, j, none⟩ = false := fun j => frozen_of_row w d j _ _ hb
  have hc : w.cell? ⟨d, 82, none⟩ = some (.int .i64 x.fr) := by rw [cell_of_row w d _ _ _ _ hb, hi.frm]
  have hc2 : w.cell? ⟨d, 83, none⟩ = some (.int .u32 x.af) := by rw [cell_of_row w d _ _ _ _ hb, hi.aft]
  clear hb hi h
  go_enter Tryz.func70, Tryz.ntmps70
  go_wp2
  go_end0
  have hg : Lv w ((w.setCell ⟨d, 82, none⟩ (.int .i64 0)).setCell ⟨d, 83, none⟩ (.int .u32 0)) [d] := ((Lv.refl w [d]).set (by simp) _ _).set (by simp) _ _
  exact ⟨rfl, Turned.of H.out (H.out.re hg (heap_setCell_same _ _ _ _ _ _ (heap_setCell_same _ _ _ _ _ _ Hb.out)) (Hi.out.timer 0 0) rfl) hg⟩
end
/-- whether a timer has come -/
def dueB (fr af now : Int) : Bool := decide (af ≠ 0 ∧ fr ≤ now ∧ af ≤ now - fr)
theorem due_core (fr af now : Int) (f0 : -9223372036854775808 ≤ fr) (f1 : fr ≤ 9223372036854775807) (a0 : 0 ≤ af) (a1 : af ≤ 4294967295) (n0 : -9223372036854775808 ≤ now) (n1 : now ≤ 9223372036854775807) (w : World) :
    Calls Tryz.prog 119 #[.agg #[.int .i64 fr, .int .u32 af], .int .i64 now] w fun e w' => e = .returned (.bool (dueB fr af now)) ∧ w.grownBy w' none := by
  have HG := hid (World.grownBy_alloc w (.cells #[.int .i64 fr, .int .u32 af] 86) none)
  by_cases h0 : af = 0
  · subst h0
    go_enter Tryz.func119, Tryz.ntmps119
    go_wp2
    go_ret
    exact ⟨ret_b (by simp [dueB]), HG.out⟩
  · have hz : (af == 0) = false := by simpa using h0
    by_cases h1 : now < fr
    · go_enter Tryz.func119, Tryz.ntmps119
      go_wp2
      go_ret
      exact ⟨ret_b (by simp [dueB]; omega), HG.out⟩
    · have h2 : fr ≤ now := by omega
      go_enter Tryz.func119, Tryz.ntmps119
      go_wp2
      go_ret
      refine ⟨ret_b ?_, HG.out⟩
      have e : IntKind.u64.wrap (IntKind.u64.wrap now - IntKind.u64.wrap fr) = now - fr := by
        show (now % 18446744073709551616 - fr % 18446744073709551616) % 18446744073709551616 = now - fr
        omega
      rw [e]
      simp [dueB, h0, h2]
theorem due_any {w : World} {B d : Nat} {x : DvS} {v : Value} (h : DevAt w B d x v) (now : Int) (f0 : -9223372036854775808 ≤ x.fr) (f1 : x.fr ≤ 9223372036854775807) (a0 : 0 ≤ x.af) (a1 : x.af ≤ 4294967295) (n0 : -9223372036854775808 ≤ now) (n1 : now ≤ 9223372036854775807) (r : Bool) (hr : dueB x.fr x.af now = r) :
    Calls Tryz.prog 99 #[.pointer (some ⟨d, 0, none⟩), .int .i64 now] w fun e w' => e = .returned (.bool r) ∧ w.grownBy w' none := by
  obtain ⟨cur, f, hb, hi⟩ := h.hd
  have hc : w.cell? ⟨d, 82, none⟩ = some (.int .i64 x.fr) := by rw [cell_of_row w d _ _ _ _ hb, hi.frm]
  have hc2 : w.cell? ⟨d, 83, none⟩ = some (.int .u32 x.af) := by rw [cell_of_row w d _ _ _ _ hb, hi.aft]
  clear hb hi h
  subst hr
  go_enter Tryz.func99, Tryz.ntmps99
  go_wp2_with fail
  refine (due_core _ _ _ f0 f1 a0 a1 n0 n1 _).mono ?_; rintro e w1 ⟨rfl, hg⟩
  have HG := hid hg
  clear hg
  go_wp2
  go_ret
  exact ⟨rfl, HG.out⟩
end Go.Proofs.YtkkbhifplbleiaaGreatDoor
/- What is shown (package dev): contracts. -/
namespace Go.Proofs.YtkkbhifplbleiaaGreatDoor
open Go.RowKit
section
variable {w : World} {B d : Nat} {x : DvS} {v : Value}
theorem seen_info : ∃ i, Tryz.prog.info? 43 = some i ∧ i.zero = some (.agg #[.int .i64 0, .int .u32 0, .int .u32 0]) ∧ i.size = 3 ∧ i.bytes = 16 := by
  obtain ⟨i, hi, hz0, hz1, hz2⟩ := info_parts (P := Tryz.prog) (e := 43) (z := .agg #[.int .i64 0, .int .u32 0, .int .u32 0]) (size := 3) (bytes := 16) (by kernel_rfl)
  exact ⟨i, hi, hz0, hz1, hz2⟩
theorem DevAt.across (h : DevAt w B d x v) {W w' : World} (hL : Lv w W []) (hg : W.grownBy w' v.ownBlock) : w'.heap[d]? = w.heap[d]? :=
  (hg.block d (Nat.lt_of_lt_of_le h.lt hL.size) (fun e => h.own_ne e.symm)).trans (hL.block d h.lt (by simp))
/-- devices whose list of what is seen was appended to, and laid into its field -/
theorem DevAt.showed (h : DevAt w B d x v) {W w' w2 : World} (hL : Lv w W []) (hg : W.grownBy w' v.ownBlock) {g cap : Nat} (s : Sn) (_hB : B ≤ w.heap.size)
    (hown : w'.ownsRow B 43 3 (.slice (some ⟨g, 0, none⟩) (x.sn.length + 1) cap) (x.sn.length + 1) (snCells x.sn ++ [.int .i64 s.1, .int .u32 s.2.1, .int .u32 s.2.2]))
    (hat : v.ownBlock = some g ∨ g = W.heap.size) (h2 : w2 = w'.setCell ⟨d, 84, none⟩ (.slice (some ⟨g, 0, none⟩) (x.sn.length + 1) cap)) : Turned w B d v { x with sn := x.sn ++ [s] } w2 (.slice (some ⟨g, 0, none⟩) (x.sn.length + 1) cap) := by
  obtain ⟨cur, f, hb, hi⟩ := h.hd
  have hb' := (h.across hL hg).trans hb
  have hgd : g ≠ d := by
    rcases hat with e | e
    · intro e2; subst e2; exact h.own_ne e
    · have := h.lt; have := hL.size; omega
  have hL2 : Lv w w' (foot d v) := (hL.mono (by simp)).trans ((Lv.of_row hg).mono (fun i hi => mem_foot.2 (.inr (by rwa [Option.mem_toList] at hi))))
  have hL3 : Lv w w2 (foot d v) := by rw [h2]; exact hL2.set (mem_foot.2 (.inl rfl)) _ _
  refine ⟨⟨⟨_, f, by rw [h2]; exact heap_setCell_same _ _ _ _ _ _ hb', hi.show rfl _⟩, ?_, h.ge⟩, hL3, ?_⟩
  · have := own_keptL hown (R := [d]) (w1 := w2) (by rw [h2]; exact (Lv.refl _ _).set (by simp) _ _) (by intro k hk; simp [Value.ownBlock] at hk; subst hk; simpa using hgd)
    simpa [snCells_append, snCells] using this
  · rcases hat with e | e
    · left; rw [e]; rfl
    · right
      intro k hk
      obtain rfl : g = k := by simpa [Value.ownBlock] using hk
      rw [e]; exact hL.size
set_option maxHeartbeats 1000000 in
theorem show_any (h : DevAt w B d x v) (k a n : Int) (hl : x.sn.length ≤ 1000000) (hB : B ≤ w.heap.size) :
    Calls Tryz.prog 139 #[.pointer (some ⟨d, 0, none⟩), .agg #[.int .i64 k, .int .u32 a, .int .u32 n]] w fun e w' => e = .returned (.tuple #[]) ∧ ∃ v', Turned w B d v { x with sn := x.sn ++ [(k, a, n)] } w' v' := by
  obtain ⟨i, hi, hz0, hz1, hz2⟩ := seen_info
  obtain ⟨cur, f, hb, his⟩ := h.hd
  have Hb := hid hb
  have His := hid his
  have H := hid h
  have Hi := hid hi
  have Hz0 := hid hz0
  have Hz1 := hid hz1
  have Hz2 := hid hz2
  have hc : ∀ o, (w.alloc o).cell? ⟨d, 84, none⟩ = some v := fun o => by rw [World.cell?_alloc_lt _ _ _ h.lt, cell_of_row w d _ _ _ _ hb, his.seen]
  have hc2 : ∀ o o', ((w.alloc o).alloc o').cell? ⟨d, 84, none⟩ = some v := fun o o' => by rw [World.cell?_alloc_lt _ _ _ (Nat.lt_of_lt_of_le h.lt (World.grownBy_alloc w o none).size)]; exact hc o
  have HBl := hid hB
  have Hl := hid hl
  clear hb his h hi hz0 hz1 hz2 hB hl
  go_enter Tryz.func139, Tryz.ntmps139
  go_wp2
  go_region_law (refine step_append_lies _ rfl (.tmp 8) (.tmp 10) 40 rfl B 43 i _ 3 16 Tryz.underlying40 Hi.out Hz0.out Hz1.out Hz2.out rfl (by decide) v x.sn.length (snCells x.sn) (by simp [Act.eval]) (own_keptL H.out.own (R := []) (by repeat (first | exact Lv.refl _ _ | apply Lv.drew | apply Lv.alloc)) (by simp)) ⟨w.heap.size + 1, 0, none⟩ 1 1 [.int .i64 k, .int .u32 a, .int .u32 n] (by simp [Act.eval]) rfl (World.news_of_block (cs := #[.int .i64 k, .int .u32 a, .int .u32 n]) (heap_alloc2_new w _ _)) (by simp [Value.oneCell']) (by decide) (by have := Hl.out; unfold maxLen; omega) (by have := Hl.out; omega) (by have := HBl.out; simp; omega) _ rfl ?_; intro g cap w' hown hgrow hat hlt; have hd' := H.out.across (by repeat (first | exact Lv.refl _ _ | apply Lv.drew | apply Lv.alloc)) hgrow; have hc3 : w'.cell? ⟨d, 84, none⟩ = some v := (by rw [cell_of_row w' d _ _ _ _ (hd'.trans Hb.out), His.out.seen]); have hf3 : w'.frozen? ⟨d, 84, none⟩ = false := frozen_of_row w' d _ _ _ (hd'.trans Hb.out); have HT := hid (H.out.showed (by repeat (first | exact Lv.refl _ _ | apply Lv.drew | apply Lv.alloc)) hgrow (k, a, n) HBl.out hown hat rfl); clear hown hgrow hat hlt hd')
  all_goals (go_wp2; go_end0; exact ⟨rfl, _, HT.out⟩)
end
end Go.Proofs.YtkkbhifplbleiaaGreatDoor
/- What is shown, put, ended; a copy of what is seen (package dev): contracts. -/
namespace Go.Proofs.YtkkbhifplbleiaaGreatDoor
open Go.RowKit
section
variable {w w1 w2 : World} {B d : Nat} {x x1 x2 : DvS} {v v1 v2 : Value}
theorem Turned.trans (h : Turned w B d v x1 w1 v1) (k : Turned w1 B d v1 x2 w2 v2) : Turned w B d v x2 w2 v2 := by
  refine ⟨k.at_, ?_, ?_⟩
  · refine ⟨k.lv.os.trans h.lv.os, k.lv.tape.trans h.lv.tape, k.lv.output.trans h.lv.output, Nat.le_trans h.lv.size k.lv.size, fun i hi hr => (k.lv.block i (Nat.lt_of_lt_of_le hi h.lv.size) ?_).trans (h.lv.block i hi hr)⟩
    intro e
    rcases mem_foot.1 e with rfl | e
    · exact hr (mem_foot.2 (.inl rfl))
    · rcases h.mine with m | m
      · exact hr (mem_foot.2 (.inr (m.symm.trans e)))
      · have := m i e; omega
  · rcases k.mine with m | m
    · rcases h.mine with m' | m'
      · exact .inl (m.trans m')
      · exact .inr (fun g hg => m' g (m.symm.trans hg))
    · exact .inr (fun g hg => Nat.le_trans h.lv.size (m g hg))
/-- nothing is turned -/
theorem Turned.none (h : DevAt w B d x v) (hg : w.grownBy w1 none) : Turned w B d v x w1 v := ⟨h.kept0 hg, Lv.of_none hg _, .inl rfl⟩
theorem Turned.base (h : Turned w B d v x1 w1 v1) (hB : B ≤ w.heap.size) : B ≤ w1.heap.size := Nat.le_trans hB h.lv.size
/-- behind a call that shows -/
def Shown (w : World) (B d : Nat) (v : Value) (x' : DvS) (e : Ending) (w' : World) : Prop := e = .returned (.tuple #[]) ∧ ∃ v', Turned w B d v x' w' v'
theorem out_any (h : DevAt w B d x v) (n : Int) (hl : x.sn.length ≤ 1000000) (hB : B ≤ w.heap.size) :
    Calls Tryz.prog 130 #[.pointer (some ⟨d, 0, none⟩), .int .u32 n] w (Shown w B d v { x with sn := x.sn ++ [(1, 0, n)] }) := by
  go_enter Tryz.func130, Tryz.ntmps130
  go_wp2_with fail
  refine (show_any h 1 0 n hl hB).mono ?_; rintro e w1 ⟨rfl, v1, ht⟩
  have HT := hid ht
  clear ht
  go_wp2
  go_end0
  exact ⟨rfl, _, HT.out⟩
theorem put_any (h : DevAt w B d x v) (s n : Int) (h0 : 0 ≤ s) (k : Nat) (hk : s % 16 = (k : Int)) (hl : x.sn.length ≤ 1000000) (hB : B ≤ w.heap.size) :
    Calls Tryz.prog 132 #[.pointer (some ⟨d, 0, none⟩), .int .u32 s, .int .u32 n] w (Shown w B d v { x with S := x.S.set k n, sn := x.sn ++ [(2, (k : Int), n)] }) := by
  obtain ⟨cur, f, hb, hi⟩ := h.hd
  have hk0 : (0 : Int) ≤ (k : Int) := by omega
  have hk1 : (k : Int) < 16 := by omega
  have hs := hi.size
  obtain ⟨u, hu⟩ : ∃ u, w.cell? ⟨d, 66 + k, none⟩ = some u := by rw [cell_of_row w d _ _ _ _ hb]; exact ⟨_, Array.getElem?_eq_getElem (by omega)⟩
  have hfz : ∀ j, w.frozen? ⟨d, j, none⟩ = false := fun j => frozen_of_row w d j _ _ hb
  have hg : Lv w (w.setCell ⟨d, 66 + k, none⟩ (.int .u32 n)) [d] := (Lv.refl w [d]).set (by simp) _ _
  have HT := hid (Turned.of h (h.re hg (heap_setCell_same _ _ _ _ _ _ hb) (hi.put (by omega) n) rfl) hg)
  have HB := hid hB
  clear hb hi h hs hg hB
  go_enter Tryz.func132, Tryz.ntmps132
  go_wp2_with fail
  refine (show_any HT.out.at_ 2 k n hl (HT.out.base HB.out)).mono ?_; rintro e w1 ⟨rfl, v1, ht⟩
  have HT2 := hid (HT.out.trans ht)
  clear ht
  go_wp2
  go_end0
  exact ⟨rfl, _, HT2.out⟩
/-- what an end shows -/
def endS (k n : Int) : List Sn := if k = 3 then [(3, 0, n)] else if k = 4 then [(4, n, 0)] else []
theorem end_any (h : DevAt w B d x v) (k n : Int) (hl : x.sn.length ≤ 1000000) (hB : B ≤ w.heap.size) :
    Calls Tryz.prog 120 #[.pointer (some ⟨d, 0, none⟩), .int .i64 k, .int .u32 n] w (Shown w B d v { x with sn := x.sn ++ endS k n }) := by
  by_cases h3 : k = 3
  · subst h3
    go_enter Tryz.func120, Tryz.ntmps120
    go_wp2_with fail
    refine (show_any h 3 0 n hl hB).mono ?_; rintro e w1 ⟨rfl, v1, ht⟩
    have HT := hid ht
    clear ht
    go_wp2
    go_end0
    exact ⟨rfl, _, HT.out⟩
  · have hz3 : (k == 3) = false := by simpa using h3
    by_cases h4 : k = 4
    · subst h4
      go_enter Tryz.func120, Tryz.ntmps120
      go_wp2_with fail
      refine (show_any h 4 n 0 hl hB).mono ?_; rintro e w1 ⟨rfl, v1, ht⟩
      have HT := hid ht
      clear ht
      go_wp2
      go_end0
      exact ⟨rfl, _, HT.out⟩
    · have hz4 : (k == 4) = false := by simpa using h4
      have he : endS k n = [] := by simp [endS, h3, h4]
      have HT := hid (Turned.none h (grown_refl w none))
      go_enter Tryz.func120, Tryz.ntmps120
      go_wp2
      go_end0
      refine ⟨rfl, v, ?_⟩
      rw [he, List.append_nil]
      exact HT.out
end
/-! ### a copy of what is seen -/
def CopiedAt (w : World) (l : List Sn) (e : Ending) (w' : World) : Prop :=
  ∃ v, e = .returned v ∧ w'.ownsRow w.heap.size 43 3 v l.length (snCells l) ∧ w.grownBy w' none
set_option maxHeartbeats 1000000 in
theorem clone_seens {w : World} {B : Nat} {v : Value} {l : List Sn} (h : w.ownsRow B 43 3 v l.length (snCells l)) (hl : l.length ≤ 1000000) :
    Calls Tryz.prog 74 #[v] w (CopiedAt w l) := by
  have hnil := @Lib.run_eql_slice_nil Tryz.prog
  have H := hid h
  rcases h.2 with ⟨rfl, h0⟩ | ⟨b, c, cur, rfl, hB, hb, hcl, hcm, hsz, ht⟩
  · obtain rfl := List.eq_nil_of_length_eq_zero h0
    clear h
    go_enter Tryz.func74, Tryz.ntmps74
    go_wp2
    go_ret
    exact ⟨_, rfl, World.ownsRow_nil _ _ _ _, grown_refl _ _⟩
  · obtain ⟨i, hi, hz0, hz1, hz2⟩ := seen_info
    have Hi := hid hi
    have Hz0 := hid hz0
    have Hz1 := hid hz1
    have Hz2 := hid hz2
    have hblt : b < w.heap.size := (Array.getElem?_eq_some_iff.1 hb).1
    have Hnew : Hid (∀ j u, (snCells l)[j]? = some u → (w.alloc (.cells #[] 43)).cell? ((⟨b, 0, none⟩ : Addr).add j) = some u) := hid (by
      intro j u hu
      rw [Addr.add_mid, World.cell?_alloc_lt _ _ _ hblt, ← Addr.add_mid]
      exact H.out.cells rfl j u hu)
    have Hl : Hid ((snCells l).length = l.length * 3) := hid (snCells_length l)
    have H1 : Hid (∀ v ∈ snCells l, v.oneCell' = true) := hid (snCells_one l)
    have Hown : Hid ((w.alloc (.cells #[] 43)).ownsRow w.heap.size 43 3 (.slice (some ⟨w.heap.size, 0, none⟩) 0 0) 0 []) :=
      hid (World.ownsRow_lit w #[] 0 (Nat.le_refl _) (by unfold maxLen; omega) rfl)
    have Hb : Hid ((0 + l.length) * 16 ≤ 140737488355328) := hid (by omega)
    have Hx : Hid (0 + l.length ≤ maxLen) := hid (by unfold maxLen; omega)
    clear hi hz0 hz1 hz2 h hb ht hsz hcm hcl
    go_enter Tryz.func74, Tryz.ntmps74
    go_wp2_with (refine wpList_append_own _ rfl _ _ 40 rfl w.heap.size 43 i _ 3 16 Tryz.underlying40 Hi.out Hz0.out Hz1.out Hz2.out rfl (by decide) (.slice (some ⟨w.heap.size, 0, none⟩) 0 0) 0 [] rfl Hown.out ⟨b, 0, none⟩ l.length _ (snCells l) rfl Hl.out Hnew.out H1.out Hx.out Hb.out (by simp) ?_; intro v' w2 hown2 hgrow2 _; have HO := hid hown2; have HG := hid hgrow2; clear hown2 hgrow2)
    go_ret
    refine ⟨v', rfl, ?_, ?_⟩
    · have := HO.out; rwa [Nat.zero_add, List.nil_append] at this
    · exact grown_new' (grown_trans (World.grownBy_alloc _ _ _) HG.out) (fun k hk => by simp [Value.ownBlock] at hk; omega)
section
variable {w : World} {B d : Nat} {x : DvS} {v : Value}
theorem seen_any (h : DevAt w B d x v) (hl : x.sn.length ≤ 1000000) :
    Calls Tryz.prog 43 #[.pointer (some ⟨d, 0, none⟩)] w (CopiedAt w x.sn) := by
  obtain ⟨cur, f, hb, hi⟩ := h.hd
  have hc : w.cell? ⟨d, 84, none⟩ = some v := by rw [cell_of_row w d _ _ _ _ hb, hi.seen]
  have Ho := hid h.own
  clear hb hi h
  go_enter Tryz.func43, Tryz.ntmps43
  go_wp2_with fail
  refine (clone_seens Ho.out hl).mono ?_; rintro e w1 ⟨u, rfl, hown, hg⟩
  have HO := hid hown
  have HG := hid hg
  clear hown hg
  go_wp2
  go_ret
  exact ⟨_, rfl, HO.out, HG.out⟩
end
end Go.Proofs.YtkkbhifplbleiaaGreatDoor
/- New devices, a copy of devices (package dev); lists of what is seen compared: contracts. -/
namespace Go.Proofs.YtkkbhifplbleiaaGreatDoor
open Go.RowKit
/-! ### new devices -/
def zeroD : Array Value := #[.int .u32 0, .int .u32 0, .int .u32 0, .int .u32 0, .int .u32 0, .int .u32 0, .int .u32 0, .int .u32 0, .int .u32 0, .int .u32 0, .int .u32 0, .int .u32 0, .int .u32 0, .int .u32 0, .int .u32 0, .int .u32 0, .int .u32 0, .int .u32 0, .int .u32 0, .int .u32 0, .int .u32 0, .int .u32 0, .int .u32 0, .int .u32 0, .int .u32 0, .int .u32 0, .int .u32 0, .int .u32 0, .int .u32 0, .int .u32 0, .int .u32 0, .int .u32 0, .int .u32 0, .int .u32 0, .int .u32 0, .int .u32 0, .int .u32 0, .int .u32 0, .int .u32 0, .int .u32 0, .int .u32 0, .int .u32 0, .int .u32 0, .int .u32 0, .int .u32 0, .int .u32 0, .int .u32 0, .int .u32 0, .int .u32 0, .int .u32 0, .int .u32 0, .int .u32 0, .int .u32 0, .int .u32 0, .int .u32 0, .int .u32 0, .int .u32 0, .int .u32 0, .int .u32 0, .int .u32 0, .int .u32 0, .int .u32 0, .int .u32 0, .int .u32 0, .int .i64 0, .int .i64 0, .int .u32 0, .int .u32 0, .int .u32 0, .int .u32 0, .int .u32 0, .int .u32 0, .int .u32 0, .int .u32 0, .int .u32 0, .int .u32 0, .int .u32 0, .int .u32 0, .int .u32 0, .int .u32 0, .int .u32 0, .int .u32 0, .int .i64 0, .int .u32 0, .slice none 0 0]
def zeroS : DvS := ⟨[], [0, 0, 0, 0, 0, 0, 0, 0, 0, 0, 0, 0, 0, 0, 0, 0], 0, 0, []⟩
theorem zeroS_get (k : Nat) (hk : k < 16) : zeroS.S[k]? = some 0 := by
  rcases (by omega : k = 0 ∨ k = 1 ∨ k = 2 ∨ k = 3 ∨ k = 4 ∨ k = 5 ∨ k = 6 ∨ k = 7 ∨ k = 8 ∨ k = 9 ∨ k = 10 ∨ k = 11 ∨ k = 12 ∨ k = 13 ∨ k = 14 ∨ k = 15) with rfl | rfl | rfl | rfl | rfl | rfl | rfl | rfl | rfl | rfl | rfl | rfl | rfl | rfl | rfl | rfl <;> rfl
theorem zero_is : DevIs zeroD 0 zeroS (.slice none 0 0) where
  size := rfl
  one := by
    have : zeroD.all (·.oneCell') = true := by kernel_rfl
    intro k u hu
    exact (Array.all_eq_true_iff_forall_mem.1 this) u (Array.mem_of_getElem? hu)
  f64 := by decide
  first := rfl
  ring := by intro j y hy; simp [zeroS] at hy
  count := rfl
  q64 := by decide
  sec := by
    intro k y hy
    have hk : k < 16 := (List.getElem?_eq_some_iff.1 hy).1
    rw [zeroS_get k hk] at hy
    obtain rfl := Option.some.inj hy
    rcases (by omega : k = 0 ∨ k = 1 ∨ k = 2 ∨ k = 3 ∨ k = 4 ∨ k = 5 ∨ k = 6 ∨ k = 7 ∨ k = 8 ∨ k = 9 ∨ k = 10 ∨ k = 11 ∨ k = 12 ∨ k = 13 ∨ k = 14 ∨ k = 15) with rfl | rfl | rfl | rfl | rfl | rfl | rfl | rfl | rfl | rfl | rfl | rfl | rfl | rfl | rfl | rfl <;> rfl
  s16 := rfl
  frm := rfl
  aft := rfl
  seen := rfl
theorem dev_zero (w : World) {B : Nat} (hB : B ≤ w.heap.size) : DevAt (w.alloc (.cells zeroD 88)) B w.heap.size zeroS (.slice none 0 0) :=
  ⟨⟨zeroD, 0, heap_alloc_new _ _, zero_is⟩, World.ownsRow_nil _ _ _ _, hB⟩
theorem zero_dev (w : World) : (zeroValue 88).run Tryz.prog w = .ok (.agg zeroD) w := by kernel_rfl
/-! ### a copy -/
theorem dev_info : (Tryz.prog.info? 88).map (·.size) = some 85 := by kernel_rfl
def DClonedAt (w : World) (x : DvS) (e : Ending) (w' : World) : Prop :=
  ∃ c u, e = .returned (.pointer (some ⟨c, 0, none⟩)) ∧ DevAt w' w.heap.size c x u ∧ w.grownBy w' none
set_option maxRecDepth 100000 in
set_option maxHeartbeats 1000000 in
theorem dclone_any {w : World} {B d : Nat} {x : DvS} {v : Value} (h : DevAt w B d x v) (hl : x.sn.length ≤ 1000000) :
    Calls Tryz.prog 44 #[.pointer (some ⟨d, 0, none⟩)] w (DClonedAt w x) := by
  obtain ⟨cur, f, hb, hi⟩ := h.hd
  have Hb := hid hb
  have His := hid hi
  have H := hid h
  have Hs1 : Hid ((Tryz.prog.info? 88).map (·.size) = some cur.size) := hid (by rw [dev_info, hi.size])
  have Hz : Hid (zeroD.size = cur.size) := hid (by rw [hi.size]; rfl)
  have Ho : Hid (cur.all (·.oneCell') = true) := hid (Array.all_eq_true_iff_forall_mem.2 (fun u hu => by
    obtain ⟨k, hk, rfl⟩ := Array.mem_iff_getElem.1 hu
    exact hi.one k _ (Array.getElem?_eq_getElem hk)))
  have hc : ∀ o, (w.alloc o).cell? ⟨d, 84, none⟩ = some v := fun o => by rw [World.cell?_alloc_lt _ _ _ h.lt, cell_of_row w d _ _ _ _ hb, hi.seen]
  have hn84 : (w.alloc (.cells cur 88)).heap[w.heap.size]? = some (.cells cur 88 (0, 0)) := heap_alloc_new _ _
  have Hn := hid hn84
  have Hz33 := zero_dev
  clear hb hi h hn84
  go_enter Tryz.func44, Tryz.ntmps44
  go_wp2_with (first
    | (refine wpList_load_row rfl 88 _ rfl d rfl _ cur _ _ Hb.out Tryz.underlying88 rfl Hs1.out ?_)
    | (refine wpList_store_row rfl 88 _ _ rfl w.heap.size cur rfl rfl _ _ (heap_alloc_last w _) Hs1.out Hz.out Ho.out ?_; rw [World.setRow_alloc_new])
    | (go_at_call 74; refine (clone_seens (H.out.kept0 (World.grownBy_alloc _ _ _)).own hl).mono ?_; rintro e w1 ⟨u, rfl, hown, hg⟩; obtain ⟨p, c, rfl⟩ := (SnAt.own hown).len; have hn1 := (hg.block _ (by simp) (by simp)).trans Hn.out; have hc1 : w1.cell? ⟨w.heap.size, 84, none⟩ = some v := (by rw [cell_of_row w1 _ _ _ _ _ hn1, His.out.seen]); have hf1 : w1.frozen? ⟨w.heap.size, 84, none⟩ = false := frozen_of_row w1 _ _ _ _ hn1; have HO := hid hown; have HG := hid hg; have HN := hid hn1; clear hown hg hn1)
    | fail)
  go_ret
  have hL : Lv w1 (w1.setCell ⟨w.heap.size, 84, none⟩ (.slice p x.sn.length c)) [w.heap.size] := (Lv.refl _ _).set (by simp) _ _
  have hsz : (w.alloc (.cells cur 88)).heap.size = w.heap.size + 1 := by simp
  refine ⟨w.heap.size, .slice p x.sn.length c, rfl, ⟨⟨_, f, heap_setCell_same _ _ _ _ _ _ HN.out, His.out.show rfl x.sn⟩, ?_, Nat.le_refl _⟩, ?_⟩
  · refine own_base (own_keptL HO.out hL ?_) (by omega)
    intro g hg
    have := (HO.out.lt g hg).1
    simp; omega
  · refine Lv.after (grown_trans (World.grownBy_alloc _ _ _) HG.out) hL (by simp)
end Go.Proofs.YtkkbhifplbleiaaGreatDoor
/- The document's own comparison of what is seen: contracts. -/
namespace Go.Proofs.YtkkbhifplbleiaaGreatDoor
open Go.RowKit
theorem seen1_any (a b : Sn) (r : Bool) (hr : decide (a = b) = r) (w : World) :
    Calls Tryz.prog 48 #[.agg #[.int .i64 a.1, .int .u32 a.2.1, .int .u32 a.2.2], .agg #[.int .i64 b.1, .int .u32 b.2.1, .int .u32 b.2.2]] w fun e w' => e = .returned (.bool r) ∧ w.grownBy w' none := by
  obtain ⟨k, x, y⟩ := a
  obtain ⟨k', x', y'⟩ := b
  have Hg := hid (grown_alloc (grown_alloc (grown_refl w none) (.cells #[.int .i64 k, .int .u32 x, .int .u32 y] 43)) (.cells #[.int .i64 k', .int .u32 x', .int .u32 y'] 43))
  have Hr := hid hr
  clear hr
  by_cases h1 : k = k'
  · subst h1
    by_cases h2 : x = x'
    · subst h2
      obtain ⟨q, hq⟩ : ∃ q, (y == y') = q := ⟨_, rfl⟩
      go_enter Tryz.func48, Tryz.ntmps48
      go_wp2
      go_ret
      exact ⟨ret_b (by rw [← Hr.out, ← hq]; simp [Bool.beq_eq_decide_eq]), Hg.out⟩
    · have hx : (x == x') = false := by simpa using h2
      go_enter Tryz.func48, Tryz.ntmps48
      go_wp2
      go_ret
      exact ⟨ret_b (by rw [← Hr.out]; simp [h2]), Hg.out⟩
  · have hx : (k == k') = false := by simpa using h1
    go_enter Tryz.func48, Tryz.ntmps48
    go_wp2
    go_ret
    exact ⟨ret_b (by rw [← Hr.out]; simp [h1]), Hg.out⟩
theorem ss_parted {w : World} {p q : Option Addr} {c d : Nat} {la lb : List Sn} (h : la.length ≠ lb.length) :
    Calls Tryz.prog 22 #[.slice p la.length c, .slice q lb.length d] w fun e w' => e = .returned (.bool false) ∧ w.grownBy w' none := by
  have hz : ((la.length : Int) == (lb.length : Int)) = false := by simp; omega
  have hz2 : (la.length == lb.length) = false := by simpa using h
  have Hr := hid (grown_refl w none)
  go_enter Tryz.func22, Tryz.ntmps22
  go_wp2
  go_ret
  exact ⟨rfl, Hr.out⟩
theorem ss_empty {w : World} {p q : Option Addr} {c d : Nat} :
    Calls Tryz.prog 22 #[.slice p 0 c, .slice q 0 d] w fun e w' => e = .returned (.bool true) ∧ w.grownBy w' none := by
  have Hr := hid (grown_refl w none)
  go_enter Tryz.func22, Tryz.ntmps22
  go_wp2
  go_loop [5] (fun i => i = .int .i64 0) (fun _ => 0)
  case atStart => rfl
  case round =>
    obtain rfl := hrel
    go_wp2
    go_ret
    exact ⟨rfl, Hr.out⟩
/-- the cells of one that is seen -/
theorem sn_cells {w wr : World} {b : Nat} {l : List Sn} {k : Nat} {s : Sn} (hb : b < w.heap.size) (hc : ∀ j u, (snCells l)[j]? = some u → w.cell? ⟨b, j, none⟩ = some u) (hg : w.grownBy wr none) (hs : l[k]? = some s) :
    wr.cell? ⟨b, k * 3, none⟩ = some (.int .i64 s.1) ∧ wr.cell? ⟨b, k * 3 + 1, none⟩ = some (.int .u32 s.2.1) ∧ wr.cell? ⟨b, k * 3 + 2, none⟩ = some (.int .u32 s.2.2) := by
  obtain ⟨h1, h2, h3⟩ := snCells_get l k s hs
  exact ⟨(grown_cell (p := ⟨b, k * 3, none⟩) hg hb (by simp)).trans (hc _ _ h1), (grown_cell (p := ⟨b, k * 3 + 1, none⟩) hg hb (by simp)).trans (hc _ _ h2), (grown_cell (p := ⟨b, k * 3 + 2, none⟩) hg hb (by simp)).trans (hc _ _ h3)⟩
set_option maxRecDepth 100000 in
set_option maxHeartbeats 1000000 in
theorem ss_some {w : World} {b b' c d N : Nat} {la lb : List Sn} (hla : la.length = N) (hlb : lb.length = N) (h1 : N ≤ 1000000)
    (hb : b < w.heap.size) (hb' : b' < w.heap.size)
    (ha : ∀ j u, (snCells la)[j]? = some u → w.cell? ⟨b, j, none⟩ = some u) (hc : ∀ j u, (snCells lb)[j]? = some u → w.cell? ⟨b', j, none⟩ = some u) (r : Bool) (hr : decide (la = lb) = r) :
    Calls Tryz.prog 22 #[.slice (some ⟨b, 0, none⟩) N c, .slice (some ⟨b', 0, none⟩) N d] w fun e w' => e = .returned (.bool r) ∧ w.grownBy w' none := by
  have Ha := hid ha
  have Hc := hid hc
  have Hla := hid hla
  have Hlb := hid hlb
  have Hr := hid hr
  clear ha hc hla hlb hr
  go_enter Tryz.func22, Tryz.ntmps22
  go_wp2
  go_loopw [5, 6] (fun i _ wr => ∃ k : Nat, k ≤ N ∧ i = .int .i64 k ∧ Hid (la.take k = lb.take k) ∧ Hid (w.grownBy wr none)) (fun i _ _ => N - (intOf i).toNat)
  case atStart => exact ⟨0, Nat.zero_le _, rfl, hid (by simp), hid (grown_refl _ _)⟩
  case round =>
    obtain ⟨k, hk, rfl, Hk, Hg⟩ := hrel
    by_cases hlt : k < N
    · obtain ⟨x, Hx⟩ : ∃ x, Hid (la[k]? = some x) := ⟨_, hid (List.getElem?_eq_getElem (by rw [Hla.out]; exact hlt))⟩
      obtain ⟨y, Hy⟩ : ∃ y, Hid (lb[k]? = some y) := ⟨_, hid (List.getElem?_eq_getElem (by rw [Hlb.out]; exact hlt))⟩
      obtain ⟨cx1, cx2, cx3⟩ := sn_cells hb Ha.out Hg.out Hx.out
      obtain ⟨cy1, cy2, cy3⟩ := sn_cells hb' Hc.out Hg.out Hy.out
      have hk0 : (0 : Int) ≤ (k : Int) := by omega
      have hk1 : (k : Int) < (N : Int) := by omega
      go_wp2
      go_still_tail 8, (by kernel_rfl)
      change wpList _ _ _ _ _ wr.drew
      have Hg2 : Hid (w.grownBy wr.drew none) := hid (grown_drew Hg.out)
      generalize wr.drew = wd at Hg2 ⊢
      clear cx1 cx2 cx3 cy1 cy2 cy3
      by_cases hxy : x = y
      · have Hxy := hid hxy
        clear hxy
        go_wp2_with fail
        refine (seen1_any x y true (by simpa using Hxy.out) _).mono ?_; rintro e w3 ⟨rfl, hg⟩
        have HG3 := hid (grown_trans Hg2.out hg)
        clear hg
        go_wp2
        go_roundw
        case rel =>
          refine ⟨k + 1, by omega, by go_num, hid ?_, HG3⟩
          rw [List.take_add_one, List.take_add_one, Hk.out, Hx.out, Hy.out, Hxy.out]
        case measure => simp [intOf]; omega
      · have Hxy := hid hxy
        clear hxy
        go_wp2_with fail
        refine (seen1_any x y false (by simpa using Hxy.out) _).mono ?_; rintro e w3 ⟨rfl, hg⟩
        have HG3 := hid (grown_trans Hg2.out hg)
        clear hg
        go_wp2
        go_ret
        refine ⟨ret_b ?_, HG3.out⟩
        rw [← Hr.out, eq_comm, decide_eq_false_iff_not]
        intro e
        have e1 := Hx.out
        have e2 := Hy.out
        rw [e, e2] at e1
        exact Hxy.out (Option.some.inj e1).symm
    · go_wp2
      go_ret
      refine ⟨ret_b ?_, Hg.out⟩
      have hn : k = N := by omega
      have e := Hk.out
      rw [hn, List.take_of_length_le (by rw [Hla.out]; omega), List.take_of_length_le (by rw [Hlb.out]; omega)] at e
      rw [← Hr.out, e]
      simp
/-- two lists of what is seen are told to be the same, just if they are -/
theorem ss_any {w : World} {va vb : Value} {la lb : List Sn} (ha : SnAt w va la) (hb : SnAt w vb lb) (h1 : la.length ≤ 1000000) (r : Bool) (hr : decide (la = lb) = r) :
    Calls Tryz.prog 22 #[va, vb] w fun e w' => e = .returned (.bool r) ∧ w.grownBy w' none := by
  by_cases hl : la.length = lb.length
  · by_cases h0 : la.length = 0
    · obtain rfl := List.eq_nil_of_length_eq_zero h0
      obtain rfl := List.eq_nil_of_length_eq_zero (hl.symm.trans h0)
      obtain ⟨p, c, rfl⟩ := ha.len
      obtain ⟨q, d, rfl⟩ := hb.len
      subst hr
      exact ss_empty
    · rcases ha with ⟨_, rfl⟩ | ⟨b, c, rfl, hbl, hc⟩
      · simp at h0
      · rcases hb with ⟨_, rfl⟩ | ⟨b', d, rfl, hbl', hc'⟩
        · simp at hl; simp [hl] at h0
        · rw [← hl]
          exact ss_some rfl hl.symm h1 hbl hbl' hc hc' r hr
  · obtain ⟨p, c, rfl⟩ := ha.len
    obtain ⟨q, d, rfl⟩ := hb.len
    have : r = false := by rw [← hr, decide_eq_false_iff_not]; intro e; exact hl (by rw [e])
    subst this
    exact ss_parted hl
end Go.Proofs.YtkkbhifplbleiaaGreatDoor
/- The chapter's examples (facadelaw5.first): a contract. -/
namespace Go.Proofs.YtkkbhifplbleiaaGreatDoor
open Go.RowKit
/-- a new list of what is seen shares nothing with what was there -/
theorem new_apart {w w1 : World} {B n : Nat} {e : TypeId} {size : Nat} {u : Value} {l : List Value} {R : List Nat} (h : w1.ownsRow B e size u n l) (hB : w.heap.size ≤ B) (hR : ∀ i ∈ R, i < w.heap.size) : ∀ g, u.ownBlock = some g → g ∉ R := by
  intro g hg hi
  have := (h.lt g hg).1
  have := hR g hi
  omega
theorem turned_old {w0 w w' : World} {d : Nat} {v v' : Value} {x x' : DvS} (h0 : w0.grownBy w none) (h : DevAt w w0.heap.size d x v) (ht : Turned w w0.heap.size d v x' w' v') : w0.grownBy w' none :=
  Lv.after h0 ht.lv h.foot_ge
/-- a list of what is seen, apart from devices -/
structure SnOf (w : World) (u : Value) (l : List Sn) (d : Nat) (v : Value) : Prop where
  at_ : SnAt w u l
  apart : l ≠ [] → ∀ g, u.ownBlock = some g → g ∉ foot d v
theorem SnOf.new {w w1 : World} {B d : Nat} {e : TypeId} {u v : Value} {x : DvS} {l : List Sn} (hD : DevAt w B d x v) (h : w1.ownsRow w.heap.size e 3 u l.length (snCells l)) : SnOf w1 u l d v :=
  ⟨SnAt.own h, fun _ => new_apart h (Nat.le_refl _) hD.foot_lt⟩
theorem SnOf.kept0 {w w1 : World} {d : Nat} {u v : Value} {l : List Sn} (h : SnOf w u l d v) (hg : w.grownBy w1 none) : SnOf w1 u l d v := ⟨h.at_.kept0 hg, h.apart⟩
theorem SnOf.turned {w w1 : World} {B d : Nat} {u v v1 : Value} {x1 : DvS} {l : List Sn} (h : SnOf w u l d v) (ht : Turned w B d v x1 w1 v1) : SnOf w1 u l d v1 := by
  rcases h.at_ with h1 | ⟨b, c, rfl, hb, hc⟩
  · refine ⟨.inl h1, fun hn => absurd h1.2 hn⟩
  · by_cases hl : l = []
    · subst hl
      exact ⟨.inl ⟨⟨_, _, rfl⟩, rfl⟩, fun hn => absurd rfl hn⟩
    · have ha := h.apart hl
      refine ⟨h.at_.keptL ht.lv ha, fun _ g hg hi => ?_⟩
      have hgb : g = b := by simp [Value.ownBlock] at hg; exact hg.symm
      subst hgb
      rcases mem_foot.1 hi with rfl | hi
      · exact ha _ rfl (mem_foot.2 (.inl rfl))
      · rcases ht.mine with m | m
        · exact ha _ rfl (mem_foot.2 (.inr (m.symm.trans hi)))
        · have := m g hi; omega
end Go.Proofs.YtkkbhifplbleiaaGreatDoor
/- The document's own devices (facaderef1.Dev): what is known of them. -/
namespace Go.Proofs.YtkkbhifplbleiaaGreatDoor
open Go.RowKit
theorem one_at (W : World) (v : Value) (t : TypeId) : ∀ j u, [v][j]? = some u → (W.alloc (.cells #[v] t)).cell? ((⟨W.heap.size, 0, none⟩ : Addr).add j) = some u :=
  World.news_of_block (cs := #[v]) (heap_alloc_new W _)
theorem own_ne_blk {w : World} {B : Nat} {e : TypeId} {size : Nat} {v : Value} {n : Nat} {l : List Value} (h : w.ownsRow B e size v n l) {b : Nat} {cur : Array Value} {t : TypeId} {fr : Nat × Nat} (hb : w.heap[b]? = some (.cells cur t fr)) (hne : t ≠ e) : v.ownBlock ≠ some b := by
  rcases h.2 with ⟨rfl, _⟩ | ⟨g, cap, cu, rfl, _, hg, _⟩
  · simp [Value.ownBlock]
  · intro e
    obtain rfl : g = b := by simpa [Value.ownBlock] using e
    rw [hb] at hg
    simp at hg
    exact hne hg.2.1
theorem own_ne_own {w : World} {B B' : Nat} {e e' : TypeId} {size size' : Nat} {v v' : Value} {n n' : Nat} {l l' : List Value} (h : w.ownsRow B e size v n l) (h' : w.ownsRow B' e' size' v' n' l') (hne : e' ≠ e) : ∀ g, v'.ownBlock = some g → v.ownBlock ≠ some g := by
  intro g hg
  rcases h'.2 with ⟨rfl, _⟩ | ⟨g', cap, cu, rfl, _, hg', _⟩
  · simp [Value.ownBlock] at hg
  · obtain rfl : g' = g := by simpa [Value.ownBlock] using hg
    exact own_ne_blk h hg' hne
theorem own_form {w : World} {B : Nat} {e : TypeId} {size : Nat} {v : Value} {n : Nat} {l : List Value} (h : w.ownsRow B e size v n l) : ∃ p c, v = .slice p n c := by
  rcases h.2 with ⟨rfl, rfl⟩ | ⟨g, cap, cu, rfl, _⟩
  · exact ⟨_, _, rfl⟩
  · exact ⟨_, _, rfl⟩
structure RIs (cur : Array Value) (S : List Int) (on : Bool) (T : Int) (vw vs : Value) : Prop where
  size : cur.size = 20
  c0 : cur[0]? = some vw
  c1 : cur[1]? = some vs
  sec : ∀ (k : Nat) (y : Int), S[k]? = some y → cur[2 + k]? = some (.int .u32 y)
  s16 : S.length = 16
  ct : cur[18]? = some (.int .i64 T)
  con : cur[19]? = some (.bool on)
section
variable {cur : Array Value} {S : List Int} {on : Bool} {T : Int} {vw vs : Value}
theorem RIs.wait (h : RIs cur S on T vw vs) (u : Value) : RIs (cur.setIfInBounds 0 u) S on T u vs := by
  have hs := h.size
  refine ⟨by simp [hs], set_eq _ (by omega), ?_, ?_, h.s16, ?_, ?_⟩
  · rw [set_ne _ (by omega)]; exact h.c1
  · intro j z hz; rw [set_ne _ (by omega)]; exact h.sec j z hz
  · rw [set_ne _ (by omega)]; exact h.ct
  · rw [set_ne _ (by omega)]; exact h.con
theorem RIs.show (h : RIs cur S on T vw vs) (u : Value) : RIs (cur.setIfInBounds 1 u) S on T vw u := by
  have hs := h.size
  refine ⟨by simp [hs], ?_, set_eq _ (by omega), ?_, h.s16, ?_, ?_⟩
  · rw [set_ne _ (by omega)]; exact h.c0
  · intro j z hz; rw [set_ne _ (by omega)]; exact h.sec j z hz
  · rw [set_ne _ (by omega)]; exact h.ct
  · rw [set_ne _ (by omega)]; exact h.con
theorem RIs.put (h : RIs cur S on T vw vs) {k : Nat} (hk : k < 16) (y : Int) : RIs (cur.setIfInBounds (2 + k) (.int .u32 y)) (S.set k y) on T vw vs := by
  have hs := h.size
  refine ⟨by simp [hs], ?_, ?_, ?_, by simpa using h.s16, ?_, ?_⟩
  · rw [set_ne _ (by omega)]; exact h.c0
  · rw [set_ne _ (by omega)]; exact h.c1
  · intro j z hz
    rw [List.getElem?_set] at hz
    by_cases e : k = j
    · subst e
      rw [if_pos rfl, if_pos (by rw [h.s16]; exact hk)] at hz
      rw [set_eq _ (by omega), Option.some.inj hz]
    · rw [if_neg e] at hz
      rw [set_ne _ (by omega)]; exact h.sec j z hz
  · rw [set_ne _ (by omega)]; exact h.ct
  · rw [set_ne _ (by omega)]; exact h.con
theorem RIs.onoff (h : RIs cur S on T vw vs) (b : Bool) : RIs (cur.setIfInBounds 19 (.bool b)) S b T vw vs := by
  have hs := h.size
  have h16 := h.s16
  refine ⟨by simp [hs], ?_, ?_, ?_, h.s16, ?_, set_eq _ (by omega)⟩
  · rw [set_ne _ (by omega)]; exact h.c0
  · rw [set_ne _ (by omega)]; exact h.c1
  · intro j z hz
    have hj : j < S.length := (List.getElem?_eq_some_iff.1 hz).1
    rw [set_ne _ (by omega)]; exact h.sec j z hz
  · rw [set_ne _ (by omega)]; exact h.ct
theorem RIs.time (h : RIs cur S on T vw vs) (t : Int) : RIs (cur.setIfInBounds 18 (.int .i64 t)) S on t vw vs := by
  have hs := h.size
  have h16 := h.s16
  refine ⟨by simp [hs], ?_, ?_, ?_, h.s16, set_eq _ (by omega), ?_⟩
  · rw [set_ne _ (by omega)]; exact h.c0
  · rw [set_ne _ (by omega)]; exact h.c1
  · intro j z hz
    have hj : j < S.length := (List.getElem?_eq_some_iff.1 hz).1
    rw [set_ne _ (by omega)]; exact h.sec j z hz
  · rw [set_ne _ (by omega)]; exact h.con
end
/-- the document's devices at block b; vw: what waits, vs: what is seen -/
structure RDAt (w : World) (B b : Nat) (Q S : List Int) (sn : List Sn) (on : Bool) (T : Int) (vw vs : Value) : Prop where
  hb : ∃ cur, w.heap[b]? = some (.cells cur 106 (0, 0)) ∧ RIs cur S on T vw vs
  ow : w.ownsRow B 25 1 vw Q.length (Q.map (Value.int .u32))
  os : w.ownsRow B 43 3 vs sn.length (snCells sn)
  ge : B ≤ b
def rfoot (b : Nat) (vw vs : Value) : List Nat := b :: (vw.ownBlock.toList ++ vs.ownBlock.toList)
theorem mem_rfoot {b i : Nat} {vw vs : Value} : i ∈ rfoot b vw vs ↔ i = b ∨ vw.ownBlock = some i ∨ vs.ownBlock = some i := by
  unfold rfoot
  rw [List.mem_cons, List.mem_append, Option.mem_toList, Option.mem_toList]
/-- behind a call that writes the document's devices -/
structure RTurned (w : World) (B b : Nat) (vw vs : Value) (Q S : List Int) (sn : List Sn) (on : Bool) (T : Int) (w' : World) (vw' vs' : Value) : Prop where
  at_ : RDAt w' B b Q S sn on T vw' vs'
  lv : Lv w w' (rfoot b vw vs)
  m1 : Mine w vw vw'
  m2 : Mine w vs vs'
section
variable {w w1 W w' w2 : World} {B b : Nat} {Q S : List Int} {sn : List Sn} {on : Bool} {T : Int} {vw vs : Value} {R : List Nat}
theorem RDAt.lt (h : RDAt w B b Q S sn on T vw vs) : b < w.heap.size := by
  obtain ⟨cur, hb, _⟩ := h.hb
  exact (Array.getElem?_eq_some_iff.1 hb).1
theorem RDAt.foot_lt (h : RDAt w B b Q S sn on T vw vs) : ∀ i ∈ rfoot b vw vs, i < w.heap.size := by
  intro i hi
  rcases mem_rfoot.1 hi with rfl | hi | hi
  · exact h.lt
  · exact (h.ow.lt i hi).2
  · exact (h.os.lt i hi).2
theorem RDAt.foot_ge (h : RDAt w B b Q S sn on T vw vs) : ∀ i ∈ rfoot b vw vs, B ≤ i := by
  intro i hi
  rcases mem_rfoot.1 hi with rfl | hi | hi
  · exact h.ge
  · exact (h.ow.lt i hi).1
  · exact (h.os.lt i hi).1
theorem RDAt.ne_w (h : RDAt w B b Q S sn on T vw vs) : vw.ownBlock ≠ some b := by
  obtain ⟨cur, hb, _⟩ := h.hb
  exact own_ne_blk h.ow hb (by decide)
theorem RDAt.ne_s (h : RDAt w B b Q S sn on T vw vs) : vs.ownBlock ≠ some b := by
  obtain ⟨cur, hb, _⟩ := h.hb
  exact own_ne_blk h.os hb (by decide)
theorem RDAt.ne_ws (h : RDAt w B b Q S sn on T vw vs) : ∀ g, vw.ownBlock = some g → vs.ownBlock ≠ some g := own_ne_own h.os h.ow (by decide)
theorem RDAt.keptL (h : RDAt w B b Q S sn on T vw vs) (hg : Lv w w1 R) (hr : ∀ i ∈ rfoot b vw vs, i ∉ R) : RDAt w1 B b Q S sn on T vw vs := by
  obtain ⟨cur, hb, hi⟩ := h.hb
  exact ⟨⟨cur, (hg.block b h.lt (hr b (mem_rfoot.2 (.inl rfl)))).trans hb, hi⟩, own_keptL h.ow hg (fun g hgv => hr g (mem_rfoot.2 (.inr (.inl hgv)))), own_keptL h.os hg (fun g hgv => hr g (mem_rfoot.2 (.inr (.inr hgv)))), h.ge⟩
theorem RDAt.kept0 (h : RDAt w B b Q S sn on T vw vs) (hg : w.grownBy w1 none) : RDAt w1 B b Q S sn on T vw vs := h.keptL (Lv.of_none hg []) (by simp)
theorem RDAt.q (h : RDAt w B b Q S sn on T vw vs) : ∃ p c, vw = .slice p Q.length c := own_form h.ow
theorem RDAt.sees (h : RDAt w B b Q S sn on T vw vs) : SnAt w vs sn := SnAt.own h.os
/-- where the block alone was written -/
theorem RDAt.re (h : RDAt w B b Q S sn on T vw vs) (hg : Lv w w' [b]) {cur' : Array Value} {S' : List Int} {on' : Bool} {T' : Int} (hb : w'.heap[b]? = some (.cells cur' 106 (0, 0))) (hi : RIs cur' S' on' T' vw vs) : RTurned w B b vw vs Q S' sn on' T' w' vw vs :=
  ⟨⟨⟨cur', hb, hi⟩, own_keptL h.ow hg (fun g hgv e => h.ne_w (by rw [hgv]; simp at e; rw [e])), own_keptL h.os hg (fun g hgv e => h.ne_s (by rw [hgv]; simp at e; rw [e])), h.ge⟩,
    hg.mono (fun i hi => mem_rfoot.2 (.inl (by simpa using hi))), .inl rfl, .inl rfl⟩
theorem RTurned.trans {w3 : World} {vw1 vs1 vw2 vs2 : Value} {Q1 S1 Q2 S2 : List Int} {sn1 sn2 : List Sn} {on1 on2 : Bool} {T1 T2 : Int} (h : RTurned w B b vw vs Q1 S1 sn1 on1 T1 w1 vw1 vs1) (k : RTurned w1 B b vw1 vs1 Q2 S2 sn2 on2 T2 w3 vw2 vs2) : RTurned w B b vw vs Q2 S2 sn2 on2 T2 w3 vw2 vs2 := by
  refine ⟨k.at_, ⟨k.lv.os.trans h.lv.os, k.lv.tape.trans h.lv.tape, k.lv.output.trans h.lv.output, Nat.le_trans h.lv.size k.lv.size, fun i hi hr => (k.lv.block i (Nat.lt_of_lt_of_le hi h.lv.size) ?_).trans (h.lv.block i hi hr)⟩, ?_, ?_⟩
  · intro e
    rcases mem_rfoot.1 e with rfl | e | e
    · exact hr (mem_rfoot.2 (.inl rfl))
    · rcases h.m1 with m | m
      · exact hr (mem_rfoot.2 (.inr (.inl (m.symm.trans e))))
      · have := m i e; omega
    · rcases h.m2 with m | m
      · exact hr (mem_rfoot.2 (.inr (.inr (m.symm.trans e))))
      · have := m i e; omega
  · rcases k.m1 with m | m
    · rcases h.m1 with m' | m'
      · exact .inl (m.trans m')
      · exact .inr (fun g hg => m' g (m.symm.trans hg))
    · exact .inr (fun g hg => Nat.le_trans h.lv.size (m g hg))
  · rcases k.m2 with m | m
    · rcases h.m2 with m' | m'
      · exact .inl (m.trans m')
      · exact .inr (fun g hg => m' g (m.symm.trans hg))
    · exact .inr (fun g hg => Nat.le_trans h.lv.size (m g hg))
theorem RTurned.base {vw1 vs1 : Value} {Q1 S1 : List Int} {sn1 : List Sn} {on1 : Bool} {T1 : Int} (h : RTurned w B b vw vs Q1 S1 sn1 on1 T1 w1 vw1 vs1) (hB : B ≤ w.heap.size) : B ≤ w1.heap.size := Nat.le_trans hB h.lv.size
theorem RTurned.none (h : RDAt w B b Q S sn on T vw vs) (hg : w.grownBy w1 none) : RTurned w B b vw vs Q S sn on T w1 vw vs := ⟨h.kept0 hg, Lv.of_none hg _, .inl rfl, .inl rfl⟩
theorem rturned_old {w0 : World} {vw1 vs1 : Value} {Q1 S1 : List Int} {sn1 : List Sn} {on1 : Bool} {T1 : Int} (h0 : w0.grownBy w none) (h : RDAt w w0.heap.size b Q S sn on T vw vs) (ht : RTurned w w0.heap.size b vw vs Q1 S1 sn1 on1 T1 w' vw1 vs1) : w0.grownBy w' none :=
  Lv.after h0 ht.lv h.foot_ge
/-- behind an append to a row of its own the block stands -/
theorem RDAt.across (h : RDAt w B b Q S sn on T vw vs) {v : Value} (hv : v.ownBlock ≠ some b) (hL : Lv w W []) (hg : W.grownBy w' v.ownBlock) : w'.heap[b]? = w.heap[b]? :=
  (hg.block b (Nat.lt_of_lt_of_le h.lt hL.size) (fun e => hv e.symm)).trans (hL.block b h.lt (by simp))
theorem mine_at {v : Value} {g n cap : Nat} (hL : Lv w W []) (hat : v.ownBlock = some g ∨ g = W.heap.size) : Mine w v (.slice (some ⟨g, 0, none⟩) n cap) := by
  rcases hat with e | e
  · left; rw [e]; rfl
  · right
    intro k hk
    obtain rfl : g = k := by simpa [Value.ownBlock] using hk
    rw [e]; exact hL.size
/-- what waits was appended to, and laid into its field -/
theorem RDAt.keyed (h : RDAt w B b Q S sn on T vw vs) (hL : Lv w W []) (hg : W.grownBy w' vw.ownBlock) {g cap : Nat} (key : Int)
    (hown : w'.ownsRow B 25 1 (.slice (some ⟨g, 0, none⟩) (Q.length + 1) cap) (Q.length + 1) (Q.map (Value.int .u32) ++ [.int .u32 key]))
    (hat : vw.ownBlock = some g ∨ g = W.heap.size) (h2 : w2 = w'.setCell ⟨b, 0, none⟩ (.slice (some ⟨g, 0, none⟩) (Q.length + 1) cap)) : RTurned w B b vw vs (Q ++ [key]) S sn on T w2 (.slice (some ⟨g, 0, none⟩) (Q.length + 1) cap) vs := by
  obtain ⟨cur, hb, hi⟩ := h.hb
  have hb' := (h.across h.ne_w hL hg).trans hb
  have hgd : g ≠ b := by
    rcases hat with e | e
    · intro e2; subst e2; exact h.ne_w e
    · have := h.lt; have := hL.size; omega
  have hL1 : Lv w w' vw.ownBlock.toList := (hL.mono (by simp)).trans (Lv.of_row hg)
  have hL3 : Lv w w2 (b :: vw.ownBlock.toList) := by rw [h2]; exact (hL1.mono (by simp +contextual)).set (by simp) _ _
  have hs : Lv w' w2 [b] := by rw [h2]; exact (Lv.refl _ _).set (by simp) _ _
  refine ⟨⟨⟨_, by rw [h2]; exact heap_setCell_same _ _ _ _ _ _ hb', hi.wait _⟩, ?_, ?_, h.ge⟩, hL3.mono (fun i hi => ?_), mine_at hL hat, .inl rfl⟩
  · have := own_keptL hown hs (by intro k hk; simp [Value.ownBlock] at hk; subst hk; simpa using hgd)
    simpa using this
  · refine own_keptL (own_keptL h.os hL1 (fun k hk e => ?_)) hs (fun k hk e => h.ne_s (by rw [hk]; simp at e; rw [e]))
    rw [Option.mem_toList] at e
    exact h.ne_ws k e hk
  · rw [List.mem_cons, Option.mem_toList] at hi
    exact mem_rfoot.2 (hi.imp id .inl)
/-- what is seen was appended to, and laid into its field -/
theorem RDAt.showed (h : RDAt w B b Q S sn on T vw vs) (hL : Lv w W []) (hg : W.grownBy w' vs.ownBlock) {g cap : Nat} (s : Sn)
    (hown : w'.ownsRow B 43 3 (.slice (some ⟨g, 0, none⟩) (sn.length + 1) cap) (sn.length + 1) (snCells sn ++ [.int .i64 s.1, .int .u32 s.2.1, .int .u32 s.2.2]))
    (hat : vs.ownBlock = some g ∨ g = W.heap.size) (h2 : w2 = w'.setCell ⟨b, 1, none⟩ (.slice (some ⟨g, 0, none⟩) (sn.length + 1) cap)) : RTurned w B b vw vs Q S (sn ++ [s]) on T w2 vw (.slice (some ⟨g, 0, none⟩) (sn.length + 1) cap) := by
  obtain ⟨cur, hb, hi⟩ := h.hb
  have hb' := (h.across h.ne_s hL hg).trans hb
  have hgd : g ≠ b := by
    rcases hat with e | e
    · intro e2; subst e2; exact h.ne_s e
    · have := h.lt; have := hL.size; omega
  have hL1 : Lv w w' vs.ownBlock.toList := (hL.mono (by simp)).trans (Lv.of_row hg)
  have hL3 : Lv w w2 (b :: vs.ownBlock.toList) := by rw [h2]; exact (hL1.mono (by simp +contextual)).set (by simp) _ _
  have hs : Lv w' w2 [b] := by rw [h2]; exact (Lv.refl _ _).set (by simp) _ _
  refine ⟨⟨⟨_, by rw [h2]; exact heap_setCell_same _ _ _ _ _ _ hb', hi.show _⟩, ?_, ?_, h.ge⟩, hL3.mono (fun i hi => ?_), .inl rfl, mine_at hL hat⟩
  · refine own_keptL (own_keptL h.ow hL1 (fun k hk e => ?_)) hs (fun k hk e => h.ne_w (by rw [hk]; simp at e; rw [e]))
    rw [Option.mem_toList] at e
    exact h.ne_ws k hk e
  · have := own_keptL hown hs (by intro k hk; simp [Value.ownBlock] at hk; subst hk; simpa using hgd)
    simpa [snCells_append, snCells] using this
  · rw [List.mem_cons, Option.mem_toList] at hi
    exact mem_rfoot.2 (hi.imp id .inr)
end
end Go.Proofs.YtkkbhifplbleiaaGreatDoor
/- The document's own devices (facaderef1.Dev): contracts. -/
namespace Go.Proofs.YtkkbhifplbleiaaGreatDoor
open Go.RowKit
theorem u32_info : ∃ i, Tryz.prog.info? 25 = some i ∧ i.zero = some (.int .u32 0) ∧ i.size = 1 ∧ i.bytes = 4 := by
  obtain ⟨i, hi, hz0, hz1, hz2⟩ := info_parts (P := Tryz.prog) (e := 25) (z := .int .u32 0) (size := 1) (bytes := 4) (by kernel_rfl)
  exact ⟨i, hi, hz0, hz1, hz2⟩
/-! ### a copy of words -/
def WordsOwn (w : World) (ls : List Int) (e : Ending) (w' : World) : Prop := ∃ v, e = .returned v ∧ w'.ownsRow w.heap.size 25 1 v ls.length (ls.map (Value.int .u32)) ∧ w.grownBy w' none
structure WORel (w : World) (ls : List Int) (v : Value) (k : Nat) (wr : World) : Prop where
  own : wr.ownsRow w.heap.size 25 1 v k ((ls.take k).map (Value.int .u32))
  grown : w.grownBy wr none
set_option maxHeartbeats 1000000 in
theorem words_own {w : World} {v : Value} {ls : List Int} (h : SlAt w .u32 v ls) (hN : ls.length ≤ 1048576) :
    Calls Tryz.prog 78 #[v] w (WordsOwn w ls) := by
  obtain ⟨i, hi, hz0, hz1, hz2⟩ := u32_info
  obtain ⟨N, hl⟩ : ∃ N, ls.length = N := ⟨_, rfl⟩
  obtain ⟨p, c, rfl⟩ : ∃ p c, v = .slice p N c := by
    rcases h with ⟨⟨p, c, rfl⟩, rfl⟩ | ⟨b, o, c, rfl, _⟩
    · exact ⟨p, c, by rw [← hl]; rfl⟩
    · exact ⟨_, c, by rw [hl]⟩
  rw [hl] at hN
  have hmk : ∃ C, Hid (C.size = N * 1) ∧ (Instr.makeSlice 24 (.int .i64 0) (.int .i64 N)).run Tryz.prog w = .ok (.slice (some ⟨w.heap.size, 0, none⟩) 0 N) (w.alloc (.cells C 25)) := by
    have := run_make (P := Tryz.prog) w 24 25 i _ Tryz.underlying24 hi hz0 .i64 .i64 0 N (by omega) (by omega) (by rw [hz2]; omega) (by omega)
    rw [hz1] at this
    simp only [Int.toNat_natCast, Int.toNat_zero] at this
    exact ⟨_, hid (size_madeCells _ _), this⟩
  obtain ⟨C, HC, hmk⟩ := hmk
  have Hi := hid hi
  have Hz0 := hid hz0
  have Hz1 := hid hz1
  have Hz2 := hid hz2
  have HS := hid h
  have Hl := hid hl
  clear hi hz0 hz1 hz2 h hl
  go_enter Tryz.func78, Tryz.ntmps78
  go_wp2
  go_loopw [3, 4] (fun v i wr => ∃ k : Nat, k ≤ N ∧ i = .int .i64 k ∧ Hid (WORel w ls v k wr)) (fun _ i _ => N - (intOf i).toNat)
  case atStart => exact ⟨0, Nat.zero_le _, rfl, hid ⟨by simpa using World.ownsRow_made w C N (Nat.le_refl _) (by unfold maxLen; omega) HC.out, World.grownBy_alloc _ _ _⟩⟩
  case round =>
    obtain ⟨k, hk, rfl, HR⟩ := hrel
    by_cases hlt : k < N
    · rcases HS.out with ⟨_, h0⟩ | ⟨b, o, c', he, hb, hc⟩
      · have := Hl.out; rw [h0] at this; simp at this; omega
      · have hp : p = some ⟨b, o, none⟩ := by injection he
        obtain ⟨x, Hx⟩ : ∃ x, Hid (ls[k]? = some x) := ⟨_, hid (List.getElem?_eq_getElem (by rw [Hl.out]; exact hlt))⟩
        have hcx := (grown_cell (p := ⟨b, o + k, none⟩) HR.out.grown hb (by simp)).trans (hc k x Hx.out)
        have hk0 : (0 : Int) ≤ (k : Int) := by omega
        have hk1 : (k : Int) < (N : Int) := by omega
        have Hown := hid (own_keptL HR.out.own (Lv.of_none (World.grownBy_alloc wr (.cells #[.int .u32 x] 25) none) []) (by simp))
        have Hnew := hid (one_at wr (.int .u32 x) 25)
        have H63 : Hid (k + 1 ≤ maxLen) := hid (by unfold maxLen; omega)
        have Hby : Hid ((k + 1) * 4 ≤ 140737488355328) := hid (by omega)
        have Hba : Hid (w.heap.size ≤ (wr.alloc (.cells #[.int .u32 x] 25)).heap.size) := hid (by have := HR.out.grown.size; simp; omega)
        clear he hc
        subst hp
        go_wp2_with (refine wpList_append_own _ rfl _ _ 24 rfl w.heap.size 25 i _ 1 4 Tryz.underlying24 Hi.out Hz0.out Hz1.out Hz2.out rfl (by decide) _ _ _ rfl Hown.out ⟨wr.heap.size, 0, none⟩ 1 1 [.int .u32 x] rfl rfl Hnew.out (by simp [Value.oneCell']) H63.out Hby.out Hba.out ?_; intro v' w2 hown2 hgrow2 _; have HO := hid hown2; have HG := hid hgrow2; clear hown2 hgrow2)
        go_roundw
        case rel =>
          refine ⟨k + 1, by omega, by go_num, hid ⟨?_, ?_⟩⟩
          · rw [List.take_add_one, Hx.out, List.map_append]; exact HO.out
          · exact grown_new' (grown_trans (grown_none (grown_alloc HR.out.grown _)) HG.out) (fun g hg => (HR.out.own.lt g hg).1)
        case measure => simp [intOf]; omega
    · have hge : (N : Int) ≤ (k : Int) := by omega
      go_wp2
      go_ret
      obtain rfl : k = N := by omega
      have := HR.out.own
      rw [List.take_of_length_le (by rw [Hl.out]; omega)] at this
      exact ⟨_, rfl, by rw [Hl.out]; exact this, HR.out.grown⟩
/-! ### the calls -/
section
variable {w : World} {B b : Nat} {Q S : List Int} {sn : List Sn} {on : Bool} {T : Int} {vw vs : Value}
theorem rpress_no (h : RDAt w B b Q S sn on T vw vs) (hq : Q.length = 64) (key : Int) :
    Calls Tryz.prog 27 #[.pointer (some ⟨b, 0, none⟩), .int .u32 key] w fun e w' => e = .returned (.bool false) ∧ w = w' := by
  obtain ⟨cur, hb, hi⟩ := h.hb
  obtain ⟨p, c, rfl⟩ := h.q
  have hc : w.cell? ⟨b, 0, none⟩ = some (.slice p 64 c) := by rw [cell_of_row w b _ _ _ _ hb, hi.c0, hq]
  clear hb hi h
  go_enter Tryz.func27, Tryz.ntmps27
  go_wp2
  go_ret
  exact ⟨rfl, rfl⟩
/-- behind a call that writes what waits -/
def Waited (w : World) (B b : Nat) (vw vs : Value) (Q S : List Int) (sn : List Sn) (on : Bool) (T : Int) (v : Value) (e : Ending) (w' : World) : Prop :=
  e = .returned v ∧ ∃ vw', RTurned w B b vw vs Q S sn on T w' vw' vs
/-- behind a call that writes what is seen -/
def RShown (w : World) (B b : Nat) (vw vs : Value) (Q S : List Int) (sn : List Sn) (on : Bool) (T : Int) (e : Ending) (w' : World) : Prop :=
  e = .returned (.tuple #[]) ∧ ∃ vs', RTurned w B b vw vs Q S sn on T w' vw vs'
set_option maxHeartbeats 1000000 in
theorem rpress_yes (h : RDAt w B b Q S sn on T vw vs) (hq : Q.length < 64) (key : Int) (hB : B ≤ w.heap.size) :
    Calls Tryz.prog 27 #[.pointer (some ⟨b, 0, none⟩), .int .u32 key] w (Waited w B b vw vs (Q ++ [key]) S sn on T (.bool true)) := by
  obtain ⟨i, hi, hz0, hz1, hz2⟩ := u32_info
  obtain ⟨cur, hb, his⟩ := h.hb
  obtain ⟨p, c, rfl⟩ := h.q
  obtain ⟨n, hn⟩ : ∃ n, Q.length = n := ⟨_, rfl⟩
  rw [hn] at h hq his ⊢
  have hq2 : ¬ (64 : Int) ≤ (n : Int) := by omega
  have Hb := hid hb
  have His := hid his
  have H := hid h
  have Hi := hid hi
  have Hz0 := hid hz0
  have Hz1 := hid hz1
  have Hz2 := hid hz2
  have Hn := hid hn
  have hc : w.cell? ⟨b, 0, none⟩ = some (.slice p n c) := by rw [cell_of_row w b _ _ _ _ hb, his.c0]
  have HBl := hid hB
  have Hq := hid hq
  have Hnew := hid (one_at w (.int .u32 key) 25)
  have Hown : Hid ((w.alloc (.cells #[.int .u32 key] 25)).ownsRow B 25 1 (.slice p n c) n (Q.map (Value.int .u32))) := hid (by
    have := own_keptL H.out.ow (Lv.of_none (World.grownBy_alloc w (.cells #[.int .u32 key] 25) none) []) (by simp)
    rwa [hn] at this)
  clear hb his h hi hz0 hz1 hz2 hB hq hn
  go_enter Tryz.func27, Tryz.ntmps27
  go_wp2_with (refine wpList_append_lies _ rfl _ _ 24 rfl B 25 i _ 1 4 Tryz.underlying24 Hi.out Hz0.out Hz1.out Hz2.out rfl (by decide) (.slice p n c) n (Q.map (Value.int .u32)) rfl Hown.out ⟨w.heap.size, 0, none⟩ 1 1 [.int .u32 key] rfl rfl Hnew.out (by simp [Value.oneCell']) (by decide) (by have := Hq.out; unfold maxLen; omega) (by have := Hq.out; omega) (by have := HBl.out; simp; omega) _ rfl ?_; intro g cap w' hown hgrow hat hlt; have hd' := H.out.across H.out.ne_w (Lv.of_none (World.grownBy_alloc w _ none) []) hgrow; have hc3 : w'.cell? ⟨b, 0, none⟩ = some (.slice p n c) := (by rw [cell_of_row w' b _ _ _ _ (hd'.trans Hb.out), His.out.c0]); have hf3 : w'.frozen? ⟨b, 0, none⟩ = false := frozen_of_row w' b _ _ _ (hd'.trans Hb.out); have HT := hid (H.out.keyed (cap := cap) (Lv.of_none (World.grownBy_alloc w _ none) []) hgrow key (by rw [Hn.out]; exact hown) hat rfl); rw [Hn.out] at HT; clear hown hgrow hat hlt hd')
  go_ret
  exact ⟨rfl, _, HT.out⟩
theorem rin_no (h : RDAt w B b Q S sn on T vw vs) (hq : Q = []) :
    Calls Tryz.prog 90 #[.pointer (some ⟨b, 0, none⟩)] w fun e w' => e = .returned (.int .u32 0) ∧ w = w' := by
  obtain ⟨cur, hb, hi⟩ := h.hb
  obtain ⟨p, c, rfl⟩ := h.q
  subst hq
  have hc : w.cell? ⟨b, 0, none⟩ = some (.slice p 0 c) := by rw [cell_of_row w b _ _ _ _ hb, hi.c0]; rfl
  clear hb hi h
  go_enter Tryz.func90, Tryz.ntmps90
  go_wp2
  go_ret
  exact ⟨rfl, rfl⟩
/-- what waits was copied, and laid into its field -/
theorem RDAt.waited (h : RDAt w B b Q S sn on T vw vs) {w3 : World} {u : Value} {r : List Int} (hg : w.grownBy w3 none) (hown : w3.ownsRow w.heap.size 25 1 u r.length (r.map (Value.int .u32))) (hB : B ≤ w.heap.size) :
    RTurned w B b vw vs r S sn on T (w3.setCell ⟨b, 0, none⟩ u) u vs := by
  obtain ⟨cur, hb, hi⟩ := h.hb
  have hb' := (hg.block b h.lt (by simp)).trans hb
  have hs : Lv w3 (w3.setCell ⟨b, 0, none⟩ u) [b] := (Lv.refl _ _).set (by simp) _ _
  refine ⟨⟨⟨_, heap_setCell_same _ _ _ _ _ _ hb', hi.wait _⟩, ?_, ?_, h.ge⟩, ?_, .inr (fun g hg' => (hown.lt g hg').1), .inl rfl⟩
  · refine own_base (own_keptL hown hs (fun g hg' e => ?_)) hB
    have := (hown.lt g hg').1
    have := h.lt
    simp at e
    omega
  · exact own_keptL (own_keptL h.os (Lv.of_none hg []) (by simp)) hs (fun k hk e => h.ne_s (by rw [hk]; simp at e; rw [e]))
  · exact ((Lv.of_none hg _).trans hs).mono (fun i hi => mem_rfoot.2 (.inl (by simpa using hi)))
set_option maxHeartbeats 1000000 in
theorem rin_yes (h : RDAt w B b Q S sn on T vw vs) {key : Int} {r : List Int} (hq : Q = key :: r) (hl : Q.length ≤ 64) (hB : B ≤ w.heap.size) :
    Calls Tryz.prog 90 #[.pointer (some ⟨b, 0, none⟩)] w (Waited w B b vw vs r S sn on T (.int .u32 key)) := by
  obtain ⟨cur, hb, his⟩ := h.hb
  obtain ⟨n, hn⟩ : ∃ n, r.length = n := ⟨_, rfl⟩
  obtain ⟨M, hM⟩ : ∃ M, n + 1 = M := ⟨_, rfl⟩
  have hQl : Q.length = M := by rw [hq]; simp [hn, hM]
  rcases h.ow.2 with ⟨_, h0⟩ | ⟨g, c, cu, hv, hgB, hg, hgc, _, hgs, hgt⟩
  · omega
  · rw [hQl] at hv hgc
    subst hv
    have Hb := hid hb
    have His := hid his
    have H := hid h
    have hc : w.cell? ⟨b, 0, none⟩ = some (.slice (some ⟨g, 0, none⟩) M c) := by rw [cell_of_row w b _ _ _ _ hb, his.c0]
    have hcells : ∀ j y, Q[j]? = some y → w.cell? ⟨g, j, none⟩ = some (.int .u32 y) := fun j y hy => by
      have := h.ow.cells (g := g) rfl j (.int .u32 y) (by rw [List.getElem?_map, hy]; rfl)
      rwa [Addr.add_mid, Nat.zero_add] at this
    have hk : w.cell? ⟨g, 0, none⟩ = some (.int .u32 key) := hcells 0 key (by rw [hq]; rfl)
    have hglt : g < w.heap.size := (Array.getElem?_eq_some_iff.1 hg).1
    have hne : ((M : Int) == 0) = false := by simp; omega
    have m0 : (0 : Int) < (M : Int) := by omega
    have m1 : (1 : Int) ≤ (M : Int) := by omega
    have m2 : (M : Int) ≤ (c : Int) := by omega
    have m3 : (M : Int) - 1 = (n : Int) := by omega
    have m4 : M - 1 = n := by omega
    have Hsl : Hid (∀ a cc, (a = some ⟨g, 1, none⟩ ∨ n = 0) → SlAt w .u32 (.slice a n cc) r) := hid (fun a cc ha => by
      by_cases h0 : n = 0
      · obtain rfl := List.eq_nil_of_length_eq_zero (hn.trans h0)
        exact .inl ⟨⟨a, cc, by rw [h0]⟩, rfl⟩
      · obtain rfl : a = some ⟨g, 1, none⟩ := ha.resolve_right h0
        refine .inr ⟨g, 1, cc, by rw [hn], hglt, fun j y hy => ?_⟩
        rw [Nat.add_comm 1 j]
        exact hcells (j + 1) y (by rw [hq]; simpa using hy))
    have Hn := hid hn
    have Hl : Hid (n ≤ 64) := hid (by omega)
    have HM := hid hM
    clear hb his h hg hgs hgt hcells hq hl hn hM hQl
    have HB := hid hB
    clear hB
    by_cases hc1 : c = 1
    · subst hc1
      have Hn0 : Hid (n = 0) := hid (by have := HM.out; omega)
      go_enter Tryz.func90, Tryz.ntmps90
      go_wp2_with fail
      refine (words_own (Hsl.out _ _ (.inr Hn0.out)) (by have := Hn.out; have := Hl.out; omega)).mono ?_; rintro e w3 ⟨u, rfl, hown, hg⟩
      obtain ⟨pu, cu', rfl⟩ := own_form hown
      have hb3 := (hg.block b H.out.lt (by simp)).trans Hb.out
      have hc3 : w3.cell? ⟨b, 0, none⟩ = some (.slice (some ⟨g, 0, none⟩) M 1) := by rw [cell_of_row w3 b _ _ _ _ hb3, His.out.c0]
      have hf3 : w3.frozen? ⟨b, 0, none⟩ = false := frozen_of_row w3 b _ _ _ hb3
      have HT := hid (H.out.waited hg hown HB.out)
      clear hown hg hb3
      go_wp2
      go_ret
      exact ⟨rfl, _, HT.out⟩
    · have hc2 := hc1
      go_enter Tryz.func90, Tryz.ntmps90
      go_wp2_with fail
      refine (words_own (Hsl.out _ _ (.inl rfl)) (by have := Hn.out; have := Hl.out; omega)).mono ?_; rintro e w3 ⟨u, rfl, hown, hg⟩
      obtain ⟨pu, cu', rfl⟩ := own_form hown
      have hb3 := (hg.block b H.out.lt (by simp)).trans Hb.out
      have hc3 : w3.cell? ⟨b, 0, none⟩ = some (.slice (some ⟨g, 0, none⟩) M c) := by rw [cell_of_row w3 b _ _ _ _ hb3, His.out.c0]
      have hf3 : w3.frozen? ⟨b, 0, none⟩ = false := frozen_of_row w3 b _ _ _ hb3
      have HT := hid (H.out.waited hg hown HB.out)
      clear hown hg hb3
      go_wp2
      go_ret
      exact ⟨rfl, _, HT.out⟩
theorem rget_any (h : RDAt w B b Q S sn on T vw vs) (s : Int) (h0 : 0 ≤ s) (k : Nat) (hk : s % 16 = (k : Int)) (y : Int) (hy : S[k]? = some y) :
    Calls Tryz.prog 92 #[.pointer (some ⟨b, 0, none⟩), .int .u32 s] w fun e w' => e = .returned (.int .u32 y) ∧ w = w' := by
  obtain ⟨cur, hb, hi⟩ := h.hb
  have hc : w.cell? ⟨b, 2 + k, none⟩ = some (.int .u32 y) := by rw [cell_of_row w b _ _ _ _ hb, hi.sec k y hy]
  have hk0 : (0 : Int) ≤ (k : Int) := by omega
  have hk1 : (k : Int) < 16 := by omega
  clear hb hi h
  go_enter Tryz.func92, Tryz.ntmps92
  go_wp2
  go_ret
  exact ⟨rfl, rfl⟩
theorem rdue_any (h : RDAt w B b Q S sn on T vw vs) (now : Int) (r : Bool) (hr : (on && decide (T ≤ now)) = r) :
    Calls Tryz.prog 80 #[.pointer (some ⟨b, 0, none⟩), .int .i64 now] w fun e w' => e = .returned (.bool r) ∧ w = w' := by
  obtain ⟨cur, hb, hi⟩ := h.hb
  have hc : w.cell? ⟨b, 18, none⟩ = some (.int .i64 T) := by rw [cell_of_row w b _ _ _ _ hb, hi.ct]
  have hc2 : w.cell? ⟨b, 19, none⟩ = some (.bool on) := by rw [cell_of_row w b _ _ _ _ hb, hi.con]
  clear hb hi h
  subst hr
  cases on
  · go_enter Tryz.func80, Tryz.ntmps80
    go_wp2
    go_ret
    exact ⟨rfl, rfl⟩
  · go_enter Tryz.func80, Tryz.ntmps80
    go_wp2
    go_ret
    exact ⟨ret_b (by simp), rfl⟩
theorem rset_any (h : RDAt w B b Q S sn on T vw vs) (a n : Int) (a0 : 0 ≤ a) (a1 : a ≤ 1125899906842624) (n0 : 0 ≤ n) (n1 : n ≤ 4294967295) :
    Calls Tryz.prog 93 #[.pointer (some ⟨b, 0, none⟩), .int .i64 a, .int .u32 n] w fun e w' => e = .returned (.tuple #[]) ∧ RTurned w B b vw vs Q S sn (decide (0 < n)) (a + n) w' vw vs := by
  obtain ⟨cur, hb, hi⟩ := h.hb
  have Hb := hid hb
  have Hi := hid hi
  have H := hid h
  have hfz : ∀ j, w.frozen? ⟨b, j, none⟩ = false := fun j => frozen_of_row w b j _ _ hb
  have hc : w.cell? ⟨b, 18, none⟩ = some (.int .i64 T) := by rw [cell_of_row w b _ _ _ _ hb, hi.ct]
  have hc2 : w.cell? ⟨b, 19, none⟩ = some (.bool on) := by rw [cell_of_row w b _ _ _ _ hb, hi.con]
  have hx0 : -9223372036854775808 ≤ a + n := by omega
  have hx1 : a + n ≤ 9223372036854775807 := by omega
  clear hb hi h
  go_enter Tryz.func93, Tryz.ntmps93
  go_wp2
  go_end0
  have hg : Lv w ((w.setCell ⟨b, 19, none⟩ (.bool (decide (0 < n)))).setCell ⟨b, 18, none⟩ (.int .i64 (a + n))) [b] := ((Lv.refl w [b]).set (by simp) _ _).set (by simp) _ _
  exact ⟨rfl, H.out.re hg (heap_setCell_same _ _ _ _ _ _ (heap_setCell_same _ _ _ _ _ _ Hb.out)) ((Hi.out.onoff _).time _)⟩
/-- it is told that the timer was heard -/
theorem RDAt.off (h : RDAt w B b Q S sn on T vw vs) : RTurned w B b vw vs Q S sn false T (w.setCell ⟨b, 19, none⟩ (.bool false)) vw vs := by
  obtain ⟨cur, hb, hi⟩ := h.hb
  exact h.re ((Lv.refl w [b]).set (by simp) _ _) (heap_setCell_same _ _ _ _ _ _ hb) (hi.onoff _)
set_option maxHeartbeats 1000000 in
theorem rout_any (h : RDAt w B b Q S sn on T vw vs) (n : Int) (hl : sn.length ≤ 1000000) (hB : B ≤ w.heap.size) :
    Calls Tryz.prog 89 #[.pointer (some ⟨b, 0, none⟩), .int .u32 n] w (RShown w B b vw vs Q S (sn ++ [(1, 0, n)]) on T) := by
  obtain ⟨i, hi, hz0, hz1, hz2⟩ := seen_info
  obtain ⟨cur, hb, his⟩ := h.hb
  have Hb := hid hb
  have His := hid his
  have H := hid h
  have Hi := hid hi
  have Hz0 := hid hz0
  have Hz1 := hid hz1
  have Hz2 := hid hz2
  have hc : w.cell? ⟨b, 1, none⟩ = some vs := by rw [cell_of_row w b _ _ _ _ hb, his.c1]
  have HBl := hid hB
  have Hl := hid hl
  have Hown := hid (own_keptL H.out.os (Lv.of_none (World.grownBy_alloc w (.cells #[.int .i64 1, .int .u32 0, .int .u32 n] 43) none) []) (by simp))
  have Hnew : Hid (∀ j u, [Value.int .i64 1, .int .u32 0, .int .u32 n][j]? = some u → (w.alloc (.cells #[.int .i64 1, .int .u32 0, .int .u32 n] 43)).cell? ((⟨w.heap.size, 0, none⟩ : Addr).add j) = some u) := hid (World.news_of_block (cs := #[.int .i64 1, .int .u32 0, .int .u32 n]) (heap_alloc_new w _))
  clear hb his h hi hz0 hz1 hz2 hB hl
  go_enter Tryz.func89, Tryz.ntmps89
  go_wp2_with (refine wpList_append_lies _ rfl _ _ 40 rfl B 43 i _ 3 16 Tryz.underlying40 Hi.out Hz0.out Hz1.out Hz2.out rfl (by decide) vs sn.length (snCells sn) rfl Hown.out ⟨w.heap.size, 0, none⟩ 1 1 [.int .i64 1, .int .u32 0, .int .u32 n] rfl rfl Hnew.out (by simp [Value.oneCell']) (by decide) (by have := Hl.out; unfold maxLen; omega) (by have := Hl.out; omega) (by have := HBl.out; simp; omega) _ rfl ?_; intro g cap w' hown hgrow hat hlt; have hd' := H.out.across H.out.ne_s (Lv.of_none (World.grownBy_alloc w _ none) []) hgrow; have hc3 : w'.cell? ⟨b, 1, none⟩ = some vs := (by rw [cell_of_row w' b _ _ _ _ (hd'.trans Hb.out), His.out.c1]); have hf3 : w'.frozen? ⟨b, 1, none⟩ = false := frozen_of_row w' b _ _ _ (hd'.trans Hb.out); have HT := hid (H.out.showed (cap := cap) (Lv.of_none (World.grownBy_alloc w _ none) []) hgrow (1, 0, n) hown hat rfl); clear hown hgrow hat hlt hd')
  go_end0
  exact ⟨rfl, _, HT.out⟩
end
end Go.Proofs.YtkkbhifplbleiaaGreatDoor
