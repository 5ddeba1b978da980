/- Keys that wait (package dev): contracts. -/
import Derived.Test.YtajminajdcpgnaaDev0
import Derived.WalkKit
import Derived.WalkSpells
import Derived.WalkLawsBesides
import Derived.Handy
import Derived.RegionTactic
import Derived.Deep.QuietTactic
import Derived.BigQuiet
import Derived.IntWalk
import Derived.Outline
namespace Go.Proofs.Ytajminajdcpgnaa
open Go.RowKit
section
variable {w : World} {B d : Nat} {x : DvS} {v : Value}
/-- behind a call that writes devices: they read so now; nothing else was written -/
structure Turned (w : World) (B d : Nat) (v : Value) (x' : DvS) (w' : World) (v' : Value) : Prop where
  at_ : DevAt w' B d x' v'
  lv : Lv w w' (foot d v)
  mine : Mine w v v'
theorem DevAt.re {w' : World} (h : DevAt w B d x v) (hg : Lv w w' [d]) {cur' : Array Value} {f' : Nat} {x' : DvS} (hb : w'.heap[d]? = some (.cells cur' 39 (0, 0))) (hi : DevIs cur' f' x' v) (hsn : x'.sn = x.sn) : DevAt w' B d x' v :=
  ⟨⟨cur', f', hb, hi⟩, by rw [hsn]; exact own_keptL h.own hg (fun g hgv e => h.own_ne (by rw [hgv]; simp at e; rw [e])), h.ge⟩
theorem Turned.of (h : DevAt w B d x v) {w' : World} {x' : DvS} (ha : DevAt w' B d x' v) (hg : Lv w w' [d]) : Turned w B d v x' w' v :=
  ⟨ha, hg.mono (fun i hi => mem_foot.2 (.inl (by simpa using hi))), .inl rfl⟩
theorem push_no (h : DevAt w B d x v) (hq : x.Q.length = 64) (key : Int) :
    Calls Try.prog 19 #[.pointer (some ⟨d, 0, none⟩), .int .u32 key] w fun e w' => e = .returned (.bool false) ∧ w = w' := by
  obtain ⟨cur, f, hb, hi⟩ := h.hd
  have hc : w.cell? ⟨d, 65, none⟩ = some (.int .i64 64) := by rw [cell_of_row w d _ _ _ _ hb, hi.count, hq]; rfl
  clear hb hi h
  go_enter Try.func19, Try.ntmps19
  go_wp2
  go_ret
  exact ⟨rfl, rfl⟩
set_option maxHeartbeats 1000000 in
theorem push_yes (h : DevAt w B d x v) (hq : x.Q.length < 64) (key : Int) :
    Calls Try.prog 19 #[.pointer (some ⟨d, 0, none⟩), .int .u32 key] w fun e w' => e = .returned (.bool true) ∧ DevAt w' B d { x with Q := x.Q ++ [key] } v ∧ Lv w w' [d] := by
  obtain ⟨cur, f, hb, hi⟩ := h.hd
  have Hb := hid hb
  have Hi := hid hi
  have H := hid h
  obtain ⟨n, hn⟩ : ∃ n, x.Q.length = n := ⟨_, rfl⟩
  have hc : w.cell? ⟨d, 65, none⟩ = some (.int .i64 n) := by rw [cell_of_row w d _ _ _ _ hb, hi.count, hn]
  have hf : w.cell? ⟨d, 64, none⟩ = some (.int .i64 f) := by rw [cell_of_row w d _ _ _ _ hb, hi.first]
  obtain ⟨k, hk⟩ : ∃ k, (f + n) % 64 = k := ⟨_, rfl⟩
  have hk64 : k < 64 := by omega
  have hfz : ∀ j, w.frozen? ⟨d, j, none⟩ = false := fun j => frozen_of_row w d j _ _ hb
  have hs := hi.size
  obtain ⟨u, hu⟩ : ∃ u, w.cell? ⟨d, k, none⟩ = some u := by rw [cell_of_row w d _ _ _ _ hb]; exact ⟨_, Array.getElem?_eq_getElem (by omega)⟩
  have hf64 := hi.f64
  have hne : ((n : Int) == 64) = false := by simp; omega
  have hN0 : (0 : Int) ≤ (f : Int) + (n : Int) := by omega
  have hN1 : (f : Int) + (n : Int) ≤ 9223372036854775807 := by omega
  have hK : ((f : Int) + (n : Int)) % 64 = (k : Int) := by omega
  have hk0 : (0 : Int) ≤ (k : Int) := by omega
  have hk1 : (k : Int) < 64 := by omega
  clear hb hi h hs
  go_enter Try.func19, Try.ntmps19
  go_wp2
  go_region
  go_wp2
  go_ret
  have hg : Lv w ((w.setCell ⟨d, k, none⟩ (.int .u32 key)).setCell ⟨d, 65, none⟩ (.int .i64 ((n : Int) + 1))).drew [d] := (((Lv.refl w [d]).set (by simp) _ _).set (by simp) _ _).drew
  refine ⟨rfl, H.out.re hg (cur' := (cur.setIfInBounds k (.int .u32 key)).setIfInBounds 65 (.int .i64 ((n : Int) + 1))) (heap_setCell_same _ _ _ _ _ _ (heap_setCell_same _ _ _ _ _ _ Hb.out)) (f' := f) ?_ rfl, hg⟩
  have := Hi.out.push hq key
  rw [hn, hk] at this
  exact this
/-! ### the calls of devices on keys -/
theorem press_no (h : DevAt w B d x v) (hq : x.Q.length = 64) (key : Int) :
    Calls Try.prog 9 #[.pointer (some ⟨d, 0, none⟩), .int .u32 key] w fun e w' => e = .returned (.bool false) ∧ w = w' := by
  go_enter Try.func9, Try.ntmps9
  go_wp2_with (go_at_call 19; refine (push_no h hq _).mono ?_; rintro e w' ⟨rfl, rfl⟩)
  go_ret
  exact ⟨rfl, rfl⟩
theorem press_yes (h : DevAt w B d x v) (hq : x.Q.length < 64) (key : Int) :
    Calls Try.prog 9 #[.pointer (some ⟨d, 0, none⟩), .int .u32 key] w fun e w' => e = .returned (.bool true) ∧ Turned w B d v { x with Q := x.Q ++ [key] } w' v := by
  go_enter Try.func9, Try.ntmps9
  go_wp2_with fail
  refine (push_yes h hq key).mono ?_; rintro e w1 ⟨rfl, hd, hg⟩
  have HT := hid (Turned.of h hd hg)
  clear hd hg
  go_wp2
  go_ret
  exact ⟨rfl, HT.out⟩
theorem keys_any (h : DevAt w B d x v) (n : Nat) (hn : x.Q.length = n) :
    Calls Try.prog 21 #[.pointer (some ⟨d, 0, none⟩)] w fun e w' => e = .returned (.int .i64 n) ∧ w = w' := by
  obtain ⟨cur, f, hb, hi⟩ := h.hd
  have hc : w.cell? ⟨d, 65, none⟩ = some (.int .i64 n) := by rw [cell_of_row w d _ _ _ _ hb, hi.count, hn]
  clear hb hi h
  go_enter Try.func21, Try.ntmps21
  go_wp2
  go_ret
  exact ⟨rfl, rfl⟩
end
end Go.Proofs.Ytajminajdcpgnaa
