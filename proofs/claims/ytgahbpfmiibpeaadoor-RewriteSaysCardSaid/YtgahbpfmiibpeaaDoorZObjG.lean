/- Lists compared (slices.Equal; the document's own): contracts. (Made by gobje.py.) -/
import Derived.Test.YtgahbpfmiibpeaaDoorZGObjE
import Derived.BigQuiet
import Derived.Deep.QuietTactic
import Derived.Laws.StructEq
namespace Go.Proofs.YtgahbpfmiibpeaaDoor
open Go.RowKit

theorem srl_parted {w : World} {p q : Option Addr} {c d n m : Nat} (h : n ≠ m) :
    Calls Tryd.prog 45 #[.slice p n c, .slice q m d] w fun e w' => e = .returned (.bool false) ∧ w.grownBy w' none := by
  have hz : ((n : Int) == (m : Int)) = false := by simp; omega
  have hz2 : (n == m) = false := by simpa using h
  have Hr := hid (grown_refl w none)
  go_enter Tryd.func45, Tryd.ntmps45
  go_wp2
  go_ret
  exact ⟨rfl, Hr.out⟩
theorem srl_empty {w : World} {p q : Option Addr} {c d : Nat} :
    Calls Tryd.prog 45 #[.slice p 0 c, .slice q 0 d] w fun e w' => e = .returned (.bool true) ∧ w.grownBy w' none := by
  have Hr := hid (grown_refl w none)
  go_enter Tryd.func45, Tryd.ntmps45
  go_wp2
  go_loop [5] (fun i => i = .int .i64 0) (fun _ => 0)
  case atStart => rfl
  case round =>
    obtain rfl := hrel
    go_wp2
    go_ret
    exact ⟨rfl, Hr.out⟩
set_option maxRecDepth 100000 in
set_option maxHeartbeats 1000000 in
theorem srl_some {w : World} {b o b' o' c d N : Nat} {la lb : List Rl} (hla : la.length = N) (hlb : lb.length = N) (h1 : N ≤ 4611686018427387904)
    (_hb : b < w.heap.size) (_hb' : b' < w.heap.size)
    (ha : ∀ j u, (rlsC la)[j]? = some u → w.cell? ⟨b, o + j, none⟩ = some u) (hc : ∀ j u, (rlsC lb)[j]? = some u → w.cell? ⟨b', o' + j, none⟩ = some u) (r : Bool) (hr : decide (la = lb) = r) :
    Calls Tryd.prog 45 #[.slice (some ⟨b, o, none⟩) N c, .slice (some ⟨b', o', none⟩) N d] w fun e w' => e = .returned (.bool r) ∧ w.grownBy w' none := by
  have Ha := hid ha
  have Hc := hid hc
  have Hla := hid hla
  have Hlb := hid hlb
  have Hr := hid hr
  clear ha hc hla hlb hr
  go_enter Tryd.func45, Tryd.ntmps45
  go_wp2
  go_loopw [5, 6] (fun i _ wr => ∃ k : Nat, k ≤ N ∧ i = .int .i64 k ∧ Hid (la.take k = lb.take k) ∧ Hid (w.grownBy wr none)) (fun i _ _ => N - (intOf i).toNat)
  case atStart => exact ⟨0, Nat.zero_le _, rfl, hid (by simp), hid (grown_refl _ _)⟩
  case round =>
    obtain ⟨k, hk, rfl, Hk, Hg⟩ := hrel
    by_cases hlt : k < N
    · obtain ⟨⟨x0, x1, x2, x3⟩, Hx⟩ : ∃ x, Hid (la[k]? = some x) := ⟨_, hid (List.getElem?_eq_getElem (by rw [Hla.out]; exact hlt))⟩
      obtain ⟨⟨y0, y1, y2, y3⟩, Hy⟩ : ∃ y, Hid (lb[k]? = some y) := ⟨_, hid (List.getElem?_eq_getElem (by rw [Hlb.out]; exact hlt))⟩
      have h4 := (RlAt.cells Ha.out Hx.out).kept0 Hg.out
      have ex0 := h4.c0
      have ex1 := h4.c1
      have ex2 := h4.c2
      have ex3 := h4.c3
      clear h4
      have h4 := (RlAt.cells Hc.out Hy.out).kept0 Hg.out
      have ey0 := h4.c0
      have ey1 := h4.c1
      have ey2 := h4.c2
      have ey3 := h4.c3
      clear h4
      have hk0 : (0 : Int) ≤ (k : Int) := by omega
      have hk1 : (k : Int) < (N : Int) := by omega
      by_cases hxy : (⟨x0, x1, x2, x3⟩ : Rl) = ⟨y0, y1, y2, y3⟩
      · have Hxy := hid hxy
        clear hxy
        go_wp2
        go_still_tail 8, (by kernel_rfl)
        change wpList _ _ _ _ _ wr.drew
        have Hg2 : Hid (w.grownBy wr.drew none) := hid (grown_drew Hg.out)
        generalize wr.drew = wd at Hg2 ⊢
        clear ex0 ex1 ex2 ex3 ey0 ey1 ey2 ey3
        go_wp2_with fail
        refine (srl1 ⟨x0, x1, x2, x3⟩ ⟨y0, y1, y2, y3⟩ true (by simpa using Hxy.out) _).mono ?_; rintro e w3 ⟨rfl, hg⟩
        have HG3 := hid (grown_trans Hg2.out hg)
        clear hg
        go_wp2
        go_roundw
        case rel =>
          refine ⟨k + 1, by omega, by go_num, hid ?_, HG3⟩
          rw [List.take_add_one, List.take_add_one, Hk.out, Hx.out, Hy.out, Hxy.out]
        case measure => simp [intOf]; omega
      · have Hxy := hid hxy
        clear hxy
        go_wp2
        go_still_tail 8, (by kernel_rfl)
        change wpList _ _ _ _ _ wr.drew
        have Hg2 : Hid (w.grownBy wr.drew none) := hid (grown_drew Hg.out)
        generalize wr.drew = wd at Hg2 ⊢
        clear ex0 ex1 ex2 ex3 ey0 ey1 ey2 ey3
        go_wp2_with fail
        refine (srl1 ⟨x0, x1, x2, x3⟩ ⟨y0, y1, y2, y3⟩ false (by simpa using Hxy.out) _).mono ?_; rintro e w3 ⟨rfl, hg⟩
        have HG3 := hid (grown_trans Hg2.out hg)
        clear hg
        go_wp2
        go_ret
        refine ⟨ret_b ?_, HG3.out⟩
        rw [← Hr.out, eq_comm, decide_eq_false_iff_not]
        intro e
        have e1 := Hx.out
        have e2 := Hy.out
        rw [e, e2] at e1
        exact Hxy.out (Option.some.inj e1).symm
    · go_wp2
      go_ret
      refine ⟨ret_b ?_, Hg.out⟩
      have hn : k = N := by omega
      have e := Hk.out
      rw [hn, List.take_of_length_le (by rw [Hla.out]; omega), List.take_of_length_le (by rw [Hlb.out]; omega)] at e
      rw [← Hr.out, e]
      simp
/-- two lists are told to be the same, just if they are -/
theorem srl_any {w : World} {va vb : Value} {la lb : List Rl} (ha : CsAt w va la.length (rlsC la)) (hb : CsAt w vb lb.length (rlsC lb)) (h1 : la.length ≤ 4611686018427387904) (r : Bool) (hr : decide (la = lb) = r) :
    Calls Tryd.prog 45 #[va, vb] w fun e w' => e = .returned (.bool r) ∧ w.grownBy w' none := by
  by_cases hl : la.length = lb.length
  · by_cases h0 : la.length = 0
    · obtain rfl := List.eq_nil_of_length_eq_zero h0
      obtain rfl := List.eq_nil_of_length_eq_zero (hl.symm.trans h0)
      obtain ⟨p, c, rfl⟩ := ha.len
      obtain ⟨q, d, rfl⟩ := hb.len
      subst hr
      exact srl_empty
    · obtain ⟨b, o, c, rfl, _, hbl, hc⟩ := ha.at_ (by omega)
      obtain ⟨b', o', d, rfl, _, hbl', hc'⟩ := hb.at_ (by omega)
      rw [← hl]
      exact srl_some rfl hl.symm h1 hbl hbl' hc hc' r hr
  · obtain ⟨p, c, rfl⟩ := ha.len
    obtain ⟨q, d, rfl⟩ := hb.len
    have : r = false := by rw [← hr, decide_eq_false_iff_not]; intro e; exact hl (by rw [e])
    subst this
    exact srl_parted hl

theorem ssy_parted {w : World} {p q : Option Addr} {c d n m : Nat} (h : n ≠ m) :
    Calls Tryd.prog 46 #[.slice p n c, .slice q m d] w fun e w' => e = .returned (.bool false) ∧ w.grownBy w' none := by
  have hz : ((n : Int) == (m : Int)) = false := by simp; omega
  have hz2 : (n == m) = false := by simpa using h
  have Hr := hid (grown_refl w none)
  go_enter Tryd.func46, Tryd.ntmps46
  go_wp2
  go_ret
  exact ⟨rfl, Hr.out⟩
theorem ssy_empty {w : World} {p q : Option Addr} {c d : Nat} :
    Calls Tryd.prog 46 #[.slice p 0 c, .slice q 0 d] w fun e w' => e = .returned (.bool true) ∧ w.grownBy w' none := by
  have Hr := hid (grown_refl w none)
  go_enter Tryd.func46, Tryd.ntmps46
  go_wp2
  go_loop [5] (fun i => i = .int .i64 0) (fun _ => 0)
  case atStart => rfl
  case round =>
    obtain rfl := hrel
    go_wp2
    go_ret
    exact ⟨rfl, Hr.out⟩
set_option maxRecDepth 100000 in
set_option maxHeartbeats 1000000 in
theorem ssy_some {w : World} {b o b' o' c d N : Nat} {la lb : List Sy} (hla : la.length = N) (hlb : lb.length = N) (h1 : N ≤ 4611686018427387904)
    (_hb : b < w.heap.size) (_hb' : b' < w.heap.size)
    (ha : ∀ j u, (sysC la)[j]? = some u → w.cell? ⟨b, o + j, none⟩ = some u) (hc : ∀ j u, (sysC lb)[j]? = some u → w.cell? ⟨b', o' + j, none⟩ = some u) (r : Bool) (hr : decide (la = lb) = r) :
    Calls Tryd.prog 46 #[.slice (some ⟨b, o, none⟩) N c, .slice (some ⟨b', o', none⟩) N d] w fun e w' => e = .returned (.bool r) ∧ w.grownBy w' none := by
  have Ha := hid ha
  have Hc := hid hc
  have Hla := hid hla
  have Hlb := hid hlb
  have Hr := hid hr
  clear ha hc hla hlb hr
  go_enter Tryd.func46, Tryd.ntmps46
  go_wp2
  go_loopw [5, 6] (fun i _ wr => ∃ k : Nat, k ≤ N ∧ i = .int .i64 k ∧ Hid (la.take k = lb.take k) ∧ Hid (w.grownBy wr none)) (fun i _ _ => N - (intOf i).toNat)
  case atStart => exact ⟨0, Nat.zero_le _, rfl, hid (by simp), hid (grown_refl _ _)⟩
  case round =>
    obtain ⟨k, hk, rfl, Hk, Hg⟩ := hrel
    by_cases hlt : k < N
    · obtain ⟨⟨x0, x1, x2, x3⟩, Hx⟩ : ∃ x, Hid (la[k]? = some x) := ⟨_, hid (List.getElem?_eq_getElem (by rw [Hla.out]; exact hlt))⟩
      obtain ⟨⟨y0, y1, y2, y3⟩, Hy⟩ : ∃ y, Hid (lb[k]? = some y) := ⟨_, hid (List.getElem?_eq_getElem (by rw [Hlb.out]; exact hlt))⟩
      have h4 := (SyAt.cells Ha.out Hx.out).kept0 Hg.out
      have ex0 := h4.c0
      have ex1 := h4.c1
      have ex2 := h4.c2
      have ex3 := h4.c3
      clear h4
      have h4 := (SyAt.cells Hc.out Hy.out).kept0 Hg.out
      have ey0 := h4.c0
      have ey1 := h4.c1
      have ey2 := h4.c2
      have ey3 := h4.c3
      clear h4
      have hk0 : (0 : Int) ≤ (k : Int) := by omega
      have hk1 : (k : Int) < (N : Int) := by omega
      by_cases hxy : (⟨x0, x1, x2, x3⟩ : Sy) = ⟨y0, y1, y2, y3⟩
      · have Hxy := hid hxy
        clear hxy
        go_wp2
        go_still_tail 8, (by kernel_rfl)
        change wpList _ _ _ _ _ wr.drew
        have Hg2 : Hid (w.grownBy wr.drew none) := hid (grown_drew Hg.out)
        generalize wr.drew = wd at Hg2 ⊢
        clear ex0 ex1 ex2 ex3 ey0 ey1 ey2 ey3
        go_wp2_with fail
        refine (ssy1 ⟨x0, x1, x2, x3⟩ ⟨y0, y1, y2, y3⟩ true (by simpa using Hxy.out) _).mono ?_; rintro e w3 ⟨rfl, hg⟩
        have HG3 := hid (grown_trans Hg2.out hg)
        clear hg
        go_wp2
        go_roundw
        case rel =>
          refine ⟨k + 1, by omega, by go_num, hid ?_, HG3⟩
          rw [List.take_add_one, List.take_add_one, Hk.out, Hx.out, Hy.out, Hxy.out]
        case measure => simp [intOf]; omega
      · have Hxy := hid hxy
        clear hxy
        go_wp2
        go_still_tail 8, (by kernel_rfl)
        change wpList _ _ _ _ _ wr.drew
        have Hg2 : Hid (w.grownBy wr.drew none) := hid (grown_drew Hg.out)
        generalize wr.drew = wd at Hg2 ⊢
        clear ex0 ex1 ex2 ex3 ey0 ey1 ey2 ey3
        go_wp2_with fail
        refine (ssy1 ⟨x0, x1, x2, x3⟩ ⟨y0, y1, y2, y3⟩ false (by simpa using Hxy.out) _).mono ?_; rintro e w3 ⟨rfl, hg⟩
        have HG3 := hid (grown_trans Hg2.out hg)
        clear hg
        go_wp2
        go_ret
        refine ⟨ret_b ?_, HG3.out⟩
        rw [← Hr.out, eq_comm, decide_eq_false_iff_not]
        intro e
        have e1 := Hx.out
        have e2 := Hy.out
        rw [e, e2] at e1
        exact Hxy.out (Option.some.inj e1).symm
    · go_wp2
      go_ret
      refine ⟨ret_b ?_, Hg.out⟩
      have hn : k = N := by omega
      have e := Hk.out
      rw [hn, List.take_of_length_le (by rw [Hla.out]; omega), List.take_of_length_le (by rw [Hlb.out]; omega)] at e
      rw [← Hr.out, e]
      simp
/-- two lists are told to be the same, just if they are -/
theorem ssy_any {w : World} {va vb : Value} {la lb : List Sy} (ha : CsAt w va la.length (sysC la)) (hb : CsAt w vb lb.length (sysC lb)) (h1 : la.length ≤ 4611686018427387904) (r : Bool) (hr : decide (la = lb) = r) :
    Calls Tryd.prog 46 #[va, vb] w fun e w' => e = .returned (.bool r) ∧ w.grownBy w' none := by
  by_cases hl : la.length = lb.length
  · by_cases h0 : la.length = 0
    · obtain rfl := List.eq_nil_of_length_eq_zero h0
      obtain rfl := List.eq_nil_of_length_eq_zero (hl.symm.trans h0)
      obtain ⟨p, c, rfl⟩ := ha.len
      obtain ⟨q, d, rfl⟩ := hb.len
      subst hr
      exact ssy_empty
    · obtain ⟨b, o, c, rfl, _, hbl, hc⟩ := ha.at_ (by omega)
      obtain ⟨b', o', d, rfl, _, hbl', hc'⟩ := hb.at_ (by omega)
      rw [← hl]
      exact ssy_some rfl hl.symm h1 hbl hbl' hc hc' r hr
  · obtain ⟨p, c, rfl⟩ := ha.len
    obtain ⟨q, d, rfl⟩ := hb.len
    have : r = false := by rw [← hr, decide_eq_false_iff_not]; intro e; exact hl (by rw [e])
    subst this
    exact ssy_parted hl


end Go.Proofs.YtgahbpfmiibpeaaDoor
