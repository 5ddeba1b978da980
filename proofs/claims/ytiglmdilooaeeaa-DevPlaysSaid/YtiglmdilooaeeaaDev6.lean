/- The document's own comparison of what is seen: contracts. -/
import Derived.Test.YtiglmdilooaeeaaDev5
namespace Go.Proofs.Ytiglmdilooaeeaa
open Go.RowKit
theorem seen1_any (a b : Sn) (r : Bool) (hr : decide (a = b) = r) (w : World) :
    Calls Try.prog 35 #[.agg #[.int .i64 a.1, .int .u32 a.2.1, .int .u32 a.2.2], .agg #[.int .i64 b.1, .int .u32 b.2.1, .int .u32 b.2.2]] w fun e w' => e = .returned (.bool r) ∧ w.grownBy w' none := by
  obtain ⟨k, x, y⟩ := a
  obtain ⟨k', x', y'⟩ := b
  have Hg := hid (grown_alloc (grown_alloc (grown_refl w none) (.cells #[.int .i64 k, .int .u32 x, .int .u32 y] 43)) (.cells #[.int .i64 k', .int .u32 x', .int .u32 y'] 43))
  have Hr := hid hr
  clear hr
  by_cases h1 : k = k'
  · subst h1
    by_cases h2 : x = x'
    · subst h2
      obtain ⟨q, hq⟩ : ∃ q, (y == y') = q := ⟨_, rfl⟩
      go_enter Try.func35, Try.ntmps35
      go_wp2
      go_ret
      exact ⟨ret_b (by rw [← Hr.out, ← hq]; simp [Bool.beq_eq_decide_eq]), Hg.out⟩
    · have hx : (x == x') = false := by simpa using h2
      go_enter Try.func35, Try.ntmps35
      go_wp2
      go_ret
      exact ⟨ret_b (by rw [← Hr.out]; simp [h2]), Hg.out⟩
  · have hx : (k == k') = false := by simpa using h1
    go_enter Try.func35, Try.ntmps35
    go_wp2
    go_ret
    exact ⟨ret_b (by rw [← Hr.out]; simp [h1]), Hg.out⟩
theorem ss_parted {w : World} {p q : Option Addr} {c d : Nat} {la lb : List Sn} (h : la.length ≠ lb.length) :
    Calls Try.prog 20 #[.slice p la.length c, .slice q lb.length d] w fun e w' => e = .returned (.bool false) ∧ w.grownBy w' none := by
  have hz : ((la.length : Int) == (lb.length : Int)) = false := by simp; omega
  have hz2 : (la.length == lb.length) = false := by simpa using h
  have Hr := hid (grown_refl w none)
  go_enter Try.func20, Try.ntmps20
  go_wp2
  go_ret
  exact ⟨rfl, Hr.out⟩
theorem ss_empty {w : World} {p q : Option Addr} {c d : Nat} :
    Calls Try.prog 20 #[.slice p 0 c, .slice q 0 d] w fun e w' => e = .returned (.bool true) ∧ w.grownBy w' none := by
  have Hr := hid (grown_refl w none)
  go_enter Try.func20, Try.ntmps20
  go_wp2
  go_loop [5] (fun i => i = .int .i64 0) (fun _ => 0)
  case atStart => rfl
  case round =>
    obtain rfl := hrel
    go_wp2
    go_ret
    exact ⟨rfl, Hr.out⟩
/-- the cells of one that is seen -/
theorem sn_cells {w wr : World} {b : Nat} {l : List Sn} {k : Nat} {s : Sn} (hb : b < w.heap.size) (hc : ∀ j u, (snCells l)[j]? = some u → w.cell? ⟨b, j, none⟩ = some u) (hg : w.grownBy wr none) (hs : l[k]? = some s) :
    wr.cell? ⟨b, k * 3, none⟩ = some (.int .i64 s.1) ∧ wr.cell? ⟨b, k * 3 + 1, none⟩ = some (.int .u32 s.2.1) ∧ wr.cell? ⟨b, k * 3 + 2, none⟩ = some (.int .u32 s.2.2) := by
  obtain ⟨h1, h2, h3⟩ := snCells_get l k s hs
  exact ⟨(grown_cell (p := ⟨b, k * 3, none⟩) hg hb (by simp)).trans (hc _ _ h1), (grown_cell (p := ⟨b, k * 3 + 1, none⟩) hg hb (by simp)).trans (hc _ _ h2), (grown_cell (p := ⟨b, k * 3 + 2, none⟩) hg hb (by simp)).trans (hc _ _ h3)⟩
set_option maxHeartbeats 1000000 in
theorem ss_some {w : World} {b b' c d N : Nat} {la lb : List Sn} (hla : la.length = N) (hlb : lb.length = N) (h1 : N ≤ 1000000)
    (hb : b < w.heap.size) (hb' : b' < w.heap.size)
    (ha : ∀ j u, (snCells la)[j]? = some u → w.cell? ⟨b, j, none⟩ = some u) (hc : ∀ j u, (snCells lb)[j]? = some u → w.cell? ⟨b', j, none⟩ = some u) (r : Bool) (hr : decide (la = lb) = r) :
    Calls Try.prog 20 #[.slice (some ⟨b, 0, none⟩) N c, .slice (some ⟨b', 0, none⟩) N d] w fun e w' => e = .returned (.bool r) ∧ w.grownBy w' none := by
  have Ha := hid ha
  have Hc := hid hc
  have Hla := hid hla
  have Hlb := hid hlb
  have Hr := hid hr
  clear ha hc hla hlb hr
  go_enter Try.func20, Try.ntmps20
  go_wp2
  go_loopw [5, 6] (fun i _ wr => ∃ k : Nat, k ≤ N ∧ i = .int .i64 k ∧ Hid (la.take k = lb.take k) ∧ Hid (w.grownBy wr none)) (fun i _ _ => N - (intOf i).toNat)
  case atStart => exact ⟨0, Nat.zero_le _, rfl, hid (by simp), hid (grown_refl _ _)⟩
  case round =>
    obtain ⟨k, hk, rfl, Hk, Hg⟩ := hrel
    by_cases hlt : k < N
    · obtain ⟨x, Hx⟩ : ∃ x, Hid (la[k]? = some x) := ⟨_, hid (List.getElem?_eq_getElem (by rw [Hla.out]; exact hlt))⟩
      obtain ⟨y, Hy⟩ : ∃ y, Hid (lb[k]? = some y) := ⟨_, hid (List.getElem?_eq_getElem (by rw [Hlb.out]; exact hlt))⟩
      obtain ⟨cx1, cx2, cx3⟩ := sn_cells hb Ha.out Hg.out Hx.out
      obtain ⟨cy1, cy2, cy3⟩ := sn_cells hb' Hc.out Hg.out Hy.out
      have hk0 : (0 : Int) ≤ (k : Int) := by omega
      have hk1 : (k : Int) < (N : Int) := by omega
      go_wp2
      go_still_tail 8, (by kernel_rfl)
      change wpList _ _ _ _ _ wr.drew
      have Hg2 : Hid (w.grownBy wr.drew none) := hid (grown_drew Hg.out)
      generalize wr.drew = wd at Hg2 ⊢
      clear cx1 cx2 cx3 cy1 cy2 cy3
      by_cases hxy : x = y
      · have Hxy := hid hxy
        clear hxy
        go_wp2_with fail
        refine (seen1_any x y true (by simpa using Hxy.out) _).mono ?_; rintro e w3 ⟨rfl, hg⟩
        have HG3 := hid (grown_trans Hg2.out hg)
        clear hg
        go_wp2
        go_roundw
        case rel =>
          refine ⟨k + 1, by omega, by go_num, hid ?_, HG3⟩
          rw [List.take_add_one, List.take_add_one, Hk.out, Hx.out, Hy.out, Hxy.out]
        case measure => simp [intOf]; omega
      · have Hxy := hid hxy
        clear hxy
        go_wp2_with fail
        refine (seen1_any x y false (by simpa using Hxy.out) _).mono ?_; rintro e w3 ⟨rfl, hg⟩
        have HG3 := hid (grown_trans Hg2.out hg)
        clear hg
        go_wp2
        go_ret
        refine ⟨ret_b ?_, HG3.out⟩
        rw [← Hr.out, eq_comm, decide_eq_false_iff_not]
        intro e
        have e1 := Hx.out
        have e2 := Hy.out
        rw [e, e2] at e1
        exact Hxy.out (Option.some.inj e1).symm
    · go_wp2
      go_ret
      refine ⟨ret_b ?_, Hg.out⟩
      have hn : k = N := by omega
      have e := Hk.out
      rw [hn, List.take_of_length_le (by rw [Hla.out]; omega), List.take_of_length_le (by rw [Hlb.out]; omega)] at e
      rw [← Hr.out, e]
      simp
/-- two lists of what is seen are told to be the same, just if they are -/
theorem ss_any {w : World} {va vb : Value} {la lb : List Sn} (ha : SnAt w va la) (hb : SnAt w vb lb) (h1 : la.length ≤ 1000000) (r : Bool) (hr : decide (la = lb) = r) :
    Calls Try.prog 20 #[va, vb] w fun e w' => e = .returned (.bool r) ∧ w.grownBy w' none := by
  by_cases hl : la.length = lb.length
  · by_cases h0 : la.length = 0
    · obtain rfl := List.eq_nil_of_length_eq_zero h0
      obtain rfl := List.eq_nil_of_length_eq_zero (hl.symm.trans h0)
      obtain ⟨p, c, rfl⟩ := ha.len
      obtain ⟨q, d, rfl⟩ := hb.len
      subst hr
      exact ss_empty
    · rcases ha with ⟨_, rfl⟩ | ⟨b, c, rfl, hbl, hc⟩
      · simp at h0
      · rcases hb with ⟨_, rfl⟩ | ⟨b', d, rfl, hbl', hc'⟩
        · simp at hl; simp [hl] at h0
        · rw [← hl]
          exact ss_some rfl hl.symm h1 hbl hbl' hc hc' r hr
  · obtain ⟨p, c, rfl⟩ := ha.len
    obtain ⟨q, d, rfl⟩ := hb.len
    have : r = false := by rw [← hr, decide_eq_false_iff_not]; intro e; exact hl (by rw [e])
    subst this
    exact ss_parted hl
end Go.Proofs.Ytiglmdilooaeeaa
