/- The document's own comparisons of lists, and a number below a bound: contracts. (Made by genSame.py.) -/
import Derived.Test.YtmhkghkfpkekbaaMem5
import Derived.LoopTactic
namespace Go.Proofs.Ytmhkghkfpkekbaa
open Go.RowKit
/-- a number from 0 to below a bound -/
def numB (n : Int) (k : Nat) : Nat := (n % (k : Int)).toNat
theorem numB_lt (n : Int) {k : Nat} (hk : 0 < k) : numB n k < k := by unfold numB; have := Int.emod_lt_of_pos n (show (0 : Int) < k by omega); have := Int.emod_nonneg n (show (k : Int) ≠ 0 by omega); omega
theorem number_up (n : Int) (k : Nat) (hk : 0 < k) (hk2 : (k : Int) ≤ 9223372036854775807) (h0 : 0 ≤ n) (h1 : n ≤ 9223372036854775807) (w : World) :
    Calls Try.prog 11 #[.int .i64 n, .int .i64 k] w fun e w' => e = .returned (.int .i64 (numB n k)) ∧ w = w' := by
  have hn : ((numB n k : Nat) : Int) = n % (k : Int) := by
    unfold numB
    have := Int.emod_nonneg n (show (k : Int) ≠ 0 by omega)
    omega
  have Hn := hid hn
  have hz : (0 : Int) < (k : Int) := by omega
  have hm := Int.emod_nonneg n (show (k : Int) ≠ 0 by omega)
  have hm2 := Int.emod_lt_of_pos n hz
  clear hn
  go_enter Try.func11, Try.ntmps11
  go_wp2
  go_ret
  exact ⟨ret_i Hn.out.symm, rfl⟩
theorem tmod_down {n : Int} {k : Nat} (hk : 0 < k) (h : n < 0) : -(k : Int) < n.tmod k ∧ n.tmod k ≤ 0 ∧ n % (k : Int) = if n.tmod k < 0 then n.tmod k + k else n.tmod k := by
  obtain ⟨a, rfl⟩ : ∃ a, n = -a := ⟨-n, by omega⟩
  have hz : (0 : Int) < (k : Int) := by omega
  have h1 := Int.emod_nonneg a (show (k : Int) ≠ 0 by omega)
  have h2 := Int.emod_lt_of_pos a hz
  have h3 := Int.mul_ediv_add_emod a k
  rw [Int.neg_tmod, Int.tmod_eq_emod_of_nonneg (by omega)]
  refine ⟨by omega, by omega, ?_⟩
  split
  · refine ((Int.ediv_emod_unique hz (q := -(a / k) - 1)).2 ⟨?_, by omega, by omega⟩).2
    rw [Int.mul_sub, Int.mul_neg]
    omega
  · refine ((Int.ediv_emod_unique hz (q := -(a / k))).2 ⟨?_, by omega, by omega⟩).2
    rw [Int.mul_neg]
    omega
theorem number_down (n : Int) (k : Nat) (hk : 0 < k) (hk2 : (k : Int) ≤ 9223372036854775807) (h0 : n < 0) (_h1 : -9223372036854775808 ≤ n) (w : World) :
    Calls Try.prog 11 #[.int .i64 n, .int .i64 k] w fun e w' => e = .returned (.int .i64 (numB n k)) ∧ w = w' := by
  have hn : ((numB n k : Nat) : Int) = n % (k : Int) := by
    unfold numB
    have := Int.emod_nonneg n (show (k : Int) ≠ 0 by omega)
    omega
  obtain ⟨t1, t2, ht⟩ := tmod_down hk h0
  rw [ht] at hn
  have Hn := hid hn
  have hz : (0 : Int) < (k : Int) := by omega
  clear hn ht
  by_cases hs : n.tmod k < 0
  · have Hs := hid hs
    go_enter Try.func11, Try.ntmps11
    go_wp2
    go_ret
    exact ⟨ret_i (by rw [Hn.out, if_pos Hs.out]), rfl⟩
  · have Hs := hid hs
    have hs2 : 0 ≤ n.tmod k := by omega
    clear hs
    go_enter Try.func11, Try.ntmps11
    go_wp2
    go_ret
    exact ⟨ret_i (by rw [Hn.out, if_neg (by omega)]), rfl⟩
theorem number_any (n : Int) (k : Nat) (hk : 0 < k) (hk2 : (k : Int) ≤ 9223372036854775807) (h0 : -9223372036854775808 ≤ n) (h1 : n ≤ 9223372036854775807) (w : World) :
    Calls Try.prog 11 #[.int .i64 n, .int .i64 k] w fun e w' => e = .returned (.int .i64 (numB n k)) ∧ w = w' := by
  by_cases h : 0 ≤ n
  · exact number_up n k hk hk2 h h1 w
  · exact number_down n k hk hk2 (by omega) h0 w


theorem si_parted {w : World} {p q : Option Addr} {c d : Nat} {la lb : List Int} (h : la.length ≠ lb.length) :
    Calls Try.prog 17 #[.slice p la.length c, .slice q lb.length d] w fun e w' => e = .returned (.bool false) ∧ w.grownBy w' none := by
  have hz : ((la.length : Int) == (lb.length : Int)) = false := by simp; omega
  have hz2 : (la.length == lb.length) = false := by simpa using h
  have Hr := hid (grown_refl w none)
  go_enter Try.func17, Try.ntmps17
  go_wp2
  go_ret
  exact ⟨rfl, Hr.out⟩
theorem si_empty {w : World} {p q : Option Addr} {c d : Nat} :
    Calls Try.prog 17 #[.slice p 0 c, .slice q 0 d] w fun e w' => e = .returned (.bool true) ∧ w.grownBy w' none := by
  have Hr := hid (grown_refl w none)
  go_enter Try.func17, Try.ntmps17
  go_wp2
  go_loop [5] (fun i => i = .int .i64 0) (fun _ => 0)
  case atStart => rfl
  case round =>
    obtain rfl := hrel
    go_wp2
    go_ret
    exact ⟨rfl, Hr.out⟩
set_option maxHeartbeats 1000000 in
theorem si_some {w : World} {b o b' o' c d N : Nat} {la lb : List Int} (hla : la.length = N) (hlb : lb.length = N) (h1 : N ≤ 4611686018427387904)
    (hb : b < w.heap.size) (hb' : b' < w.heap.size)
    (ha : ∀ j x, la[j]? = some x → w.cell? ⟨b, o + j, none⟩ = some (.int .i64 x)) (hc : ∀ j x, lb[j]? = some x → w.cell? ⟨b', o' + j, none⟩ = some (.int .i64 x)) (r : Bool) (hr : decide (la = lb) = r) :
    Calls Try.prog 17 #[.slice (some ⟨b, o, none⟩) N c, .slice (some ⟨b', o', none⟩) N d] w fun e w' => e = .returned (.bool r) ∧ w.grownBy w' none := by
  have Ha := hid ha
  have Hc := hid hc
  have Hla := hid hla
  have Hlb := hid hlb
  have Hr := hid hr
  clear ha hc hla hlb hr
  go_enter Try.func17, Try.ntmps17
  go_wp2
  go_loopw [5, 6] (fun i _ wr => ∃ k : Nat, k ≤ N ∧ i = .int .i64 k ∧ Hid (la.take k = lb.take k) ∧ Hid (w.grownBy wr none)) (fun i _ _ => N - (intOf i).toNat)
  case atStart => exact ⟨0, Nat.zero_le _, rfl, hid (by simp), hid (grown_refl _ _)⟩
  case round =>
    obtain ⟨k, hk, rfl, Hk, Hg⟩ := hrel
    by_cases hlt : k < N
    · obtain ⟨x, Hx⟩ : ∃ x, Hid (la[k]? = some x) := ⟨_, hid (List.getElem?_eq_getElem (by rw [Hla.out]; exact hlt))⟩
      obtain ⟨y, Hy⟩ : ∃ y, Hid (lb[k]? = some y) := ⟨_, hid (List.getElem?_eq_getElem (by rw [Hlb.out]; exact hlt))⟩
      have cx := (grown_cell (p := ⟨b, o + k, none⟩) Hg.out hb (by simp)).trans (Ha.out k x Hx.out)
      have cy := (grown_cell (p := ⟨b', o' + k, none⟩) Hg.out hb' (by simp)).trans (Hc.out k y Hy.out)
      have hk0 : (0 : Int) ≤ (k : Int) := by omega
      have hk1 : (k : Int) < (N : Int) := by omega
      by_cases hxy : x = y
      · subst hxy
        go_wp2
        go_quiet (fail)
        go_wp2
        go_roundw
        case rel =>
          refine ⟨k + 1, by omega, by go_num, hid ?_, hid (grown_drewN Hg.out _)⟩
          rw [List.take_add_one, List.take_add_one, Hk.out, Hx.out, Hy.out]
        case measure => simp [intOf]; omega
      · have hxy2 : (x == y) = false := by simpa using hxy
        go_wp2
        go_quiet (fail)
        go_wp2
        go_ret
        refine ⟨ret_b ?_, grown_drewN Hg.out _⟩
        rw [← Hr.out, eq_comm, decide_eq_false_iff_not]
        intro e
        have e1 := Hx.out
        have e2 := Hy.out
        rw [e, e2] at e1
        exact hxy (Option.some.inj e1).symm
    · go_wp2
      go_ret
      refine ⟨ret_b ?_, Hg.out⟩
      have hn : k = N := by omega
      have e := Hk.out
      rw [hn, List.take_of_length_le (by rw [Hla.out]; omega), List.take_of_length_le (by rw [Hlb.out]; omega)] at e
      rw [← Hr.out, e]
      simp
/-- two lists are told to be the same, just if they are -/
theorem si_any {w : World} {va vb : Value} {la lb : List Int} (ha : SlAt w .i64 va la) (hb : SlAt w .i64 vb lb) (h1 : la.length ≤ 4611686018427387904) (_h2 : lb.length ≤ 4611686018427387904) (r : Bool) (hr : decide (la = lb) = r) :
    Calls Try.prog 17 #[va, vb] w fun e w' => e = .returned (.bool r) ∧ w.grownBy w' none := by
  by_cases hl : la.length = lb.length
  · by_cases h0 : la.length = 0
    · obtain rfl := List.eq_nil_of_length_eq_zero h0
      obtain rfl := List.eq_nil_of_length_eq_zero (hl.symm.trans h0)
      obtain ⟨p, c, rfl⟩ := ha.len
      obtain ⟨q, d, rfl⟩ := hb.len
      subst hr
      exact si_empty
    · rcases ha with ⟨_, rfl⟩ | ⟨b, o, c, rfl, hbl, hc⟩
      · simp at h0
      · rcases hb with ⟨_, rfl⟩ | ⟨b', o', d, rfl, hbl', hc'⟩
        · simp at hl; simp [hl] at h0
        · rw [← hl]
          exact si_some rfl hl.symm h1 hbl hbl' hc hc' r hr
  · obtain ⟨p, c, rfl⟩ := ha.len
    obtain ⟨q, d, rfl⟩ := hb.len
    have : r = false := by rw [← hr, decide_eq_false_iff_not]; intro e; exact hl (by rw [e])
    subst this
    exact si_parted hl
end Go.Proofs.Ytmhkghkfpkekbaa
