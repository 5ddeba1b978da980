/- Package relax: between, near, hasPlace: contracts. -/
import Derived.Test.YtmhkghkfpkekbaaRel1
import Derived.LoopTactic
namespace Go.Proofs.Ytmhkghkfpkekbaa
open Go.RowKit
structure BtQ (w1 w : World) (G : Nat) (z : Int) : Prop where
  b : RwAt w G 50 #[.int .u64 (smH z), .int .u64 (smL z)]
  g : w1.grownBy w none
theorem BtQ.kept0 {w1 w w' : World} {G : Nat} {z : Int} (h : BtQ w1 w G z) (hg : w.grownBy w' none) : BtQ w1 w' G z := ⟨h.b.kept0 hg, grown_trans h.g hg⟩
set_option maxRecDepth 100000 in
set_option maxHeartbeats 2000000 in
theorem between_low {z : Int} (h0 : -1073741824 ≤ z) (hz : z < -128) (W : World) :
    Calls Try.prog 30 #[smV z, .int .i64 (-128), .int .i64 127] W fun e w' => e = .returned (.bool false) ∧ W.grownBy w' none := by
  have HS1 := hid (fun w => sumOf_any (n := -128) (by decide) (by decide) w)
  have hm1 := fun w => minus_any (z := z) (n := -128) (by omega) (by omega) (by decide) (by decide) w
  rw [show z - -128 = z + 128 by omega] at hm1
  have HM1 := hid hm1
  clear hm1
  have HN1 := hid (fun w => negative_any (z := z + 128) w)
  have d1 : decide (z + 128 < 0) = true := by simp; omega
  rw [d1] at HN1
  clear d1
  have HB := hid (RwAt.new W 50 #[.int .u64 (smH z), .int .u64 (smL z)])
  have HG := hid (World.grownBy_alloc W (.cells #[.int .u64 (smH z), .int .u64 (smL z)] 50) none)
  clear h0 hz
  go_enter Try.func30, Try.ntmps30
  go_upto_region 1 with (fail)
  obtain ⟨G, hG⟩ : ∃ G, W.heap.size = G := ⟨_, rfl⟩
  rw [hG] at HB ⊢
  clear hG
  generalize W.alloc (.cells #[.int .u64 (smH z), .int .u64 (smL z)] 50) = w1 at HB HG ⊢
  have hq : BtQ w1 w1.drew G z := ⟨HB.out.kept0 (grown_drew (grown_refl _ _)), grown_drew (grown_refl _ _)⟩
  have k0 := hq.b.cell 0 (v := .int .u64 (smH z)) rfl
  have k1 := hq.b.cell 1 (v := .int .u64 (smL z)) rfl
  first
  | (
      go_region_law (first
        | (go_simp
           go_at_call 31
           refine (HS1.out _).mono ?_
           rintro e w5 ⟨rfl, hg⟩
           have hq := BtQ.kept0 (by assumption) hg
           have k0 := hq.b.cell 0 (v := .int .u64 (smH z)) rfl
           have k1 := hq.b.cell 1 (v := .int .u64 (smL z)) rfl
           clear hg)
        | (go_simp
           go_at_call 29
           refine (HM1.out _).mono ?_
           rintro e w5 ⟨rfl, hg⟩
           have hq := BtQ.kept0 (by assumption) hg
           clear hg)
        | (go_simp
           go_at_call 34
           refine (HN1.out _).mono ?_
           rintro e w5 ⟨rfl, hg⟩
           have hq := BtQ.kept0 (by assumption) hg
           clear hg)
        | fail))
  | fail
  all_goals
    go_wp2
    go_ret
    exact ⟨rfl, grown_trans HG.out (BtQ.g (G := G) (z := z) (by assumption))⟩
set_option maxRecDepth 100000 in
set_option maxHeartbeats 2000000 in
theorem between_high {z : Int} {t : Bool} (h1 : z ≤ 1073741824) (hz : -128 ≤ z) (ht : decide (127 - z < 0) = t) (W : World) :
    Calls Try.prog 30 #[smV z, .int .i64 (-128), .int .i64 127] W fun e w' => e = .returned (.bool (!t)) ∧ W.grownBy w' none := by
  have HS1 := hid (fun w => sumOf_any (n := -128) (by decide) (by decide) w)
  have HS2 := hid (fun w => sumOf_any (n := 127) (by decide) (by decide) w)
  have hm1 := fun w => minus_any (z := z) (n := -128) (by omega) (by omega) (by decide) (by decide) w
  rw [show z - -128 = z + 128 by omega] at hm1
  have HM1 := hid hm1
  clear hm1
  have HM2 := hid (fun w => minus_any (z := 127) (n := z) (by decide) (by decide) (by omega) (by omega) w)
  have HN1 := hid (fun w => negative_any (z := z + 128) w)
  have HN2 := hid (fun w => negative_any (z := 127 - z) w)
  have d1 : decide (z + 128 < 0) = false := by simp; omega
  rw [d1] at HN1
  rw [ht] at HN2
  clear d1 ht
  have HB := hid (RwAt.new W 50 #[.int .u64 (smH z), .int .u64 (smL z)])
  have HG := hid (World.grownBy_alloc W (.cells #[.int .u64 (smH z), .int .u64 (smL z)] 50) none)
  clear h1 hz
  go_enter Try.func30, Try.ntmps30
  go_upto_region 1 with (fail)
  obtain ⟨G, hG⟩ : ∃ G, W.heap.size = G := ⟨_, rfl⟩
  rw [hG] at HB ⊢
  clear hG
  generalize W.alloc (.cells #[.int .u64 (smH z), .int .u64 (smL z)] 50) = w1 at HB HG ⊢
  have Hl := hid HB.out.lt
  have HD := hid (grown_drew (grown_refl w1 none))
  have k0 : w1.drew.cell? ⟨G, 0, none⟩ = some (.int .u64 (smH z)) := (grown_cell HD.out Hl.out (by simp)).trans (HB.out.cell 0 rfl)
  have k1 : w1.drew.cell? ⟨G, 1, none⟩ = some (.int .u64 (smL z)) := (grown_cell HD.out Hl.out (by simp)).trans (HB.out.cell 1 rfl)
  go_region_held3 (fun W' => W'.cell? ⟨G, 0, none⟩ = some (.int .u64 (smH z)) ∧ W'.cell? ⟨G, 1, none⟩ = some (.int .u64 (smL z)) ∧ w1.drew.grownBy W' none)
    (first | (with_reducible exact ⟨k0, k1, grown_refl _ _⟩) | (go_split_ands; have hgr := grown_trans (w := w1.drew) (r := none) (by assumption) hcb; exact ⟨(grown_cell (grown_trans HD.out hgr) Hl.out (by simp)).trans (HB.out.cell 0 rfl), (grown_cell (grown_trans HD.out hgr) Hl.out (by simp)).trans (HB.out.cell 1 rfl), hgr⟩))
    (first
      | (go_split_ands; go_at_call 31; (first | (with_reducible refine (HS1.out _).mono ?_) | (with_reducible refine (HS2.out _).mono ?_)); rintro e w' ⟨rfl, hcb⟩)
      | (go_split_ands; go_at_call 29; (first | (with_reducible refine (HM1.out _).mono ?_) | (with_reducible refine (HM2.out _).mono ?_)); rintro e w' ⟨rfl, hcb⟩)
      | (go_split_ands; go_at_call 34; (first | (with_reducible refine (HN1.out _).mono ?_) | (with_reducible refine (HN2.out _).mono ?_)); rintro e w' ⟨rfl, hcb⟩))
  go_split_ands
  go_wp2
  go_ret
  exact ⟨rfl, grown_trans HG.out (grown_trans HD.out (by assumption))⟩
theorem between_any {z : Int} (h0 : -1073741824 ≤ z) (h1 : z ≤ 1073741824) (W : World) :
    Calls Try.prog 30 #[smV z, .int .i64 (-128), .int .i64 127] W fun e w' => e = .returned (.bool (nearR z)) ∧ W.grownBy w' none := by
  by_cases hz : z < -128
  · have : nearR z = false := by simp [nearR]; omega
    rw [this]
    exact between_low h0 hz W
  · have : nearR z = !(decide (127 - z < 0)) := by
      unfold nearR
      rw [show decide (-128 ≤ z) = true by simp; omega, Bool.true_and, ← decide_not]
      exact decide_eq_decide.2 (by omega)
    rw [this]
    exact between_high h1 (by omega) rfl W
set_option maxRecDepth 100000 in
theorem near_any {a b : Int} (h0 : 0 ≤ a) (h1 : a ≤ 1073741824) (h2 : 0 ≤ b) (h3 : b ≤ 1073741824) (W : World) :
    Calls Try.prog 27 #[smV a, smV b] W fun e w' => e = .returned (.bool (nearR (b - a))) ∧ W.grownBy w' none := by
  have HM := hid (fun w => minus_any (z := b) (n := a) (by omega) (by omega) (by omega) (by omega) w)
  have HN := hid (fun w => between_any (z := b - a) (by omega) (by omega) w)
  have HA := hid ((RwAt.new W 50 #[.int .u64 (smH a), .int .u64 (smL a)]).alloc (.cells #[.int .u64 (smH b), .int .u64 (smL b)] 50))
  have HB := hid (RwAt.new2 W (.cells #[.int .u64 (smH a), .int .u64 (smL a)] 50) 50 #[.int .u64 (smH b), .int .u64 (smL b)])
  have HG := hid (grown_alloc (World.grownBy_alloc W (.cells #[.int .u64 (smH a), .int .u64 (smL a)] 50) none) (.cells #[.int .u64 (smH b), .int .u64 (smL b)] 50))
  clear h0 h1 h2 h3
  go_enter Try.func27, Try.ntmps27
  go_upto_region 1 with (fail)
  obtain ⟨G, hG⟩ : ∃ G, W.heap.size = G := ⟨_, rfl⟩
  rw [hG] at HA HB ⊢
  clear hG
  generalize ((W.alloc (.cells #[.int .u64 (smH a), .int .u64 (smL a)] 50)).alloc (.cells #[.int .u64 (smH b), .int .u64 (smL b)] 50)) = w1 at HA HB HG ⊢
  have a0 := HA.out.cell 0 (v := .int .u64 (smH a)) rfl
  have a1 := HA.out.cell 1 (v := .int .u64 (smL a)) rfl
  have b0 := HB.out.cell 0 (v := .int .u64 (smH b)) rfl
  have b1 := HB.out.cell 1 (v := .int .u64 (smL b)) rfl
  go_wp2_with fail
  refine (HM.out _).mono ?_
  rintro e w2 ⟨rfl, hg⟩
  have HG2 := hid (grown_trans HG.out hg)
  clear hg
  go_wp2_with fail
  refine (HN.out _).mono ?_
  rintro e w3 ⟨rfl, hg⟩
  have HG3 := hid (grown_trans HG2.out hg)
  clear hg
  go_wp2
  go_ret
  exact ⟨rfl, HG3.out⟩
set_option maxRecDepth 100000 in
theorem hasPlace_any {p : Option Addr} {n c : Nat} {t : Int} (_hn : n ≤ 1000000) (W : World) :
    Calls Try.prog 26 #[.slice p n c, .int .i64 t] W fun e w' => e = .returned (.bool (decide (0 ≤ t ∧ t ≤ (n : Int)))) ∧ W.grownBy w' none := by
  have Hr := hid (grown_refl W none)
  by_cases h0 : 0 ≤ t
  · have e1 : decide (0 ≤ t ∧ t ≤ (n : Int)) = decide (t ≤ (n : Int)) := by simp [h0]
    rw [e1]
    clear e1
    by_cases h1 : t ≤ (n : Int)
    · have d : decide (t ≤ (n : Int)) = true := by simpa using h1
      rw [d]
      clear d
      go_enter Try.func26, Try.ntmps26
      go_wp2
      go_ret
      exact ⟨rfl, Hr.out⟩
    · have d : decide (t ≤ (n : Int)) = false := by simpa using h1
      rw [d]
      clear d
      go_enter Try.func26, Try.ntmps26
      go_wp2
      go_ret
      exact ⟨rfl, Hr.out⟩
  · have d : decide (0 ≤ t ∧ t ≤ (n : Int)) = false := by simp; omega
    rw [d]
    clear d
    go_enter Try.func26, Try.ntmps26
    go_wp2
    go_ret
    exact ⟨rfl, Hr.out⟩
end Go.Proofs.Ytmhkghkfpkekbaa
