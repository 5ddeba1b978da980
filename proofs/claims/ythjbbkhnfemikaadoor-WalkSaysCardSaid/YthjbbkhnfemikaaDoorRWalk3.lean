/- The document's own Page where both levels have an entry; Page: contracts. -/
import Derived.Test.YthjbbkhnfemikaaDoorRWalk2
namespace Go.Proofs.YthjbbkhnfemikaaDoor
open Go.RowKit
section
variable {m b n N : Nat} {xs : List Int} {W : World}
set_option maxRecDepth 100000 in
set_option maxHeartbeats 4000000 in
theorem rpage_yes (h : RefAt W m b N xs) (hN : N = n * 16) (hn2 : n ≤ 1024) (R P G : Nat) (hR : R < n) (hP : P < 256) (v : Int) (hv : xs[R * 16 + P / 16]? = some v) (v0 : 0 ≤ v) (v1 : v < 4294967296) (hd : liveB v = true) (hG : v / 256 = (G : Int)) (hn : G < n)
    (y : Int) (hy : xs[G * 16 + P % 16]? = some y) (y0 : 0 ≤ y) (y1 : y < 4294967296) (F : Int) (T X U : Bool) (hF : oF (liveO y) = F) (hT : oT (liveO y) = T) (hX : oW (liveO y) = X) (hU : oU (liveO y) = U) :
    Calls Tryd.prog 17 #[.pointer (some ⟨m, 0, none⟩), .int .i64 R, .int .i64 P] W fun e w' => e = .returned (.tuple #[.agg #[.int .i64 F, .bool T, .bool X, .bool U], .bool T]) ∧ W.grownBy w' none := by
  have H := hid (h.kept0 (World.grownBy_alloc W (.cells #[.int .i64 0, .bool false, .bool false, .bool false] 32) none))
  have Hr := hid (grown_refl W none)
  have HN := hid hN
  have Hv := hid hv
  have Hd := hid (liveO_yes hd)
  have Ht := hid (tB_live hd)
  have Ho := hid (of_live hd)
  have h2 : ¬ (P : Int) < 0 := by omega
  have h3 : (P : Int) < 256 := by omega
  have h4 : ¬ (R : Int) < 0 := by omega
  have h5 : (R : Int) < (n : Int) := by omega
  have h6 : R < 1024 := by omega
  have hlp := live_parts v
  rw [Hd.out] at hlp
  obtain ⟨X', hX'⟩ : ∃ X, wB v = X := ⟨_, rfl⟩
  obtain ⟨U', hU'⟩ : ∃ U, uB v = U := ⟨_, rfl⟩
  have Hp : Hid (oF (ofO v) = (G : Int) ∧ oT (ofO v) = true ∧ oW (ofO v) = X' ∧ oU (ofO v) = U') := hid ⟨hlp.1.trans hG, hlp.2.1.trans Ht.out, hlp.2.2.1.trans hX', hlp.2.2.2.trans hU'⟩
  have hF2 : ¬ (G : Int) ≥ (n : Int) := by omega
  have hg6 : G < 1024 := by omega
  have Hy := hid hy
  have hly := live_parts y
  rw [hF, hT, hX, hU] at hly
  have Hl := hid hly
  obtain ⟨C, HC⟩ : ∃ C, Hid (ofB y = C) := ⟨_, hid rfl⟩
  have Hz : Hid (T = false → F = 0 ∧ X = false ∧ U = false) := hid (by
    intro ht
    have hd2 : liveB y = false := by
      cases hl : liveB y
      · rfl
      · rw [liveO_yes hl] at hT
        rw [← hT] at ht
        exact absurd (tB_live hl) (by rw [show tB y = false from ht]; simp)
    rw [liveO_no hd2] at hF hX hU
    exact ⟨hF.symm, hX.symm, hU.symm⟩)
  have Hc : Hid (T = true → C = true) := hid (by
    intro ht
    have hl : liveB y = true := by
      cases hl : liveB y
      · rw [liveO_no hl, ht] at hT; cases hT
      · rfl
    rw [← HC.out]
    exact of_live hl)
  clear h hN hv hd hlp hG hX' hU' hn hy hly hF hT hX hU
  have way : (T = true ∧ C = true) ∨ (C = false ∧ T = false ∧ F = 0 ∧ X = false ∧ U = false) ∨ (C = true ∧ T = false ∧ F = 0 ∧ X = false ∧ U = false) := by
    cases hT : T
    · obtain ⟨a, b, c⟩ := Hz.out hT
      cases hC : C
      · exact .inr (.inl ⟨rfl, rfl, a, b, c⟩)
      · exact .inr (.inr ⟨rfl, rfl, a, b, c⟩)
    · exact .inl ⟨rfl, Hc.out hT⟩
  clear Hz Hc
  go_enter Tryd.func17, Tryd.ntmps17
  go_wp2_with fail
  refine (rframes_any H.out HN.out).mono ?_; rintro e w' ⟨rfl, rfl⟩
  go_wp2_with fail
  refine (rread_of H.out _ (R * 16 + P / 16) v (by omega) Hv.out).mono ?_; rintro e w' ⟨rfl, rfl⟩
  go_wp2_with fail
  refine (rof_of v (G : Int) true X' U' true v0 v1 Hp.out.1 Hp.out.2.1 Hp.out.2.2.1 Hp.out.2.2.2 Ho.out _).mono ?_; rintro e W1 ⟨rfl, hg⟩
  have HG := hid (grown_trans (grown_alloc Hr.out _) hg)
  have H1 := hid ((H.out.kept0 hg).kept0 (World.grownBy_alloc W1 (.cells #[.int .i64 (G : Int), .bool true, .bool X', .bool U'] 32) none))
  have E1 := hid ((EntAt.new W 0 false false false).kept0 hg)
  clear hg H
  obtain ⟨k0, k1, k2, k3, kf, kl⟩ := E1.out.all
  go_wp2
  go_quiet ((first | (go_at_call 27; with_reducible exact (rframes_quiet H1.out HN.out _))))
  have H2 : ∀ k, Hid (RefAt ((W1.alloc (.cells #[.int .i64 (G : Int), .bool true, .bool X', .bool U'] 32)).drewN k) m b N xs) := fun k => hid (H1.out.kept0 (grown_drewN (grown_refl _ none) k))
  go_wp2_with fail
  refine (rread_of (H2 _).out _ (G * 16 + P % 16) y (by omega) Hy.out).mono ?_; rintro e w' ⟨rfl, rfl⟩
  go_wp2_with fail
  refine (rof_of y F T X U C y0 y1 Hl.out.1 Hl.out.2.1 Hl.out.2.2.1 Hl.out.2.2.2 HC.out _).mono ?_; rintro e W2 ⟨rfl, hg⟩
  have HG2 := hid (grown_trans (grown_drewN (grown_alloc HG.out _) _) hg)
  have E2 := hid (((E1.out.alloc _).kept0 (grown_drewN (grown_refl _ none) _)).kept0 hg)
  clear hg
  obtain ⟨m0, m1, m2, m3, mf, ml⟩ := E2.out.all
  rcases way with ⟨rfl, rfl⟩ | ⟨rfl, rfl, rfl, rfl, rfl⟩ | ⟨rfl, rfl, rfl, rfl, rfl⟩
  · go_wp2
    refine bodyPost_ret (v := .tuple #[.agg #[.int .i64 F, .bool true, .bool X, .bool U], .bool true]) (by simp [results, Tryd.results17, m0, m1, m2, m3, ml, Nat.ne_of_lt ml, go_sem]) rfl ?_
    exact ⟨rfl, grown_new (b := W.heap.size) (by (repeat (first | apply grown_drewN | apply grown_drew | apply grown_alloc | apply grown_setCell)); exact grown_none HG2.out) (Nat.le_refl _)⟩
  all_goals
    go_wp2
    refine bodyPost_ret (v := .tuple #[.agg #[.int .i64 0, .bool false, .bool false, .bool false], .bool false]) (by simp [results, Tryd.results17, m0, m1, m2, m3, ml, Nat.ne_of_lt ml, go_sem]) rfl ?_
    exact ⟨rfl, grown_new (b := W.heap.size) (by (repeat (first | apply grown_drewN | apply grown_drew | apply grown_alloc | apply grown_setCell)); exact grown_none HG2.out) (Nat.le_refl _)⟩
theorem rpage_any (h : RefAt W m b N xs) (hN : N = n * 16) (hn2 : n ≤ 1024) (hu : U32s xs) (root page : Int) (F : Int) (T X U : Bool) (hF : oF (pageO xs n root page) = F) (hT : oT (pageO xs n root page) = T) (hX : oW (pageO xs n root page) = X) (hU : oU (pageO xs n root page) = U) :
    Calls Tryd.prog 17 #[.pointer (some ⟨m, 0, none⟩), .int .i64 root, .int .i64 page] W fun e w' => e = .returned (.tuple #[.agg #[.int .i64 F, .bool T, .bool X, .bool U], .bool T]) ∧ W.grownBy w' none := by
  have hlen := h.len
  by_cases h0 : page < 0 ∨ 256 ≤ page
  · rw [pageO_out (by omega)] at hF hT hX hU
    subst hF; subst hT; subst hX; subst hU
    exact rpage_out root page m W h0
  by_cases h1 : root < 0 ∨ (n : Int) ≤ root
  · rw [pageO_out (by omega)] at hF hT hX hU
    subst hF; subst hT; subst hX; subst hU
    exact rpage_root h hN root page (by omega) (by omega) h1
  obtain ⟨P, rfl⟩ := Int.eq_ofNat_of_zero_le (show 0 ≤ page by omega)
  obtain ⟨R, rfl⟩ := Int.eq_ofNat_of_zero_le (show 0 ≤ root by omega)
  obtain ⟨v, hv⟩ : ∃ v, xs[R * 16 + P / 16]? = some v := ⟨_, List.getElem?_eq_getElem (by omega)⟩
  obtain ⟨v0, v1⟩ := hu.get hv
  have hw := wordI_get hv (a := (R : Int) * 16 + (P : Int) / 16) (by omega)
  cases hd : liveB v
  · rw [pageO_dead hw (.inl hd)] at hF hT hX hU
    subst hF; subst hT; subst hX; subst hU
    exact rpage_dead h hN hn2 R P (by omega) (by omega) v hv v0 v1 hd
  by_cases hn : (n : Int) ≤ v / 256
  · rw [pageO_dead hw (.inr hn)] at hF hT hX hU
    subst hF; subst hT; subst hX; subst hU
    exact rpage_none h hN hn2 R P (by omega) (by omega) v hv v0 v1 hd hn
  obtain ⟨G, hG⟩ := Int.eq_ofNat_of_zero_le (show 0 ≤ v / 256 by omega)
  obtain ⟨y, hy⟩ : ∃ y, xs[G * 16 + P % 16]? = some y := ⟨_, List.getElem?_eq_getElem (by omega)⟩
  obtain ⟨y0, y1⟩ := hu.get hy
  have hw2 := wordI_get hy (a := v / 256 * 16 + (P : Int) % 16) (by omega)
  rw [pageO_in (by omega) (by omega) (by omega) (by omega) hw hd (by omega) hw2] at hF hT hX hU
  exact rpage_yes h hN hn2 R P G (by omega) (by omega) v hv v0 v1 hd hG (by omega) y hy y0 y1 F T X U hF hT hX hU
end
end Go.Proofs.YthjbbkhnfemikaaDoor
