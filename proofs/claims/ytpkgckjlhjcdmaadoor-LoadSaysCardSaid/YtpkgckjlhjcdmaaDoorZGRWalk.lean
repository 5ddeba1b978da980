/- The document's own ways by the tables (facaderef1.Page, Walk): contracts. -/
import Derived.Test.YtpkgckjlhjcdmaaDoorZRWalk1
import Derived.Test.YtpkgckjlhjcdmaaDoorZGWay
namespace Go.Proofs.YtpkgckjlhjcdmaaDoor
open Go.RowKit
section
variable {m b n N : Nat} {xs : List Int} {W : World}
theorem rread_of (h : RefAt W m b N xs) (a : Int) (k : Nat) (x : Int) (ha : a = (k : Int)) (hx : xs[k]? = some x) :
    Calls Tryd.prog 88 #[.pointer (some ⟨m, 0, none⟩), .int .i64 a] W fun e w' => e = .returned (.tuple #[.int .u32 x, .bool true]) ∧ W = w' := by
  subst ha
  exact rread_yes h k x hx
theorem rpage_out (root page : Int) (m : Nat) (W : World) (hp : page < 0 ∨ 256 ≤ page) :
    Calls Tryd.prog 69 #[.pointer (some ⟨m, 0, none⟩), .int .i64 root, .int .i64 page] W (NoEnt W) := by
  have Hr := hid (grown_refl W none)
  rcases hp with hp | hp
  · go_enter Tryd.func69, Tryd.ntmps69
    go_wp2
    refine bodyPost_ret (v := .tuple #[.agg #[.int .i64 0, .bool false, .bool false, .bool false], .bool false]) (by simp [results, Tryd.results69, go_sem]) rfl ?_
    exact ⟨rfl, grown_alloc Hr.out _⟩
  · have h0 : ¬ page < 0 := by omega
    go_enter Tryd.func69, Tryd.ntmps69
    go_wp2
    refine bodyPost_ret (v := .tuple #[.agg #[.int .i64 0, .bool false, .bool false, .bool false], .bool false]) (by simp [results, Tryd.results69, go_sem]) rfl ?_
    exact ⟨rfl, grown_alloc Hr.out _⟩
set_option maxRecDepth 100000 in
set_option maxHeartbeats 1000000 in
theorem rpage_root (h : RefAt W m b N xs) (hN : N = n * 16) (root page : Int) (h0 : 0 ≤ page) (h1 : page < 256) (hr : root < 0 ∨ (n : Int) ≤ root) :
    Calls Tryd.prog 69 #[.pointer (some ⟨m, 0, none⟩), .int .i64 root, .int .i64 page] W (NoEnt W) := by
  have H := hid (h.kept0 (World.grownBy_alloc W (.cells #[.int .i64 0, .bool false, .bool false, .bool false] 142) none))
  have Hr := hid (grown_refl W none)
  have HN := hid hN
  have h2 : ¬ page < 0 := by omega
  clear h hN
  rcases hr with hr | hr
  · go_enter Tryd.func69, Tryd.ntmps69
    go_wp2
    refine bodyPost_ret (v := .tuple #[.agg #[.int .i64 0, .bool false, .bool false, .bool false], .bool false]) (by simp [results, Tryd.results69, go_sem]) rfl ?_
    exact ⟨rfl, grown_alloc Hr.out _⟩
  · have h3 : ¬ root < 0 := by omega
    go_enter Tryd.func69, Tryd.ntmps69
    go_wp2_with fail
    refine (rframes_any H.out HN.out).mono ?_; rintro e w' ⟨rfl, rfl⟩
    go_wp2
    refine bodyPost_ret (v := .tuple #[.agg #[.int .i64 0, .bool false, .bool false, .bool false], .bool false]) (by simp [results, Tryd.results69, go_sem]) rfl ?_
    exact ⟨rfl, grown_alloc Hr.out _⟩
theorem rframes_quiet (h : RefAt W m b N xs) (hN : N = n * 16) (k : Nat) :
    Calls Tryd.prog 62 #[.pointer (some ⟨m, 0, none⟩)] (W.drewN k) fun e w'' => e = .returned (.int .i64 n) ∧ ∃ q, w'' = W.drewN q :=
  (rframes_any (h.kept0 (grown_drewN (grown_refl _ _) k)) hN).mono fun _ _ ⟨he, hw⟩ => ⟨he, k, hw.symm⟩
set_option maxRecDepth 100000 in
set_option maxHeartbeats 4000000 in
theorem rpage_dead (h : RefAt W m b N xs) (hN : N = n * 16) (hn2 : n ≤ 1024) (R P : Nat) (hR : R < n) (hP : P < 256) (v : Int) (hv : xs[R * 16 + P / 16]? = some v) (v0 : 0 ≤ v) (v1 : v < 4294967296) (hd : liveB v = false) :
    Calls Tryd.prog 69 #[.pointer (some ⟨m, 0, none⟩), .int .i64 R, .int .i64 P] W (NoEnt W) := by
  have H := hid (h.kept0 (World.grownBy_alloc W (.cells #[.int .i64 0, .bool false, .bool false, .bool false] 142) none))
  have Hr := hid (grown_refl W none)
  have HN := hid hN
  have Hv := hid hv
  have Hd := hid (of_dead hd)
  have h2 : ¬ (P : Int) < 0 := by omega
  have h3 : (P : Int) < 256 := by omega
  have h4 : ¬ (R : Int) < 0 := by omega
  have h5 : (R : Int) < (n : Int) := by omega
  have h6 : R < 1024 := by omega
  obtain ⟨C, HC⟩ : ∃ C, Hid (ofB v = C) := ⟨_, hid rfl⟩
  clear h hN hv hd
  go_enter Tryd.func69, Tryd.ntmps69
  go_wp2_with fail
  refine (rframes_any H.out HN.out).mono ?_; rintro e w' ⟨rfl, rfl⟩
  go_wp2_with fail
  refine (rread_of H.out _ (R * 16 + P / 16) v (by omega) Hv.out).mono ?_; rintro e w' ⟨rfl, rfl⟩
  go_wp2_with fail
  refine (rof_of v 0 false false false C v0 v1 Hd.out.1 Hd.out.2.1 Hd.out.2.2.1 Hd.out.2.2.2 HC.out _).mono ?_; rintro e W1 ⟨rfl, hg⟩
  have HG := hid (grown_trans (grown_alloc Hr.out _) hg)
  have E1 := hid ((EntAt.new W 0 false false false).kept0 hg)
  clear hg
  obtain ⟨k0, k1, k2, k3, kf, kl⟩ := E1.out.all
  cases C
  all_goals
    go_wp2
    go_quiet (fail)
    go_wp2
    refine bodyPost_ret (v := .tuple #[.agg #[.int .i64 0, .bool false, .bool false, .bool false], .bool false]) (by simp [results, Tryd.results69, k0, k1, k2, k3, kl, go_sem]) rfl ?_
    exact ⟨rfl, grown_new (b := W.heap.size) (by (repeat (first | apply grown_drewN | apply grown_drew | apply grown_alloc | apply grown_setCell)); exact grown_none HG.out) (Nat.le_refl _)⟩
set_option maxRecDepth 100000 in
set_option maxHeartbeats 4000000 in
theorem rpage_none (h : RefAt W m b N xs) (hN : N = n * 16) (hn2 : n ≤ 1024) (R P : Nat) (hR : R < n) (hP : P < 256) (v : Int) (hv : xs[R * 16 + P / 16]? = some v) (v0 : 0 ≤ v) (v1 : v < 4294967296) (hd : liveB v = true) (hn : (n : Int) ≤ v / 256) :
    Calls Tryd.prog 69 #[.pointer (some ⟨m, 0, none⟩), .int .i64 R, .int .i64 P] W (NoEnt W) := by
  have H := hid (h.kept0 (World.grownBy_alloc W (.cells #[.int .i64 0, .bool false, .bool false, .bool false] 142) none))
  have Hr := hid (grown_refl W none)
  have HN := hid hN
  have Hv := hid hv
  have Hd := hid (liveO_yes hd)
  have Ht := hid (tB_live hd)
  have Ho := hid (of_live hd)
  have h2 : ¬ (P : Int) < 0 := by omega
  have h3 : (P : Int) < 256 := by omega
  have h4 : ¬ (R : Int) < 0 := by omega
  have h5 : (R : Int) < (n : Int) := by omega
  have h6 : R < 1024 := by omega
  have hlp := live_parts v
  rw [Hd.out] at hlp
  obtain ⟨X', hX'⟩ : ∃ X, wB v = X := ⟨_, rfl⟩
  obtain ⟨U', hU'⟩ : ∃ U, uB v = U := ⟨_, rfl⟩
  obtain ⟨F, hF⟩ : ∃ F, v / 256 = F := ⟨_, rfl⟩
  have Hp : Hid (oF (ofO v) = F ∧ oT (ofO v) = true ∧ oW (ofO v) = X' ∧ oU (ofO v) = U') := hid ⟨hlp.1.trans hF, hlp.2.1.trans Ht.out, hlp.2.2.1.trans hX', hlp.2.2.2.trans hU'⟩
  have hF2 : F ≥ (n : Int) := by omega
  clear h hN hv hd hlp hF hX' hU' hn
  go_enter Tryd.func69, Tryd.ntmps69
  go_wp2_with fail
  refine (rframes_any H.out HN.out).mono ?_; rintro e w' ⟨rfl, rfl⟩
  go_wp2_with fail
  refine (rread_of H.out _ (R * 16 + P / 16) v (by omega) Hv.out).mono ?_; rintro e w' ⟨rfl, rfl⟩
  go_wp2_with fail
  refine (rof_of v F true X' U' true v0 v1 Hp.out.1 Hp.out.2.1 Hp.out.2.2.1 Hp.out.2.2.2 Ho.out _).mono ?_; rintro e W1 ⟨rfl, hg⟩
  have HG := hid (grown_trans (grown_alloc Hr.out _) hg)
  have H1 := hid ((H.out.kept0 hg).kept0 (World.grownBy_alloc W1 (.cells #[.int .i64 F, .bool true, .bool X', .bool U'] 142) none))
  have E1 := hid ((EntAt.new W 0 false false false).kept0 hg)
  clear hg H
  obtain ⟨k0, k1, k2, k3, kf, kl⟩ := E1.out.all
  go_wp2
  go_quiet ((first | (go_at_call 62; with_reducible exact (rframes_quiet H1.out HN.out _))))
  go_wp2
  refine bodyPost_ret (v := .tuple #[.agg #[.int .i64 0, .bool false, .bool false, .bool false], .bool false]) (by simp [results, Tryd.results69, k0, k1, k2, k3, kl, go_sem]) rfl ?_
  exact ⟨rfl, grown_new (b := W.heap.size) (by (repeat (first | apply grown_drewN | apply grown_drew | apply grown_alloc | apply grown_setCell)); exact grown_none HG.out) (Nat.le_refl _)⟩
end
end Go.Proofs.YtpkgckjlhjcdmaaDoor
/- The document's own Page where both levels have an entry; Page: contracts. -/
namespace Go.Proofs.YtpkgckjlhjcdmaaDoor
open Go.RowKit
section
variable {m b n N : Nat} {xs : List Int} {W : World}
set_option maxRecDepth 100000 in
set_option maxHeartbeats 4000000 in
theorem rpage_yes (h : RefAt W m b N xs) (hN : N = n * 16) (hn2 : n ≤ 1024) (R P G : Nat) (hR : R < n) (hP : P < 256) (v : Int) (hv : xs[R * 16 + P / 16]? = some v) (v0 : 0 ≤ v) (v1 : v < 4294967296) (hd : liveB v = true) (hG : v / 256 = (G : Int)) (hn : G < n)
    (y : Int) (hy : xs[G * 16 + P % 16]? = some y) (y0 : 0 ≤ y) (y1 : y < 4294967296) (F : Int) (T X U : Bool) (hF : oF (liveO y) = F) (hT : oT (liveO y) = T) (hX : oW (liveO y) = X) (hU : oU (liveO y) = U) :
    Calls Tryd.prog 69 #[.pointer (some ⟨m, 0, none⟩), .int .i64 R, .int .i64 P] W fun e w' => e = .returned (.tuple #[.agg #[.int .i64 F, .bool T, .bool X, .bool U], .bool T]) ∧ W.grownBy w' none := by
  have H := hid (h.kept0 (World.grownBy_alloc W (.cells #[.int .i64 0, .bool false, .bool false, .bool false] 142) none))
  have Hr := hid (grown_refl W none)
  have HN := hid hN
  have Hv := hid hv
  have Hd := hid (liveO_yes hd)
  have Ht := hid (tB_live hd)
  have Ho := hid (of_live hd)
  have h2 : ¬ (P : Int) < 0 := by omega
  have h3 : (P : Int) < 256 := by omega
  have h4 : ¬ (R : Int) < 0 := by omega
  have h5 : (R : Int) < (n : Int) := by omega
  have h6 : R < 1024 := by omega
  have hlp := live_parts v
  rw [Hd.out] at hlp
  obtain ⟨X', hX'⟩ : ∃ X, wB v = X := ⟨_, rfl⟩
  obtain ⟨U', hU'⟩ : ∃ U, uB v = U := ⟨_, rfl⟩
  have Hp : Hid (oF (ofO v) = (G : Int) ∧ oT (ofO v) = true ∧ oW (ofO v) = X' ∧ oU (ofO v) = U') := hid ⟨hlp.1.trans hG, hlp.2.1.trans Ht.out, hlp.2.2.1.trans hX', hlp.2.2.2.trans hU'⟩
  have hF2 : ¬ (G : Int) ≥ (n : Int) := by omega
  have hg6 : G < 1024 := by omega
  have Hy := hid hy
  have hly := live_parts y
  rw [hF, hT, hX, hU] at hly
  have Hl := hid hly
  obtain ⟨C, HC⟩ : ∃ C, Hid (ofB y = C) := ⟨_, hid rfl⟩
  have Hz : Hid (T = false → F = 0 ∧ X = false ∧ U = false) := hid (by
    intro ht
    have hd2 : liveB y = false := by
      cases hl : liveB y
      · rfl
      · rw [liveO_yes hl] at hT
        rw [← hT] at ht
        exact absurd (tB_live hl) (by rw [show tB y = false from ht]; simp)
    rw [liveO_no hd2] at hF hX hU
    exact ⟨hF.symm, hX.symm, hU.symm⟩)
  have Hc : Hid (T = true → C = true) := hid (by
    intro ht
    have hl : liveB y = true := by
      cases hl : liveB y
      · rw [liveO_no hl, ht] at hT; cases hT
      · rfl
    rw [← HC.out]
    exact of_live hl)
  clear h hN hv hd hlp hG hX' hU' hn hy hly hF hT hX hU
  have way : (T = true ∧ C = true) ∨ (C = false ∧ T = false ∧ F = 0 ∧ X = false ∧ U = false) ∨ (C = true ∧ T = false ∧ F = 0 ∧ X = false ∧ U = false) := by
    cases hT : T
    · obtain ⟨a, b, c⟩ := Hz.out hT
      cases hC : C
      · exact .inr (.inl ⟨rfl, rfl, a, b, c⟩)
      · exact .inr (.inr ⟨rfl, rfl, a, b, c⟩)
    · exact .inl ⟨rfl, Hc.out hT⟩
  clear Hz Hc
  go_enter Tryd.func69, Tryd.ntmps69
  go_wp2_with fail
  refine (rframes_any H.out HN.out).mono ?_; rintro e w' ⟨rfl, rfl⟩
  go_wp2_with fail
  refine (rread_of H.out _ (R * 16 + P / 16) v (by omega) Hv.out).mono ?_; rintro e w' ⟨rfl, rfl⟩
  go_wp2_with fail
  refine (rof_of v (G : Int) true X' U' true v0 v1 Hp.out.1 Hp.out.2.1 Hp.out.2.2.1 Hp.out.2.2.2 Ho.out _).mono ?_; rintro e W1 ⟨rfl, hg⟩
  have HG := hid (grown_trans (grown_alloc Hr.out _) hg)
  have H1 := hid ((H.out.kept0 hg).kept0 (World.grownBy_alloc W1 (.cells #[.int .i64 (G : Int), .bool true, .bool X', .bool U'] 142) none))
  have E1 := hid ((EntAt.new W 0 false false false).kept0 hg)
  clear hg H
  obtain ⟨k0, k1, k2, k3, kf, kl⟩ := E1.out.all
  go_wp2
  go_quiet ((first | (go_at_call 62; with_reducible exact (rframes_quiet H1.out HN.out _))))
  have H2 : ∀ k, Hid (RefAt ((W1.alloc (.cells #[.int .i64 (G : Int), .bool true, .bool X', .bool U'] 142)).drewN k) m b N xs) := fun k => hid (H1.out.kept0 (grown_drewN (grown_refl _ none) k))
  go_wp2_with fail
  refine (rread_of (H2 _).out _ (G * 16 + P % 16) y (by omega) Hy.out).mono ?_; rintro e w' ⟨rfl, rfl⟩
  go_wp2_with fail
  refine (rof_of y F T X U C y0 y1 Hl.out.1 Hl.out.2.1 Hl.out.2.2.1 Hl.out.2.2.2 HC.out _).mono ?_; rintro e W2 ⟨rfl, hg⟩
  have HG2 := hid (grown_trans (grown_drewN (grown_alloc HG.out _) _) hg)
  have E2 := hid (((E1.out.alloc _).kept0 (grown_drewN (grown_refl _ none) _)).kept0 hg)
  clear hg
  obtain ⟨m0, m1, m2, m3, mf, ml⟩ := E2.out.all
  rcases way with ⟨rfl, rfl⟩ | ⟨rfl, rfl, rfl, rfl, rfl⟩ | ⟨rfl, rfl, rfl, rfl, rfl⟩
  · go_wp2
    refine bodyPost_ret (v := .tuple #[.agg #[.int .i64 F, .bool true, .bool X, .bool U], .bool true]) (by simp [results, Tryd.results69, m0, m1, m2, m3, ml, go_sem]) rfl ?_
    exact ⟨rfl, grown_new (b := W.heap.size) (by (repeat (first | apply grown_drewN | apply grown_drew | apply grown_alloc | apply grown_setCell)); exact grown_none HG2.out) (Nat.le_refl _)⟩
  all_goals
    go_wp2
    refine bodyPost_ret (v := .tuple #[.agg #[.int .i64 0, .bool false, .bool false, .bool false], .bool false]) (by simp [results, Tryd.results69, m0, m1, m2, m3, ml, go_sem]) rfl ?_
    exact ⟨rfl, grown_new (b := W.heap.size) (by (repeat (first | apply grown_drewN | apply grown_drew | apply grown_alloc | apply grown_setCell)); exact grown_none HG2.out) (Nat.le_refl _)⟩
theorem rpage_any (h : RefAt W m b N xs) (hN : N = n * 16) (hn2 : n ≤ 1024) (hu : U32s xs) (root page : Int) (F : Int) (T X U : Bool) (hF : oF (pageO xs n root page) = F) (hT : oT (pageO xs n root page) = T) (hX : oW (pageO xs n root page) = X) (hU : oU (pageO xs n root page) = U) :
    Calls Tryd.prog 69 #[.pointer (some ⟨m, 0, none⟩), .int .i64 root, .int .i64 page] W fun e w' => e = .returned (.tuple #[.agg #[.int .i64 F, .bool T, .bool X, .bool U], .bool T]) ∧ W.grownBy w' none := by
  have hlen := h.len
  by_cases h0 : page < 0 ∨ 256 ≤ page
  · rw [pageO_out (by omega)] at hF hT hX hU
    subst hF; subst hT; subst hX; subst hU
    exact rpage_out root page m W h0
  by_cases h1 : root < 0 ∨ (n : Int) ≤ root
  · rw [pageO_out (by omega)] at hF hT hX hU
    subst hF; subst hT; subst hX; subst hU
    exact rpage_root h hN root page (by omega) (by omega) h1
  obtain ⟨P, rfl⟩ := Int.eq_ofNat_of_zero_le (show 0 ≤ page by omega)
  obtain ⟨R, rfl⟩ := Int.eq_ofNat_of_zero_le (show 0 ≤ root by omega)
  obtain ⟨v, hv⟩ : ∃ v, xs[R * 16 + P / 16]? = some v := ⟨_, List.getElem?_eq_getElem (by omega)⟩
  obtain ⟨v0, v1⟩ := hu.get hv
  have hw := wordI_get hv (a := (R : Int) * 16 + (P : Int) / 16) (by omega)
  cases hd : liveB v
  · rw [pageO_dead hw (.inl hd)] at hF hT hX hU
    subst hF; subst hT; subst hX; subst hU
    exact rpage_dead h hN hn2 R P (by omega) (by omega) v hv v0 v1 hd
  by_cases hn : (n : Int) ≤ v / 256
  · rw [pageO_dead hw (.inr hn)] at hF hT hX hU
    subst hF; subst hT; subst hX; subst hU
    exact rpage_none h hN hn2 R P (by omega) (by omega) v hv v0 v1 hd hn
  obtain ⟨G, hG⟩ := Int.eq_ofNat_of_zero_le (show 0 ≤ v / 256 by omega)
  obtain ⟨y, hy⟩ : ∃ y, xs[G * 16 + P % 16]? = some y := ⟨_, List.getElem?_eq_getElem (by omega)⟩
  obtain ⟨y0, y1⟩ := hu.get hy
  have hw2 := wordI_get hy (a := v / 256 * 16 + (P : Int) % 16) (by omega)
  rw [pageO_in (by omega) (by omega) (by omega) (by omega) hw hd (by omega) hw2] at hF hT hX hU
  exact rpage_yes h hN hn2 R P G (by omega) (by omega) v hv v0 v1 hd hG (by omega) y hy y0 y1 F T X U hF hT hX hU
end
end Go.Proofs.YtpkgckjlhjcdmaaDoor
/- The document's own Walk: a contract. -/
namespace Go.Proofs.YtpkgckjlhjcdmaaDoor
open Go.RowKit
section
variable {m b n N : Nat} {xs : List Int} {W : World}
set_option maxRecDepth 100000 in
theorem rwalk_far (root addr : Int) (m : Nat) (W : World) (h : 4096 ≤ addr) (write user : Bool) :
    Calls Tryd.prog 43 #[.pointer (some ⟨m, 0, none⟩), .int .i64 root, .int .u32 addr, .bool write, .bool user] W fun e w' => e = .returned (.tuple #[.int .i64 0, .bool false]) ∧ W.grownBy w' none := by
  have Hr := hid (grown_refl W none)
  go_enter Tryd.func43, Tryd.ntmps43
  go_wp2
  go_ret2
  exact ⟨rfl, Hr.out⟩
theorem may_ways (X U r write user : Bool) : (write = true ∧ X = false) ∨ (write = false ∧ user = true ∧ U = false) ∨ (write = true ∧ X = true ∧ user = true ∧ U = false) ∨ (write = false ∧ user = false ∧ r = false) ∨ (write = false ∧ user = false ∧ r = true) ∨ (write = false ∧ user = true ∧ U = true ∧ r = false) ∨ (write = false ∧ user = true ∧ U = true ∧ r = true) ∨ (write = true ∧ X = true ∧ user = false ∧ r = false) ∨ (write = true ∧ X = true ∧ user = false ∧ r = true) ∨ (write = true ∧ X = true ∧ user = true ∧ U = true ∧ r = false) ∨ (write = true ∧ X = true ∧ user = true ∧ U = true ∧ r = true) := by
  cases X <;> cases U <;> cases r <;> cases write <;> cases user <;> simp
set_option maxRecDepth 100000 in
set_option maxHeartbeats 8000000 in
theorem rwalk_core (h : RefAt W m b N xs) (hN : N = n * 16) (hn2 : n ≤ 1024) (hu : U32s xs) (root addr : Int) (a0 : 0 ≤ addr) (a1 : addr < 4294967296) (write user : Bool) (F : Int) (T X U : Bool)
    (hF : oF (pageO xs n root (addr / 16)) = F) (hT : oT (pageO xs n root (addr / 16)) = T) (hX : oW (pageO xs n root (addr / 16)) = X) (hU : oU (pageO xs n root (addr / 16)) = U) (f0 : 0 ≤ F) (f1 : F < 1024) (r : Bool) (hr : decide (0 ≤ F ∧ F < (n : Int)) = r) :
    Calls Tryd.prog 43 #[.pointer (some ⟨m, 0, none⟩), .int .i64 root, .int .u32 addr, .bool write, .bool user] W fun e w' => e = .returned (.tuple #[.int .i64 (placeV (mayB T X U r write user) F addr), .bool (mayB T X U r write user)]) ∧ W.grownBy w' none := by
  by_cases hfar : 4096 ≤ addr
  · rw [pageO_out (by omega)] at hT
    subst hT
    exact rwalk_far root addr m W hfar write user
  have H := hid h
  have HN := hid hN
  have Hn2 := hid hn2
  have Hu := hid hu
  have HF := hid hF
  have HT := hid hT
  have HX := hid hX
  have HU := hid hU
  have HR : Hid (r = true → ¬ F ≥ (n : Int)) := hid (fun h => by rw [h] at hr; have := of_decide_eq_true hr; omega)
  have HR2 : Hid (r = false → F ≥ (n : Int)) := hid (fun h => by rw [h] at hr; have := of_decide_eq_false hr; omega)
  have q0 : 0 ≤ addr / 16 := by omega
  have q1 : ¬ addr ≥ 4096 := by omega
  clear h hN hn2 hu hr hF hT hX hU hfar
  go_enter Tryd.func43, Tryd.ntmps43
  go_wp2_with fail
  refine (rpage_any H.out HN.out Hn2.out Hu.out _ _ F T X U HF.out HT.out HX.out HU.out).mono ?_; rintro e W1 ⟨rfl, hg⟩
  have HG := hid hg
  have H1 := hid ((H.out.kept0 hg).kept0 (World.grownBy_alloc W1 (.cells #[.int .i64 F, .bool T, .bool X, .bool U] 142) none))
  clear hg
  cases T
  · go_wp2
    go_quiet (fail)
    go_wp2
    go_ret2
    exact ⟨rfl, grown_drewN (grown_alloc HG.out _) _⟩
  · rcases may_ways X U r write user with ⟨rfl, rfl⟩ | ⟨rfl, rfl, rfl⟩ | ⟨rfl, rfl, rfl, rfl⟩ | ⟨rfl, rfl, rfl⟩ | ⟨rfl, rfl, rfl⟩ | ⟨rfl, rfl, rfl, rfl⟩ | ⟨rfl, rfl, rfl, rfl⟩ | ⟨rfl, rfl, rfl, rfl⟩ | ⟨rfl, rfl, rfl, rfl⟩ | ⟨rfl, rfl, rfl, rfl, rfl⟩ | ⟨rfl, rfl, rfl, rfl, rfl⟩
    all_goals
      first
      | (have hge := HR.out rfl; clear HR HR2)
      | (have hge := HR2.out rfl; clear HR HR2)
      | clear HR HR2
      go_wp2
      go_quiet ((first | (go_at_call 62; with_reducible exact (rframes_quiet H1.out HN.out _))))
      go_wp2
      go_ret2
      exact ⟨by first | rfl | simp [mayB, placeV], grown_drewN (grown_alloc HG.out _) _⟩
theorem rwalk_any (h : RefAt W m b N xs) (hN : N = n * 16) (hn2 : n ≤ 1024) (hu : U32s xs) (root addr : Int) (a0 : 0 ≤ addr) (a1 : addr < 4294967296) (write user : Bool) (V : Int) (B : Bool)
    (hB : wayB (pageO xs n root (addr / 16)) n write user = B) (hV : wayV (pageO xs n root (addr / 16)) n addr write user = V) :
    Calls Tryd.prog 43 #[.pointer (some ⟨m, 0, none⟩), .int .i64 root, .int .u32 addr, .bool write, .bool user] W fun e w' => e = .returned (.tuple #[.int .i64 V, .bool B]) ∧ W.grownBy w' none := by
  have hf := oF_bd (xs := xs) (n := (n : Int)) (root := root) (p := addr / 16)
  have := rwalk_core h hN hn2 hu root addr a0 a1 write user _ _ _ _ rfl rfl rfl rfl hf.1 hf.2 _ rfl
  have e : placeV (mayB (oT (pageO xs n root (addr / 16))) (oW (pageO xs n root (addr / 16))) (oU (pageO xs n root (addr / 16))) (decide (0 ≤ oF (pageO xs n root (addr / 16)) ∧ oF (pageO xs n root (addr / 16)) < (n : Int))) write user) (oF (pageO xs n root (addr / 16))) addr = V := by
    rw [← hV, ← wayB_may]; rfl
  rw [e, ← wayB_may, hB] at this
  exact this
end
end Go.Proofs.YtpkgckjlhjcdmaaDoor
