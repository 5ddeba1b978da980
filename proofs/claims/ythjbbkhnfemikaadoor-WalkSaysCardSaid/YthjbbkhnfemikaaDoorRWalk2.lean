/- The document's own ways by the tables (facaderef1.Page, Walk): contracts. -/
import Derived.Test.YthjbbkhnfemikaaDoorRWalk1
import Derived.Test.YthjbbkhnfemikaaDoorWLaw0
namespace Go.Proofs.YthjbbkhnfemikaaDoor
open Go.RowKit
section
variable {m b n N : Nat} {xs : List Int} {W : World}
theorem rread_of (h : RefAt W m b N xs) (a : Int) (k : Nat) (x : Int) (ha : a = (k : Int)) (hx : xs[k]? = some x) :
    Calls Tryd.prog 28 #[.pointer (some ⟨m, 0, none⟩), .int .i64 a] W fun e w' => e = .returned (.tuple #[.int .u32 x, .bool true]) ∧ W = w' := by
  subst ha
  exact rread_yes h k x hx
theorem rpage_out (root page : Int) (m : Nat) (W : World) (hp : page < 0 ∨ 256 ≤ page) :
    Calls Tryd.prog 17 #[.pointer (some ⟨m, 0, none⟩), .int .i64 root, .int .i64 page] W (NoEnt W) := by
  have Hr := hid (grown_refl W none)
  rcases hp with hp | hp
  · go_enter Tryd.func17, Tryd.ntmps17
    go_wp2
    refine bodyPost_ret (v := .tuple #[.agg #[.int .i64 0, .bool false, .bool false, .bool false], .bool false]) (by simp [results, Tryd.results17, go_sem]) rfl ?_
    exact ⟨rfl, grown_alloc Hr.out _⟩
  · have h0 : ¬ page < 0 := by omega
    go_enter Tryd.func17, Tryd.ntmps17
    go_wp2
    refine bodyPost_ret (v := .tuple #[.agg #[.int .i64 0, .bool false, .bool false, .bool false], .bool false]) (by simp [results, Tryd.results17, go_sem]) rfl ?_
    exact ⟨rfl, grown_alloc Hr.out _⟩
set_option maxRecDepth 100000 in
set_option maxHeartbeats 1000000 in
theorem rpage_root (h : RefAt W m b N xs) (hN : N = n * 16) (root page : Int) (h0 : 0 ≤ page) (h1 : page < 256) (hr : root < 0 ∨ (n : Int) ≤ root) :
    Calls Tryd.prog 17 #[.pointer (some ⟨m, 0, none⟩), .int .i64 root, .int .i64 page] W (NoEnt W) := by
  have H := hid (h.kept0 (World.grownBy_alloc W (.cells #[.int .i64 0, .bool false, .bool false, .bool false] 32) none))
  have Hr := hid (grown_refl W none)
  have HN := hid hN
  have h2 : ¬ page < 0 := by omega
  clear h hN
  rcases hr with hr | hr
  · go_enter Tryd.func17, Tryd.ntmps17
    go_wp2
    refine bodyPost_ret (v := .tuple #[.agg #[.int .i64 0, .bool false, .bool false, .bool false], .bool false]) (by simp [results, Tryd.results17, go_sem]) rfl ?_
    exact ⟨rfl, grown_alloc Hr.out _⟩
  · have h3 : ¬ root < 0 := by omega
    go_enter Tryd.func17, Tryd.ntmps17
    go_wp2_with fail
    refine (rframes_any H.out HN.out).mono ?_; rintro e w' ⟨rfl, rfl⟩
    go_wp2
    refine bodyPost_ret (v := .tuple #[.agg #[.int .i64 0, .bool false, .bool false, .bool false], .bool false]) (by simp [results, Tryd.results17, go_sem]) rfl ?_
    exact ⟨rfl, grown_alloc Hr.out _⟩
theorem rframes_quiet (h : RefAt W m b N xs) (hN : N = n * 16) (k : Nat) :
    Calls Tryd.prog 27 #[.pointer (some ⟨m, 0, none⟩)] (W.drewN k) fun e w'' => e = .returned (.int .i64 n) ∧ ∃ q, w'' = W.drewN q :=
  (rframes_any (h.kept0 (grown_drewN (grown_refl _ _) k)) hN).mono fun _ _ ⟨he, hw⟩ => ⟨he, k, hw.symm⟩
set_option maxRecDepth 100000 in
set_option maxHeartbeats 4000000 in
theorem rpage_dead (h : RefAt W m b N xs) (hN : N = n * 16) (hn2 : n ≤ 1024) (R P : Nat) (hR : R < n) (hP : P < 256) (v : Int) (hv : xs[R * 16 + P / 16]? = some v) (v0 : 0 ≤ v) (v1 : v < 4294967296) (hd : liveB v = false) :
    Calls Tryd.prog 17 #[.pointer (some ⟨m, 0, none⟩), .int .i64 R, .int .i64 P] W (NoEnt W) := by
  have H := hid (h.kept0 (World.grownBy_alloc W (.cells #[.int .i64 0, .bool false, .bool false, .bool false] 32) none))
  have Hr := hid (grown_refl W none)
  have HN := hid hN
  have Hv := hid hv
  have Hd := hid (of_dead hd)
  have h2 : ¬ (P : Int) < 0 := by omega
  have h3 : (P : Int) < 256 := by omega
  have h4 : ¬ (R : Int) < 0 := by omega
  have h5 : (R : Int) < (n : Int) := by omega
  have h6 : R < 1024 := by omega
  obtain ⟨C, HC⟩ : ∃ C, Hid (ofB v = C) := ⟨_, hid rfl⟩
  clear h hN hv hd
  go_enter Tryd.func17, Tryd.ntmps17
  go_wp2_with fail
  refine (rframes_any H.out HN.out).mono ?_; rintro e w' ⟨rfl, rfl⟩
  go_wp2_with fail
  refine (rread_of H.out _ (R * 16 + P / 16) v (by omega) Hv.out).mono ?_; rintro e w' ⟨rfl, rfl⟩
  go_wp2_with fail
  refine (rof_of v 0 false false false C v0 v1 Hd.out.1 Hd.out.2.1 Hd.out.2.2.1 Hd.out.2.2.2 HC.out _).mono ?_; rintro e W1 ⟨rfl, hg⟩
  have HG := hid (grown_trans (grown_alloc Hr.out _) hg)
  have E1 := hid ((EntAt.new W 0 false false false).kept0 hg)
  clear hg
  obtain ⟨k0, k1, k2, k3, kf, kl⟩ := E1.out.all
  cases C
  all_goals
    go_wp2
    go_quiet (fail)
    go_wp2
    refine bodyPost_ret (v := .tuple #[.agg #[.int .i64 0, .bool false, .bool false, .bool false], .bool false]) (by simp [results, Tryd.results17, k0, k1, k2, k3, kl, Nat.ne_of_lt kl, go_sem]) rfl ?_
    exact ⟨rfl, grown_new (b := W.heap.size) (by (repeat (first | apply grown_drewN | apply grown_drew | apply grown_alloc | apply grown_setCell)); exact grown_none HG.out) (Nat.le_refl _)⟩
set_option maxRecDepth 100000 in
set_option maxHeartbeats 4000000 in
theorem rpage_none (h : RefAt W m b N xs) (hN : N = n * 16) (hn2 : n ≤ 1024) (R P : Nat) (hR : R < n) (hP : P < 256) (v : Int) (hv : xs[R * 16 + P / 16]? = some v) (v0 : 0 ≤ v) (v1 : v < 4294967296) (hd : liveB v = true) (hn : (n : Int) ≤ v / 256) :
    Calls Tryd.prog 17 #[.pointer (some ⟨m, 0, none⟩), .int .i64 R, .int .i64 P] W (NoEnt W) := by
  have H := hid (h.kept0 (World.grownBy_alloc W (.cells #[.int .i64 0, .bool false, .bool false, .bool false] 32) none))
  have Hr := hid (grown_refl W none)
  have HN := hid hN
  have Hv := hid hv
  have Hd := hid (liveO_yes hd)
  have Ht := hid (tB_live hd)
  have Ho := hid (of_live hd)
  have h2 : ¬ (P : Int) < 0 := by omega
  have h3 : (P : Int) < 256 := by omega
  have h4 : ¬ (R : Int) < 0 := by omega
  have h5 : (R : Int) < (n : Int) := by omega
  have h6 : R < 1024 := by omega
  have hlp := live_parts v
  rw [Hd.out] at hlp
  obtain ⟨X', hX'⟩ : ∃ X, wB v = X := ⟨_, rfl⟩
  obtain ⟨U', hU'⟩ : ∃ U, uB v = U := ⟨_, rfl⟩
  obtain ⟨F, hF⟩ : ∃ F, v / 256 = F := ⟨_, rfl⟩
  have Hp : Hid (oF (ofO v) = F ∧ oT (ofO v) = true ∧ oW (ofO v) = X' ∧ oU (ofO v) = U') := hid ⟨hlp.1.trans hF, hlp.2.1.trans Ht.out, hlp.2.2.1.trans hX', hlp.2.2.2.trans hU'⟩
  have hF2 : F ≥ (n : Int) := by omega
  clear h hN hv hd hlp hF hX' hU' hn
  go_enter Tryd.func17, Tryd.ntmps17
  go_wp2_with fail
  refine (rframes_any H.out HN.out).mono ?_; rintro e w' ⟨rfl, rfl⟩
  go_wp2_with fail
  refine (rread_of H.out _ (R * 16 + P / 16) v (by omega) Hv.out).mono ?_; rintro e w' ⟨rfl, rfl⟩
  go_wp2_with fail
  refine (rof_of v F true X' U' true v0 v1 Hp.out.1 Hp.out.2.1 Hp.out.2.2.1 Hp.out.2.2.2 Ho.out _).mono ?_; rintro e W1 ⟨rfl, hg⟩
  have HG := hid (grown_trans (grown_alloc Hr.out _) hg)
  have H1 := hid ((H.out.kept0 hg).kept0 (World.grownBy_alloc W1 (.cells #[.int .i64 F, .bool true, .bool X', .bool U'] 32) none))
  have E1 := hid ((EntAt.new W 0 false false false).kept0 hg)
  clear hg H
  obtain ⟨k0, k1, k2, k3, kf, kl⟩ := E1.out.all
  go_wp2
  go_quiet ((first | (go_at_call 27; with_reducible exact (rframes_quiet H1.out HN.out _))))
  go_wp2
  refine bodyPost_ret (v := .tuple #[.agg #[.int .i64 0, .bool false, .bool false, .bool false], .bool false]) (by simp [results, Tryd.results17, k0, k1, k2, k3, kl, Nat.ne_of_lt kl, go_sem]) rfl ?_
  exact ⟨rfl, grown_new (b := W.heap.size) (by (repeat (first | apply grown_drewN | apply grown_drew | apply grown_alloc | apply grown_setCell)); exact grown_none HG.out) (Nat.le_refl _)⟩
end
end Go.Proofs.YthjbbkhnfemikaaDoor
