/- What package walk's has, entry, Page, Walk answer: contracts. -/
import Derived.Test.YtkkbhifplbleiaaGreatDoorZGWalk
import Derived.Test.YtkkbhifplbleiaaGreatDoorZGMem
namespace Go.Proofs.YtkkbhifplbleiaaGreatDoor
open Go.RowKit
/-- words -/
def U32s (xs : List Int) : Prop := ∀ x ∈ xs, 0 ≤ x ∧ x < 4294967296
theorem U32s.get {xs : List Int} (h : U32s xs) {k : Nat} {x : Int} (hx : xs[k]? = some x) : 0 ≤ x ∧ x < 4294967296 := h x (List.mem_of_getElem? hx)
section
variable {m b n c : Nat} {xs : List Int} {W : World}
theorem whas_any (h : MemAt W m b n c xs) (f : Int) (r : Bool) (hr : decide (0 ≤ f ∧ f < (n : Int)) = r) :
    Calls Tryz.prog 171 #[.pointer (some ⟨m, 0, none⟩), .int .i64 f] W fun e w' => e = .returned (.bool r) ∧ W = w' := by
  by_cases h0 : 0 ≤ f
  · have h0' : f ≥ 0 := h0
    go_enter Tryz.func171, Tryz.ntmps171
    go_wp2_with (go_at_call 67; refine (frames_any h).mono ?_; rintro e w' ⟨rfl, rfl⟩)
    go_ret
    exact ⟨ret_b (by rw [← hr]; simp [h0]), rfl⟩
  · have h1 : decide (f ≥ 0) = false := by simpa using h0
    go_enter Tryz.func171, Tryz.ntmps171
    go_wp2
    go_ret
    exact ⟨ret_b (by rw [← hr]; simp; omega), rfl⟩
theorem entry_no (h : MemAt W m b n c xs) (f i : Int) (hf : f < 0 ∨ (n : Int) ≤ f) :
    Calls Tryz.prog 179 #[.pointer (some ⟨m, 0, none⟩), .int .i64 f, .int .i64 i] W fun e w' => e = .returned (.tuple #[.agg #[.int .i64 0, .bool false, .bool false, .bool false], .bool false]) ∧ W.grownBy w' none := by
  have H := hid (h.kept0 (World.grownBy_alloc W (.cells #[.int .i64 0, .bool false, .bool false, .bool false] 80) none))
  have Hf : Hid (decide (0 ≤ f ∧ f < (n : Int)) = false) := hid (by simp; omega)
  have Hr := hid (grown_refl W none)
  clear h hf
  go_enter Tryz.func179, Tryz.ntmps179
  go_wp2_with (go_at_call 171; refine (whas_any H.out _ _ Hf.out).mono ?_; rintro e w' ⟨rfl, rfl⟩)
  refine bodyPost_ret (v := .tuple #[.agg #[.int .i64 0, .bool false, .bool false, .bool false], .bool false]) (by simp [results, Tryz.results179, go_sem]) rfl ?_
  exact ⟨rfl, by first | exact grown_alloc Hr.out _ | (exact grown_new (b := W.heap.size) (by (repeat apply grown_setCell); exact grown_none (grown_alloc Hr.out _)) (Nat.le_refl _))⟩
set_option maxHeartbeats 1000000 in
theorem entry_yes (h : MemAt W m b n c xs) (R i : Nat) (hR : R < n) (hi : i < 16) (v : Int) (hv : xs[R * 16 + i]? = some v) (v0 : 0 ≤ v) (v1 : v < 4294967296) (F : Int) (T X U : Bool)
    (hF : oF (liveO v) = F) (hT : oT (liveO v) = T) (hX : oW (liveO v) = X) (hU : oU (liveO v) = U) (a j : Int) (ha : a = (R : Int)) (hj : j = (i : Int)) :
    Calls Tryz.prog 179 #[.pointer (some ⟨m, 0, none⟩), .int .i64 a, .int .i64 j] W fun e w' => e = .returned (.tuple #[.agg #[.int .i64 F, .bool T, .bool X, .bool U], .bool T]) ∧ W.grownBy w' none := by
  subst ha; subst hj
  have hn := h.n2
  have H := hid (h.kept0 (World.grownBy_alloc W (.cells #[.int .i64 0, .bool false, .bool false, .bool false] 80) none))
  have Hf : Hid (decide (0 ≤ (R : Int) ∧ (R : Int) < (n : Int)) = true) := hid (by simp; omega)
  have Hr := hid (grown_refl W none)
  have Hv := hid hv
  have hp := live_parts v
  rw [hF, hT, hX, hU] at hp
  have HP := hid hp
  have hR2 : R < 1024 := by omega
  clear h hv hF hT hX hU hp hR
  go_enter Tryz.func179, Tryz.ntmps179
  go_wp2_with fail
  refine (whas_any H.out _ _ Hf.out).mono ?_; rintro e w' ⟨rfl, rfl⟩
  go_wp2_with fail
  refine (read_of H.out _ (R * 16 + i) v (by omega) Hv.out).mono ?_; rintro e w' ⟨rfl, rfl⟩
  go_wp2_with fail
  refine (of_of v F T X U _ v0 v1 HP.out.1 HP.out.2.1 HP.out.2.2.1 HP.out.2.2.2 rfl _).mono ?_; rintro e W1 ⟨rfl, hg⟩
  have HG := hid (grown_trans (grown_alloc Hr.out _) hg)
  have E1 := hid ((EntAt.new W 0 false false false).kept0 hg)
  clear hg
  obtain ⟨k0, k1, k2, k3, kf, kl⟩ := E1.out.all
  go_wp2
  go_region
  go_wp2
  refine bodyPost_ret (v := .tuple #[.agg #[.int .i64 F, .bool T, .bool X, .bool U], .bool T]) (by simp [results, Tryz.results179, k0, k1, k2, k3, kl, go_sem]) rfl ?_
  exact ⟨rfl, grown_new (b := W.heap.size) (by (repeat (first | apply grown_drew | apply grown_alloc | apply grown_setCell)); exact grown_none HG.out) (Nat.le_refl _)⟩
/-- the answer where there is none -/
def NoEnt (W : World) (e : Ending) (w' : World) : Prop := e = .returned (.tuple #[.agg #[.int .i64 0, .bool false, .bool false, .bool false], .bool false]) ∧ W.grownBy w' none
theorem page_out (root page : Int) (m : Nat) (W : World) (hp : page < 0 ∨ 256 ≤ page) :
    Calls Tryz.prog 170 #[.pointer (some ⟨m, 0, none⟩), .int .i64 root, .int .i64 page] W (NoEnt W) := by
  have Hr := hid (grown_refl W none)
  rcases hp with hp | hp
  · go_enter Tryz.func170, Tryz.ntmps170
    go_wp2
    refine bodyPost_ret (v := .tuple #[.agg #[.int .i64 0, .bool false, .bool false, .bool false], .bool false]) (by simp [results, Tryz.results170, go_sem]) rfl ?_
    exact ⟨rfl, grown_alloc Hr.out _⟩
  · have h0 : ¬ page < 0 := by omega
    go_enter Tryz.func170, Tryz.ntmps170
    go_wp2
    refine bodyPost_ret (v := .tuple #[.agg #[.int .i64 0, .bool false, .bool false, .bool false], .bool false]) (by simp [results, Tryz.results170, go_sem]) rfl ?_
    exact ⟨rfl, grown_alloc Hr.out _⟩
set_option maxRecDepth 100000 in
set_option maxHeartbeats 1000000 in
theorem page_root (h : MemAt W m b n c xs) (root page : Int) (h0 : 0 ≤ page) (h1 : page < 256) (hr : root < 0 ∨ (n : Int) ≤ root) :
    Calls Tryz.prog 170 #[.pointer (some ⟨m, 0, none⟩), .int .i64 root, .int .i64 page] W (NoEnt W) := by
  have H := hid (h.kept0 (World.grownBy_alloc W (.cells #[.int .i64 0, .bool false, .bool false, .bool false] 80) none))
  have Hr := hid (grown_refl W none)
  have HR := hid hr
  have h2 : ¬ page < 0 := by omega
  clear h hr
  go_enter Tryz.func170, Tryz.ntmps170
  go_wp2_with fail
  refine (entry_no H.out root _ HR.out).mono ?_; rintro e W1 ⟨rfl, hg⟩
  have HG := hid (grown_trans (grown_alloc Hr.out _) hg)
  have E1 := hid ((EntAt.new W 0 false false false).kept0 hg)
  clear hg
  obtain ⟨k0, k1, k2, k3, kf, kl⟩ := E1.out.all
  go_wp2
  refine bodyPost_ret (v := .tuple #[.agg #[.int .i64 0, .bool false, .bool false, .bool false], .bool false]) (by simp [results, Tryz.results170, k0, k1, k2, k3, kl, go_sem]) rfl ?_
  exact ⟨rfl, grown_new (b := W.heap.size) (by (repeat (first | apply grown_drew | apply grown_alloc | apply grown_setCell)); exact grown_none HG.out) (Nat.le_refl _)⟩
set_option maxRecDepth 100000 in
set_option maxHeartbeats 1000000 in
theorem page_dead (h : MemAt W m b n c xs) (R P : Nat) (hR : R < n) (hP : P < 256) (v : Int) (hv : xs[R * 16 + P / 16]? = some v) (v0 : 0 ≤ v) (v1 : v < 4294967296) (hd : liveB v = false) (a j : Int) (ha : a = (R : Int)) (hj : j = (P : Int)) :
    Calls Tryz.prog 170 #[.pointer (some ⟨m, 0, none⟩), .int .i64 a, .int .i64 j] W (NoEnt W) := by
  subst ha; subst hj
  have H := hid (h.kept0 (World.grownBy_alloc W (.cells #[.int .i64 0, .bool false, .bool false, .bool false] 80) none))
  have Hr := hid (grown_refl W none)
  have Hv := hid hv
  have HR := hid hR
  have Hd := hid (liveO_no hd)
  have h2 : ¬ (P : Int) < 0 := by omega
  have h3 : (P : Int) < 256 := by omega
  clear h hv hd hR
  go_enter Tryz.func170, Tryz.ntmps170
  go_wp2_with fail
  refine (entry_yes H.out R (P / 16) HR.out (by omega) v Hv.out v0 v1 0 false false false (by rw [Hd.out]; rfl) (by rw [Hd.out]; rfl) (by rw [Hd.out]; rfl) (by rw [Hd.out]; rfl) _ _ rfl (by omega)).mono ?_; rintro e W1 ⟨rfl, hg⟩
  have HG := hid (grown_trans (grown_alloc Hr.out _) hg)
  have E1 := hid ((EntAt.new W 0 false false false).kept0 hg)
  clear hg
  obtain ⟨k0, k1, k2, k3, kf, kl⟩ := E1.out.all
  go_wp2
  refine bodyPost_ret (v := .tuple #[.agg #[.int .i64 0, .bool false, .bool false, .bool false], .bool false]) (by simp [results, Tryz.results170, k0, k1, k2, k3, kl, go_sem]) rfl ?_
  exact ⟨rfl, grown_new (b := W.heap.size) (by (repeat (first | apply grown_drew | apply grown_alloc | apply grown_setCell)); exact grown_none HG.out) (Nat.le_refl _)⟩
set_option maxRecDepth 100000 in
set_option maxHeartbeats 1000000 in
theorem page_none (h : MemAt W m b n c xs) (R P : Nat) (hR : R < n) (hP : P < 256) (v : Int) (hv : xs[R * 16 + P / 16]? = some v) (v0 : 0 ≤ v) (v1 : v < 4294967296) (hd : liveB v = true) (hn : (n : Int) ≤ v / 256) (a j : Int) (ha : a = (R : Int)) (hj : j = (P : Int)) :
    Calls Tryz.prog 170 #[.pointer (some ⟨m, 0, none⟩), .int .i64 a, .int .i64 j] W (NoEnt W) := by
  subst ha; subst hj
  have H := hid (h.kept0 (World.grownBy_alloc W (.cells #[.int .i64 0, .bool false, .bool false, .bool false] 80) none))
  have Hr := hid (grown_refl W none)
  have Hv := hid hv
  have HR := hid hR
  have Hd := hid (liveO_yes hd)
  have Ht := hid (tB_live hd)
  have h2 : ¬ (P : Int) < 0 := by omega
  have h3 : (P : Int) < 256 := by omega
  obtain ⟨F, hF⟩ : ∃ F, v / 256 = F := ⟨_, rfl⟩
  obtain ⟨X, hX⟩ : ∃ X, wB v = X := ⟨_, rfl⟩
  obtain ⟨U, hU⟩ : ∃ U, uB v = U := ⟨_, rfl⟩
  have HF := hid hF
  have HX := hid hX
  have HU := hid hU
  have Hn : Hid ((n : Int) ≤ F) := hid (by omega)
  clear h hv hd hR hF hX hU hn
  go_enter Tryz.func170, Tryz.ntmps170
  go_wp2_with fail
  refine (entry_yes H.out R (P / 16) HR.out (by omega) v Hv.out v0 v1 F true X U (by rw [Hd.out]; exact HF.out) (by rw [Hd.out]; exact Ht.out) (by rw [Hd.out]; exact HX.out) (by rw [Hd.out]; exact HU.out) _ _ rfl (by omega)).mono ?_; rintro e W1 ⟨rfl, hg⟩
  have HG := hid (grown_trans (grown_alloc Hr.out _) hg)
  have H1 := hid ((H.out.kept0 hg).kept0 (World.grownBy_alloc W1 (.cells #[.int .i64 F, .bool true, .bool X, .bool U] 80) none))
  have E1 := hid ((EntAt.new W 0 false false false).kept0 hg)
  clear hg H
  go_wp2_with fail
  refine (entry_no H1.out F _ (.inr Hn.out)).mono ?_; rintro e W2 ⟨rfl, hg⟩
  have HG2 := hid (grown_trans (grown_alloc HG.out _) hg)
  have E2 := hid ((E1.out.alloc _).kept0 hg)
  clear hg
  obtain ⟨k0, k1, k2, k3, kf, kl⟩ := E2.out.all
  go_wp2
  refine bodyPost_ret (v := .tuple #[.agg #[.int .i64 0, .bool false, .bool false, .bool false], .bool false]) (by simp [results, Tryz.results170, k0, k1, k2, k3, go_sem]) rfl ?_
  exact ⟨rfl, grown_new (b := W.heap.size) (by (repeat (first | apply grown_drew | apply grown_alloc | apply grown_setCell)); exact grown_none HG2.out) (Nat.le_refl _)⟩
set_option maxRecDepth 100000 in
set_option maxHeartbeats 1000000 in
theorem page_yes (h : MemAt W m b n c xs) (R P G : Nat) (hR : R < n) (hP : P < 256) (v : Int) (hv : xs[R * 16 + P / 16]? = some v) (v0 : 0 ≤ v) (v1 : v < 4294967296) (hd : liveB v = true) (hG : v / 256 = (G : Int)) (hn : G < n)
    (y : Int) (hy : xs[G * 16 + P % 16]? = some y) (y0 : 0 ≤ y) (y1 : y < 4294967296) (F : Int) (T X U : Bool) (hF : oF (liveO y) = F) (hT : oT (liveO y) = T) (hX : oW (liveO y) = X) (hU : oU (liveO y) = U) (a j : Int) (ha : a = (R : Int)) (hj : j = (P : Int)) :
    Calls Tryz.prog 170 #[.pointer (some ⟨m, 0, none⟩), .int .i64 a, .int .i64 j] W fun e w' => e = .returned (.tuple #[.agg #[.int .i64 F, .bool T, .bool X, .bool U], .bool T]) ∧ W.grownBy w' none := by
  subst ha; subst hj
  have H := hid (h.kept0 (World.grownBy_alloc W (.cells #[.int .i64 0, .bool false, .bool false, .bool false] 80) none))
  have Hr := hid (grown_refl W none)
  have Hv := hid hv
  have HR := hid hR
  have Hd := hid (liveO_yes hd)
  have Ht := hid (tB_live hd)
  have h2 : ¬ (P : Int) < 0 := by omega
  have h3 : (P : Int) < 256 := by omega
  obtain ⟨X', hX'⟩ : ∃ X, wB v = X := ⟨_, rfl⟩
  obtain ⟨U', hU'⟩ : ∃ U, uB v = U := ⟨_, rfl⟩
  have HG' := hid hG
  have HX' := hid hX'
  have HU' := hid hU'
  have Hn := hid hn
  have Hy := hid hy
  have HF := hid hF
  have HT := hid hT
  have HX := hid hX
  have HU := hid hU
  clear h hv hd hR hG hX' hU' hn hy hF hT hX hU
  go_enter Tryz.func170, Tryz.ntmps170
  go_wp2_with fail
  refine (entry_yes H.out R (P / 16) HR.out (by omega) v Hv.out v0 v1 (G : Int) true X' U' (by rw [Hd.out]; exact HG'.out) (by rw [Hd.out]; exact Ht.out) (by rw [Hd.out]; exact HX'.out) (by rw [Hd.out]; exact HU'.out) _ _ rfl (by omega)).mono ?_; rintro e W1 ⟨rfl, hg⟩
  have HG := hid (grown_trans (grown_alloc Hr.out _) hg)
  have H1 := hid ((H.out.kept0 hg).kept0 (World.grownBy_alloc W1 (.cells #[.int .i64 (G : Int), .bool true, .bool X', .bool U'] 80) none))
  have E1 := hid ((EntAt.new W 0 false false false).kept0 hg)
  clear hg H
  go_wp2_with fail
  refine (entry_yes H1.out G (P % 16) Hn.out (by omega) y Hy.out y0 y1 F T X U HF.out HT.out HX.out HU.out _ _ rfl (by omega)).mono ?_; rintro e W2 ⟨rfl, hg⟩
  have HG2 := hid (grown_trans (grown_alloc HG.out _) hg)
  have E2 := hid ((E1.out.alloc _).kept0 hg)
  clear hg
  obtain ⟨k0, k1, k2, k3, kf, kl⟩ := E2.out.all
  go_wp2
  refine bodyPost_ret (v := .tuple #[.agg #[.int .i64 F, .bool T, .bool X, .bool U], .bool T]) (by simp [results, Tryz.results170, k0, k1, k2, k3, go_sem]) rfl ?_
  exact ⟨rfl, grown_new (b := W.heap.size) (by (repeat (first | apply grown_drew | apply grown_alloc | apply grown_setCell)); exact grown_none HG2.out) (Nat.le_refl _)⟩
/-- Page -/
theorem page_any (h : MemAt W m b n c xs) (hu : U32s xs) (root page : Int) (F : Int) (T X U : Bool) (hF : oF (pageO xs n root page) = F) (hT : oT (pageO xs n root page) = T) (hX : oW (pageO xs n root page) = X) (hU : oU (pageO xs n root page) = U) :
    Calls Tryz.prog 170 #[.pointer (some ⟨m, 0, none⟩), .int .i64 root, .int .i64 page] W fun e w' => e = .returned (.tuple #[.agg #[.int .i64 F, .bool T, .bool X, .bool U], .bool T]) ∧ W.grownBy w' none := by
  have hlen := h.len
  by_cases h0 : page < 0 ∨ 256 ≤ page
  · rw [pageO_out (by omega)] at hF hT hX hU
    subst hF; subst hT; subst hX; subst hU
    exact page_out root page m W h0
  by_cases h1 : root < 0 ∨ (n : Int) ≤ root
  · rw [pageO_out (by omega)] at hF hT hX hU
    subst hF; subst hT; subst hX; subst hU
    exact page_root h root page (by omega) (by omega) h1
  obtain ⟨P, rfl⟩ := Int.eq_ofNat_of_zero_le (show 0 ≤ page by omega)
  obtain ⟨R, rfl⟩ := Int.eq_ofNat_of_zero_le (show 0 ≤ root by omega)
  obtain ⟨v, hv⟩ : ∃ v, xs[R * 16 + P / 16]? = some v := ⟨_, List.getElem?_eq_getElem (by omega)⟩
  obtain ⟨v0, v1⟩ := hu.get hv
  have hw := wordI_get hv (a := (R : Int) * 16 + (P : Int) / 16) (by omega)
  cases hd : liveB v
  · rw [pageO_dead hw (.inl hd)] at hF hT hX hU
    subst hF; subst hT; subst hX; subst hU
    exact page_dead h R P (by omega) (by omega) v hv v0 v1 hd _ _ rfl rfl
  by_cases hn : (n : Int) ≤ v / 256
  · rw [pageO_dead hw (.inr hn)] at hF hT hX hU
    subst hF; subst hT; subst hX; subst hU
    exact page_none h R P (by omega) (by omega) v hv v0 v1 hd hn _ _ rfl rfl
  obtain ⟨G, hG⟩ := Int.eq_ofNat_of_zero_le (show 0 ≤ v / 256 by omega)
  obtain ⟨y, hy⟩ : ∃ y, xs[G * 16 + P % 16]? = some y := ⟨_, List.getElem?_eq_getElem (by omega)⟩
  obtain ⟨y0, y1⟩ := hu.get hy
  have hw2 := wordI_get hy (a := v / 256 * 16 + (P : Int) % 16) (by omega)
  rw [pageO_in (by omega) (by omega) (by omega) (by omega) hw hd (by omega) hw2] at hF hT hX hU
  exact page_yes h R P G (by omega) (by omega) v hv v0 v1 hd hG (by omega) y hy y0 y1 F T X U hF hT hX hU _ _ rfl rfl
end
end Go.Proofs.YtkkbhifplbleiaaGreatDoor
