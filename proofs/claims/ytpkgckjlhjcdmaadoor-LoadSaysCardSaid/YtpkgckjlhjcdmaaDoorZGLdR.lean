/- facadesee's question about no error, and about what load tells: contracts. -/
import Derived.Test.YtpkgckjlhjcdmaaDoorZGLdC
import Derived.Test.YtpkgckjlhjcdmaaDoorZGRWalk
import Derived.Test.YtpkgckjlhjcdmaaDoorZGMem
import Derived.BigQuiet
import Derived.Deep.Cut
import Derived.Test.YtpkgckjlhjcdmaaDoorZRBoth
import Derived.Test.YtpkgckjlhjcdmaaDoorZGAluA
import Derived.Deep.RegionHeld3
namespace Go.Proofs.YtpkgckjlhjcdmaaDoor
open Go.RowKit
set_option maxRecDepth 100000 in
theorem none_any14 (w : World) : Calls Tryd.prog 99 #[] w fun e w' => e = .returned (faultV 0) ∧ w.grownBy w' none := by
  have Hr := hid (grown_refl w none)
  go_enter Tryd.func99, Tryd.ntmps99
  go_wp2
  refine bodyPost_ret (v := .agg #[.int .i64 0, .bool false, .int .i64 0]) (by simp [results, Tryd.results99, go_sem]) rfl ⟨rfl, grown_alloc Hr.out _⟩
set_option maxRecDepth 100000 in
set_option maxHeartbeats 1000000 in
theorem fault_none14 (w : World) : Calls Tryd.prog 80 #[.nilIface] w fun e w' => e = .returned (faultV 0) ∧ w.grownBy w' none := by
  go_enter Tryd.func80, Tryd.ntmps80
  go_wp2_with fail
  refine (none_any14 _).mono ?_; rintro e w2 ⟨rfl, hg⟩
  have HG2 := hid (grown_trans (World.grownBy_alloc w (.cells #[.int .i64 0, .bool false, .int .i64 0] 114) none) hg)
  have hblk : w2.heap[w.heap.size]? = some (.cells #[.int .i64 0, .bool false, .int .i64 0] 114 (0, 0)) := (hg.block _ (by simp) (by simp)).trans (heap_alloc_last _ _)
  have c0 : w2.cell? ⟨w.heap.size, 0, none⟩ = some (.int .i64 0) := by rw [cell_of_row w2 _ _ _ _ _ hblk]; rfl
  have c1 : w2.cell? ⟨w.heap.size, 1, none⟩ = some (.bool false) := by rw [cell_of_row w2 _ _ _ _ _ hblk]; rfl
  have c2 : w2.cell? ⟨w.heap.size, 2, none⟩ = some (.int .i64 0) := by rw [cell_of_row w2 _ _ _ _ _ hblk]; rfl
  have z0 := frozen_of_row w2 w.heap.size 0 _ _ hblk
  have z1 := frozen_of_row w2 w.heap.size 1 _ _ hblk
  have z2 := frozen_of_row w2 w.heap.size 2 _ _ hblk
  clear hblk hg
  unfold faultV
  go_wp2
  refine bodyPost_ret (v := .agg #[.int .i64 0, .bool false, .int .i64 0]) ?_ rfl ⟨rfl, ?_⟩
  · simp [results, Tryd.results80, go_sem, c0, c1, c2]
  · exact grown_new' (grown_setCell (grown_setCell (grown_setCell (grown_none HG2.out) _ _) _ _) _ _) (fun k hk => by obtain rfl := Option.some.inj hk; exact Nat.le_refl _)
set_option maxRecDepth 100000 in
set_option maxHeartbeats 1000000 in
theorem same_none14 {w : World} (d : Int) (r : Bool) (hr : ((0 : Int) == d) = r) :
    Calls Tryd.prog 53 #[.nilIface, faultV d] w fun e w' => e = .returned (.bool r) ∧ w.grownBy w' none := by
  have Hr := hid hr
  clear hr
  obtain ⟨v, hv⟩ : ∃ v : Value, .nilIface = v := ⟨_, rfl⟩
  have Hf : ∀ W, w.grownBy W none → Calls Tryd.prog 80 #[v] W fun e w' => e = .returned (faultV 0) ∧ W.grownBy w' none := fun W hW => by rw [← hv]; exact fault_none14 W
  have Hf := hid Hf
  rw [hv]
  clear hv
  unfold faultV
  go_enter Tryd.func53, Tryd.ntmps53
  go_wp2
  obtain ⟨W0, hW0⟩ : ∃ W0, W0 = w.alloc (.cells #[.int .i64 d, .bool false, .int .i64 0] 114) := ⟨_, rfl⟩
  rw [← hW0]
  have hb0 : W0.heap[w.heap.size]? = some (.cells #[.int .i64 d, .bool false, .int .i64 0] 114 (0, 0)) := by rw [hW0]; exact heap_alloc_last _ _
  have c0 : W0.cell? ⟨w.heap.size, 0, none⟩ = some (.int .i64 d) := by rw [cell_of_row W0 _ _ _ _ _ hb0]; rfl
  have c1 : W0.cell? ⟨w.heap.size, 1, none⟩ = some (.bool false) := by rw [cell_of_row W0 _ _ _ _ _ hb0]; rfl
  have c2 : W0.cell? ⟨w.heap.size, 2, none⟩ = some (.int .i64 0) := by rw [cell_of_row W0 _ _ _ _ _ hb0]; rfl
  have hlt : w.heap.size < W0.heap.size := (Array.getElem?_eq_some_iff.1 hb0).1
  have hg0 : w.grownBy W0 none := by rw [hW0]; exact World.grownBy_alloc _ _ _
  clear hW0 hb0
  go_region_held3 (fun W => W.cell? ⟨w.heap.size, 0, none⟩ = some (.int .i64 d) ∧ W.cell? ⟨w.heap.size, 1, none⟩ = some (.bool false) ∧ W.cell? ⟨w.heap.size, 2, none⟩ = some (.int .i64 0) ∧ w.heap.size < W.heap.size ∧ w.grownBy W none)
    (first | (exact ⟨c0, c1, c2, hlt, grown_drew hg0⟩) | (go_split_ands; exact ⟨(grown_cell hcb (by assumption) (by simp)).trans (by assumption), (grown_cell hcb (by assumption) (by simp)).trans (by assumption), (grown_cell hcb (by assumption) (by simp)).trans (by assumption), Nat.lt_of_lt_of_le (by assumption) hcb.size, grown_trans (by assumption) hcb⟩))
    (first
      | (go_split_ands; go_at_call 80; refine (Hf.out _ (by assumption)).mono ?_; rintro e w' ⟨rfl, hcb⟩)
      | (go_split_ands; go_at_call 79; refine (same_fault _ d _ r Hr.out).mono ?_; rintro e w' ⟨rfl, hcb⟩))
  go_wp2
  go_ret
  go_split_ands
  exact ⟨rfl, by assumption⟩
set_option maxRecDepth 100000 in
theorem is_none14 {w : World} (d : Int) (r : Bool) (hr : ((0 : Int) == d) = r) :
    Calls Tryd.prog 27 #[.nilIface, .int .i64 d] w fun e w' => e = .returned (.bool r) ∧ w.grownBy w' none := by
  have Hr := hid hr
  clear hr
  obtain ⟨v, hv⟩ : ∃ v : Value, .nilIface = v := ⟨_, rfl⟩
  have Hf : ∀ W, w.grownBy W none → Calls Tryd.prog 53 #[v, faultV d] W fun e w' => e = .returned (.bool r) ∧ W.grownBy w' none := fun W hW => by rw [← hv]; exact same_none14 d r Hr.out
  have Hf := hid Hf
  rw [hv]
  clear hv
  go_enter Tryd.func27, Tryd.ntmps27
  go_wp2_with fail
  refine (bare_any d w).mono ?_; rintro e w1 ⟨rfl, hg⟩
  have HG1 := hid hg
  clear hg
  go_wp2_with fail
  refine (Hf.out _ HG1.out).mono ?_; rintro e w2 ⟨rfl, hg⟩
  have HG2 := hid (grown_trans HG1.out hg)
  clear hg
  go_wp2
  go_ret
  exact ⟨rfl, HG2.out⟩
theorem is14 {A : Nat → Addr} {w : World} (h : Sents w A) {r : Int} (hr : r = 104 ∨ r = 103 ∨ r = 0) :
    Calls Tryd.prog 27 #[lvV A r, .int .i64 r] w fun e w' => e = .returned (.bool true) ∧ w.grownBy w' none := by
  rcases hr with rfl | rfl | rfl
  · exact is_sent h 3 (by decide) 104 true rfl
  · exact is_sent h 2 (by decide) 103 true rfl
  · exact is_none14 0 true rfl
theorem codeB_cases (x : Ig) (q : Int) : codeB x q = 104 ∨ codeB x q = 103 ∨ codeB x q = 0 := by
  unfold codeB
  rcases valI_cases x with h | h | h <;> rw [h]
  · exact .inl rfl
  · exact .inr (.inl rfl)
  · rw [if_neg (by decide)]
    by_cases h2 : q < (quoI x : Int) ∨ 256 < q
    · rw [if_pos h2]; exact .inr (.inl rfl)
    · rw [if_neg h2]; exact .inr (.inr rfl)
end Go.Proofs.YtpkgckjlhjcdmaaDoor
/- The document's images: whether one may be, pages, quota, one page: contracts. -/
namespace Go.Proofs.YtpkgckjlhjcdmaaDoor
open Go.RowKit
set_option maxRecDepth 100000 in
set_option maxHeartbeats 2000000 in
theorem rvalid_image {V : IV} {x : Ig} (W : World) (h : ImAt W V x) (hd : V.dn ≤ 1000000) (hc : V.cn ≤ 1000000) (r : Int) (hr : valI x = r) :
    Calls Tryd.prog 22 #[.agg (imgC V x.e)] W fun e' w' => e' = .returned (.int .i64 r) ∧ W.grownBy w' none := by
  subst hr
  obtain ⟨e, D, C⟩ := x
  have hdl := h.dl
  have hcl := h.cl
  have e0 := h.e0
  have e1 := h.e1
  obtain ⟨dp, dn, dc, cp, cn, cc, rp, rn, rc, pp, pn, pc, sp, sn, sc⟩ := V
  simp only at hd hc hdl hcl e0 e1 ⊢
  have Hal := hid (World.grownBy_alloc W (.cells (imgC ⟨dp, dn, dc, cp, cn, cc, rp, rn, rc, pp, pn, pc, sp, sn, sc⟩ e) 29) none)
  clear h
  unfold valI
  simp only [hdl, hcl]
  by_cases c1 : 2048 < dn
  · rw [if_pos (Or.inl c1)]
    have i1 : (2048 : Int) < (dn : Int) := by omega
    go_enter Tryd.func22, Tryd.ntmps22
    go_wp2
    go_ret
    exact ⟨rfl, Hal.out⟩
  · by_cases c2 : 2048 < cn
    · rw [if_pos (Or.inr c2)]
      have i1 : ¬ (2048 : Int) < (dn : Int) := by omega
      have i2 : (2048 : Int) < (cn : Int) := by omega
      go_enter Tryd.func22, Tryd.ntmps22
      go_wp2
      go_ret
      exact ⟨rfl, Hal.out⟩
    · rw [if_neg (by omega)]
      have i1 : ¬ (2048 : Int) < (dn : Int) := by omega
      have i2 : ¬ (2048 : Int) < (cn : Int) := by omega
      have i3 : (0 : Int) ≤ (cn : Int) := by omega
      by_cases c3 : e < 2048
      · rw [if_pos (Or.inl c3)]
        go_enter Tryd.func22, Tryd.ntmps22
        go_wp2
        go_ret
        exact ⟨rfl, Hal.out⟩
      · by_cases c4 : 2048 + (cn : Int) ≤ e
        · rw [if_pos (Or.inr c4)]
          go_enter Tryd.func22, Tryd.ntmps22
          go_wp2
          go_ret
          exact ⟨rfl, Hal.out⟩
        · rw [if_neg (by omega)]
          go_enter Tryd.func22, Tryd.ntmps22
          go_wp2
          go_ret
          exact ⟨rfl, Hal.out⟩
set_option maxRecDepth 100000 in
set_option maxHeartbeats 2000000 in
theorem rpages_any (V : IV) (e : Int) (W : World) (hd : V.dn ≤ 1000000) (hc : V.cn ≤ 1000000) (D C : Nat) (hD : (V.dn + 15) / 16 = D) (hC : (V.cn + 15) / 16 = C) :
    Calls Tryd.prog 24 #[.agg (imgC V e)] W fun e' w' => e' = .returned (.tuple #[.int .i64 D, .int .i64 C]) ∧ W.grownBy w' none := by
  obtain ⟨dp, dn, dc, cp, cn, cc, rp, rn, rc, pp, pn, pc, sp, sn, sc⟩ := V
  simp only at hd hc hD hC
  have Hr := hid (grown_refl W none)
  have hq1 : ((dn : Int) + 16 - 1) / 16 = (D : Int) := by omega
  have hq2 : ((cn : Int) + 16 - 1) / 16 = (C : Int) := by omega
  have h0 : (0 : Int) ≤ (dn : Int) + 16 - 1 := by omega
  have h1 : (dn : Int) ≤ 1000000 := by omega
  have h2 : (0 : Int) ≤ (cn : Int) + 16 - 1 := by omega
  have h3 : (cn : Int) ≤ 1000000 := by omega
  have Hq := hid (And.intro hq1 hq2)
  clear hd hc hD hC hq1 hq2
  go_enter Tryd.func24, Tryd.ntmps24
  go_wp2
  go_quiet (fail)
  go_wp2
  go_ret2
  rw [Hq.out.1, Hq.out.2]
  exact ⟨rfl, grown_drewN (grown_alloc Hr.out _) _⟩
set_option maxRecDepth 100000 in
set_option maxHeartbeats 1000000 in
theorem rquota_any (V : IV) (e : Int) (W : World) (hd : V.dn ≤ 1000000) (hc : V.cn ≤ 1000000) (Q : Nat) (hQ : 17 + (V.dn + 15) / 16 = Q) :
    Calls Tryd.prog 30 #[.agg (imgC V e)] W fun e' w' => e' = .returned (.int .i64 Q) ∧ W.grownBy w' none := by
  have al := World.grownBy_alloc W (.cells (imgC V e) 29) none
  have HX := hid (RwAt.new W 29 (imgC V e))
  have HG := hid al
  obtain ⟨D, hD⟩ : ∃ D, (V.dn + 15) / 16 = D := ⟨_, rfl⟩
  have hq : 17 + (D : Int) = (Q : Int) := by omega
  have hb : (D : Int) ≤ 1000000 := by omega
  have H1 := hid (fun W => rpages_any V e W hd hc D _ hD rfl)
  clear hd hc hD hQ al
  go_enter Tryd.func30, Tryd.ntmps30
  go_upto_region 1 with (fail)
  generalize W.alloc (.cells (imgC V e) 29) = w1 at HX HG ⊢
  generalize W.heap.size = I at HX ⊢
  go_wp2_with (first
    | (refine wpList_load_im (by kernel_rfl) _ rfl rfl HX.out ?_)
    | fail)
  refine (H1.out _).mono ?_; rintro e w1 ⟨rfl, hg⟩
  have HG2 := hid (grown_trans HG.out hg)
  clear hg HG HX
  go_wp2
  go_ret
  exact ⟨rfl, HG2.out⟩
/-- a page, its first j words filled in -/
def pgF (l : List Int) (p j : Nat) : List Int := (List.range 16).map fun k => if k < j then l.getD (16 * p + k) 0 else 0
theorem pgF_length (l : List Int) (p j : Nat) : (pgF l p j).length = 16 := by simp [pgF]
theorem pgF_zero (l : List Int) (p : Nat) : pgF l p 0 = List.replicate 16 0 := by
  apply List.ext_getElem?
  intro k
  unfold pgF
  by_cases h : k < 16
  · rw [List.getElem?_map, List.getElem?_range h, List.getElem?_replicate, if_pos h]; rfl
  · rw [List.getElem?_eq_none (by simp; omega), List.getElem?_eq_none (by simp; omega)]
theorem pgF_set {l : List Int} {p j : Nat} : (pgF l p j).set j (l.getD (16 * p + j) 0) = pgF l p (j + 1) := by
  apply rng_set
  intro k _
  by_cases e : k = j
  · subst e; rw [if_pos rfl, if_pos (by omega)]
  · rw [if_neg e]
    by_cases a : k < j
    · rw [if_pos a, if_pos (by omega)]
    · rw [if_neg a, if_neg (by omega)]
theorem pgF_all {l : List Int} {p j : Nat} (h : 16 ≤ j ∨ l.length ≤ 16 * p + j) : pgF l p j = pgW l p := by
  unfold pgF pgW
  refine List.map_congr_left fun k hk => ?_
  have hk := List.mem_range.1 hk
  by_cases a : k < j
  · rw [if_pos a]
  · rw [if_neg a, List.getD, List.getElem?_eq_none (by omega)]; rfl
set_option maxRecDepth 100000 in
set_option maxHeartbeats 4000000 in
theorem rpgo_no {V : IV} {x : Ig} (W : World) (h : ImAt W V x) (hd : V.dn ≤ 1000000) (hc : V.cn ≤ 1000000) (k : Int) (hk : pageI x k = none) (k0 : -9223372036854775808 ≤ k) (k1 : k ≤ 9223372036854775807) :
    Calls Tryd.prog 26 #[.agg (imgC V x.e), .int .i64 k] W fun e' w' => e' = .returned (.tuple #[.slice none 0 0, .bool false]) ∧ W.grownBy w' none := by
  have hdl := h.dl
  have hcl := h.cl
  obtain ⟨dp, dn, dc, cp, cn, cc, rp, rn, rc, pp, pn, pc, sp, sn, sc⟩ := V
  simp only at hd hc hdl hcl
  obtain ⟨D, hD⟩ : ∃ D, (dn + 15) / 16 = D := ⟨_, rfl⟩
  obtain ⟨C, hC⟩ : ∃ C, (cn + 15) / 16 = C := ⟨_, rfl⟩
  have HP := hid (fun W => rpages_any ⟨dp, dn, dc, cp, cn, cc, rp, rn, rc, pp, pn, pc, sp, sn, sc⟩ x.e W (by simp only; omega) (by simp only; omega) D C hD hC)
  have al := World.grownBy_alloc W (.cells (imgC ⟨dp, dn, dc, cp, cn, cc, rp, rn, rc, pp, pn, pc, sp, sn, sc⟩ x.e) 29) none
  have HX := hid (RwAt.new W 29 (imgC ⟨dp, dn, dc, cp, cn, cc, rp, rn, rc, pp, pn, pc, sp, sn, sc⟩ x.e))
  have HG := hid al
  have hw : (k < 128 ∧ (k < 0 ∨ (D : Int) ≤ k)) ∨ (128 ≤ k ∧ (C : Int) ≤ k - 128) := by
    unfold pageI pageOfI pgN at hk
    rw [hdl, hcl, hD, hC] at hk
    by_cases h1 : k < 128
    · rw [if_pos h1] at hk
      split at hk
      · cases hk
      · omega
    · rw [if_neg h1] at hk
      split at hk
      · cases hk
      · omega
  have Hw := hid hw
  clear h hk hdl hcl hD hC al hw hd hc
  rcases Hw.out with ⟨h1, h2⟩ | ⟨h1, h2⟩
  · have h1' : ¬ 128 ≤ k := by omega
    by_cases h3 : k < 0
    all_goals
      go_enter Tryd.func26, Tryd.ntmps26
      go_upto_region 1 with (fail)
      generalize W.alloc (.cells (imgC ⟨dp, dn, dc, cp, cn, cc, rp, rn, rc, pp, pn, pc, sp, sn, sc⟩ x.e) 29) = w1 at HX HG ⊢
      generalize W.heap.size = I at HX ⊢
      go_wp2_with (first
        | (refine wpList_load_im (by kernel_rfl) _ rfl rfl HX.out ?_)
        | fail)
      refine (HP.out _).mono ?_; rintro e w2 ⟨rfl, hg⟩
      have HG2 := hid (grown_trans HG.out hg)
      have HX2 := hid (HX.out.kept0 hg)
      have c1 := HX2.out.cell 1 (v := .slice dp dn dc) rfl
      have c2 := HX2.out.cell 2 (v := .slice cp cn cc) rfl
      clear hg HG HX
      go_wp2
      all_goals try (exfalso; omega)
      go_ret2
      exact ⟨rfl, HG2.out⟩
  · have h3 : ¬ k - 128 < 0 := by omega
    go_enter Tryd.func26, Tryd.ntmps26
    go_upto_region 1 with (fail)
    generalize W.alloc (.cells (imgC ⟨dp, dn, dc, cp, cn, cc, rp, rn, rc, pp, pn, pc, sp, sn, sc⟩ x.e) 29) = w1 at HX HG ⊢
    generalize W.heap.size = I at HX ⊢
    go_wp2_with (first
      | (refine wpList_load_im (by kernel_rfl) _ rfl rfl HX.out ?_)
      | fail)
    refine (HP.out _).mono ?_; rintro e w2 ⟨rfl, hg⟩
    have HG2 := hid (grown_trans HG.out hg)
    have HX2 := hid (HX.out.kept0 hg)
    have c1 := HX2.out.cell 1 (v := .slice dp dn dc) rfl
    have c2 := HX2.out.cell 2 (v := .slice cp cn cc) rfl
    clear hg HG HX
    go_wp2
    all_goals try (exfalso; omega)
    go_ret2
    exact ⟨rfl, HG2.out⟩
end Go.Proofs.YtpkgckjlhjcdmaaDoor
/- The document's images: one page, an entry's word, the processor: contracts. -/
namespace Go.Proofs.YtpkgckjlhjcdmaaDoor
open Go.RowKit
theorem made16L (W : World) : (Instr.makeSlice 26 (.int .i64 16) (.int .i64 16)).run Tryd.prog W = .ok (.slice (some ⟨W.heap.size, 0, none⟩) 16 16) (W.alloc (.cells #[.int .u32 0, .int .u32 0, .int .u32 0, .int .u32 0, .int .u32 0, .int .u32 0, .int .u32 0, .int .u32 0, .int .u32 0, .int .u32 0, .int .u32 0, .int .u32 0, .int .u32 0, .int .u32 0, .int .u32 0, .int .u32 0] 25)) := (made16 W).trans rfl
/-- a page that is filled in -/
structure RpgW (W w : World) (g : Nat) (l : List Int) (p j : Nat) : Prop where
  gr : W.grownBy w none
  blk : RwAt w g 25 (wA (pgF l p j))
  ge : W.heap.size ≤ g
theorem RpgW.new {W w : World} {l : List Int} {p : Nat} (h : W.grownBy w none) : RpgW W (w.alloc (.cells #[.int .u32 0, .int .u32 0, .int .u32 0, .int .u32 0, .int .u32 0, .int .u32 0, .int .u32 0, .int .u32 0, .int .u32 0, .int .u32 0, .int .u32 0, .int .u32 0, .int .u32 0, .int .u32 0, .int .u32 0, .int .u32 0] 25)) w.heap.size l p 0 := by
  refine ⟨grown_alloc h _, ⟨?_⟩, h.size⟩
  rw [pgF_zero]
  have := heap_alloc_last w (.cells #[.int .u32 0, .int .u32 0, .int .u32 0, .int .u32 0, .int .u32 0, .int .u32 0, .int .u32 0, .int .u32 0, .int .u32 0, .int .u32 0, .int .u32 0, .int .u32 0, .int .u32 0, .int .u32 0, .int .u32 0, .int .u32 0] 25)
  rw [this]
  rfl
theorem RpgW.there {W w : World} {g p j : Nat} {l : List Int} (h : RpgW W w g l p j) (hj : j < 16) : ∃ y, w.cell? ⟨g, j, none⟩ = some (.int .u32 y) := by
  have hl := pgF_length l p j
  refine ⟨(pgF l p j)[j]'(by omega), h.blk.cell j ?_⟩
  rw [wA_get, List.getElem?_eq_getElem (by omega)]; rfl
theorem RpgW.put {W w : World} {g p j : Nat} {l : List Int} (h : RpgW W w g l p j) : RpgW W (w.setCell ⟨g, j, none⟩ (.int .u32 (l.getD (16 * p + j) 0))) g l p (j + 1) := by
  have hb := h.blk.set j (.int .u32 (l.getD (16 * p + j) 0))
  rw [wA_set, pgF_set] at hb
  exact ⟨grown_new' (grown_trans (grown_none h.gr) (grown_setCell (grown_refl w (some g)) j _)) (fun k hk => by obtain rfl := Option.some.inj hk; exact h.ge), hb, h.ge⟩
theorem RpgW.sl {W w : World} {g p j : Nat} {l : List Int} (h : RpgW W w g l p j) : SlAt w .u32 (.slice (some ⟨g, 0, none⟩) 16 16) (pgF l p j) := by
  have := SlAt.whole (k := .u32) (c := 16) (xs := pgF l p j) h.blk.blk
  rwa [pgF_length] at this
set_option maxRecDepth 100000 in
set_option maxHeartbeats 8000000 in
theorem rpgo_yes {V : IV} {x : Ig} (W : World) (h : ImAt W V x) (hd : V.dn ≤ 1000000) (hc : V.cn ≤ 1000000) (k : Int) {L : List Int} (hk : pageI x k = some L) (k0 : -9223372036854775808 ≤ k) (k1 : k ≤ 9223372036854775807) :
    Calls Tryd.prog 26 #[.agg (imgC V x.e), .int .i64 k] W (PgAt W L) := by
  have ddl' := h.dl
  have cdl' := h.cl
  have Hi := hid h
  obtain ⟨dp, dn, dc, cp, cn, cc, rp, rn, rc, pp, pn, pc, sp, sn, sc⟩ := V
  simp only at hd hc ddl' cdl'
  obtain ⟨D, hD⟩ : ∃ D, (dn + 15) / 16 = D := ⟨_, rfl⟩
  obtain ⟨C, hC⟩ : ∃ C, (cn + 15) / 16 = C := ⟨_, rfl⟩
  have HP := hid (fun W => rpages_any ⟨dp, dn, dc, cp, cn, cc, rp, rn, rc, pp, pn, pc, sp, sn, sc⟩ x.e W (by simp only; omega) (by simp only; omega) D C hD hC)
  have al := World.grownBy_alloc W (.cells (imgC ⟨dp, dn, dc, cp, cn, cc, rp, rn, rc, pp, pn, pc, sp, sn, sc⟩ x.e) 29) none
  have HX := hid (RwAt.new W 29 (imgC ⟨dp, dn, dc, cp, cn, cc, rp, rn, rc, pp, pn, pc, sp, sn, sc⟩ x.e))
  have HG := hid al
  have hw : (k < 128 ∧ 0 ≤ k ∧ k < (D : Int)) ∨ (128 ≤ k ∧ k - 128 < (C : Int)) := by
    unfold pageI pageOfI pgN at hk
    rw [ddl', cdl', hD, hC] at hk
    by_cases h1 : k < 128
    · rw [if_pos h1] at hk
      split at hk
      · omega
      · cases hk
    · rw [if_neg h1] at hk
      split at hk
      · omega
      · cases hk
  have Hw := hid hw
  clear h al hw
  rcases Hw.out with ⟨h1, h2, h3⟩ | ⟨h1, h2⟩
  · clear Hw
    have h1' : ¬ 128 ≤ k := by omega
    obtain ⟨p, hpk⟩ := Int.eq_ofNat_of_zero_le (show 0 ≤ k by omega)
    subst hpk
    have p0 : (0 : Int) ≤ (p : Int) := by omega
    have hpD : (p : Int) < (D : Int) := by omega
    have hpD2 : ¬ (D : Int) ≤ (p : Int) := by omega
    have hLp : L = pgW x.D p := by
      rw [pageI_low h1, pageOfI_some (by unfold pgN; rw [ddl', hD]; omega)] at hk
      exact (Option.some.inj hk).symm
    subst hLp
    have hnn : (dn : Int) ≤ 1000000 := by omega
    have hp16 : (p : Int) ≤ 1000000 := by omega
    clear hk
    go_enter Tryd.func26, Tryd.ntmps26
    go_upto_region 1 with (fail)
    generalize W.alloc (.cells (imgC ⟨dp, dn, dc, cp, cn, cc, rp, rn, rc, pp, pn, pc, sp, sn, sc⟩ x.e) 29) = w1 at HX HG ⊢
    obtain ⟨I, hI⟩ : ∃ I, W.heap.size = I := ⟨_, rfl⟩
    rw [hI] at HX ⊢
    clear hI
    go_wp2_with (first
      | (refine wpList_load_im (by kernel_rfl) _ rfl rfl HX.out ?_)
      | fail)
    refine (HP.out _).mono ?_; rintro e w2 ⟨rfl, hg⟩
    have HG2 := hid (grown_trans HG.out hg)
    have HX2 := hid (HX.out.kept0 hg)
    have c1 := HX2.out.cell 1 (v := .slice dp dn dc) rfl
    have c2 := HX2.out.cell 2 (v := .slice cp cn cc) rfl
    have hmk := made16L
    clear hg HG HX
    go_upto_region 11 with (fail)
    all_goals try (exfalso; omega)
    have HB0 : Hid (RpgW W (w2.alloc (.cells #[.int .u32 0, .int .u32 0, .int .u32 0, .int .u32 0, .int .u32 0, .int .u32 0, .int .u32 0, .int .u32 0, .int .u32 0, .int .u32 0, .int .u32 0, .int .u32 0, .int .u32 0, .int .u32 0, .int .u32 0, .int .u32 0] 25)) w2.heap.size x.D p 0) := hid (RpgW.new HG2.out)
    clear hmk c1 c2
    obtain ⟨g, hg⟩ : ∃ g, w2.heap.size = g := ⟨_, rfl⟩
    rw [hg] at HB0 ⊢
    clear hg
    generalize w2.alloc (.cells #[.int .u32 0, .int .u32 0, .int .u32 0, .int .u32 0, .int .u32 0, .int .u32 0, .int .u32 0, .int .u32 0, .int .u32 0, .int .u32 0, .int .u32 0, .int .u32 0, .int .u32 0, .int .u32 0, .int .u32 0, .int .u32 0] 25) = w3 at HB0 ⊢
    go_wp2
    go_loopw [11] (fun i wr => ∃ j : Nat, j ≤ 16 ∧ i = .int .i64 j ∧ Hid (RpgW W wr g x.D p j)) (fun i _ => 16 - (intOf i).toNat)
    case atStart => exact ⟨0, Nat.zero_le _, rfl, HB0⟩
    case round =>
      clear HB0
      obtain ⟨j, hj, rfl, HR⟩ := hrel
      have j0 : (0 : Int) ≤ (j : Int) := by omega
      obtain ⟨T, hT⟩ : ∃ T, p * 16 + j = T := ⟨_, rfl⟩
      have hT1 : (p : Int) * 16 + (j : Int) = (T : Int) := by omega
      have HT := hid hT
      have t0 : (0 : Int) ≤ (T : Int) := by omega
      have t1 : (T : Int) ≤ 20000000 := by omega
      clear hT
      by_cases hlt : j < 16
      · have j1 : (j : Int) < 16 := by omega
        by_cases hin : T < dn
        · have hin1 : (T : Int) < (dn : Int) := by omega
          obtain ⟨bb, o, cap', hv, hb, hcell⟩ := sl_at ((Hi.out.kept0 HR.out.gr).d) (by have e := Hi.out.dl; simp only at e; omega)
          simp only [Value.slice.injEq] at hv
          obtain ⟨rfl, hv2, rfl⟩ := hv
          obtain ⟨z, hz⟩ : ∃ z, x.D.getD T 0 = z := ⟨_, rfl⟩
          have hcd := hcell T z (by
            have e := Hi.out.dl
            simp only at e
            rw [List.getD, List.getElem?_eq_getElem (by omega)] at hz
            rw [List.getElem?_eq_getElem (by omega)]
            exact congrArg some hz)
          obtain ⟨y0, hy0⟩ := HR.out.there hlt
          have hfr := HR.out.blk.free j
          have HR2 : Hid (RpgW W (wr.setCell ⟨g, j, none⟩ (.int .u32 z)) g x.D p (j + 1)) := hid (by
            have := HR.out.put (j := j)
            rw [show 16 * p + j = T by have := HT.out; omega, hz] at this
            exact this)
          clear hv2 hcell hb hz
          go_wp2
          clear hcd hy0 hfr
          go_roundw
          case rel => exact ⟨j + 1, by omega, by go_num, HR2⟩
          case measure => simp [intOf]; omega
        · have hin1 : ¬ (T : Int) < (dn : Int) := by omega
          have HF : Hid (pgF x.D p j = pgW x.D p) := hid (pgF_all (.inr (by have e := Hi.out.dl; simp only at e; have := HT.out; omega)))
          go_wp2
          go_ret2
          exact ⟨g, rfl, HR.out.ge, by rw [← HF.out]; exact HR.out.sl, HR.out.gr⟩
      · have j1 : ¬ (j : Int) < 16 := by omega
        have HF : Hid (pgF x.D p j = pgW x.D p) := hid (pgF_all (.inl (by omega)))
        go_wp2
        go_ret2
        exact ⟨g, rfl, HR.out.ge, by rw [← HF.out]; exact HR.out.sl, HR.out.gr⟩
  · clear Hw
    obtain ⟨p, hpk⟩ := Int.eq_ofNat_of_zero_le (show 0 ≤ k - 128 by omega)
    have hk2 : k - 128 = (p : Int) := hpk
    clear hpk
    have p0 : (0 : Int) ≤ (p : Int) := by omega
    have hpD : (p : Int) < (C : Int) := by omega
    have hpD2 : ¬ (C : Int) ≤ (p : Int) := by omega
    have hLp : L = pgW x.C p := by
      rw [pageI_high h1, hk2, pageOfI_some (by unfold pgN; rw [cdl', hC]; omega)] at hk
      exact (Option.some.inj hk).symm
    subst hLp
    have hnn : (cn : Int) ≤ 1000000 := by omega
    have hp16 : (p : Int) ≤ 1000000 := by omega
    clear hk
    go_enter Tryd.func26, Tryd.ntmps26
    go_upto_region 1 with (fail)
    generalize W.alloc (.cells (imgC ⟨dp, dn, dc, cp, cn, cc, rp, rn, rc, pp, pn, pc, sp, sn, sc⟩ x.e) 29) = w1 at HX HG ⊢
    obtain ⟨I, hI⟩ : ∃ I, W.heap.size = I := ⟨_, rfl⟩
    rw [hI] at HX ⊢
    clear hI
    go_wp2_with (first
      | (refine wpList_load_im (by kernel_rfl) _ rfl rfl HX.out ?_)
      | fail)
    refine (HP.out _).mono ?_; rintro e w2 ⟨rfl, hg⟩
    have HG2 := hid (grown_trans HG.out hg)
    have HX2 := hid (HX.out.kept0 hg)
    have c1 := HX2.out.cell 1 (v := .slice dp dn dc) rfl
    have c2 := HX2.out.cell 2 (v := .slice cp cn cc) rfl
    have hmk := made16L
    clear hg HG HX
    go_upto_region 11 with (fail)
    all_goals try (exfalso; omega)
    have HB0 : Hid (RpgW W (w2.alloc (.cells #[.int .u32 0, .int .u32 0, .int .u32 0, .int .u32 0, .int .u32 0, .int .u32 0, .int .u32 0, .int .u32 0, .int .u32 0, .int .u32 0, .int .u32 0, .int .u32 0, .int .u32 0, .int .u32 0, .int .u32 0, .int .u32 0] 25)) w2.heap.size x.C p 0) := hid (RpgW.new HG2.out)
    clear hmk c1 c2
    obtain ⟨g, hg⟩ : ∃ g, w2.heap.size = g := ⟨_, rfl⟩
    rw [hg] at HB0 ⊢
    clear hg
    generalize w2.alloc (.cells #[.int .u32 0, .int .u32 0, .int .u32 0, .int .u32 0, .int .u32 0, .int .u32 0, .int .u32 0, .int .u32 0, .int .u32 0, .int .u32 0, .int .u32 0, .int .u32 0, .int .u32 0, .int .u32 0, .int .u32 0, .int .u32 0] 25) = w3 at HB0 ⊢
    go_wp2
    go_loopw [11] (fun i wr => ∃ j : Nat, j ≤ 16 ∧ i = .int .i64 j ∧ Hid (RpgW W wr g x.C p j)) (fun i _ => 16 - (intOf i).toNat)
    case atStart => exact ⟨0, Nat.zero_le _, rfl, HB0⟩
    case round =>
      clear HB0
      obtain ⟨j, hj, rfl, HR⟩ := hrel
      have j0 : (0 : Int) ≤ (j : Int) := by omega
      obtain ⟨T, hT⟩ : ∃ T, p * 16 + j = T := ⟨_, rfl⟩
      have hT1 : (p : Int) * 16 + (j : Int) = (T : Int) := by omega
      have HT := hid hT
      have t0 : (0 : Int) ≤ (T : Int) := by omega
      have t1 : (T : Int) ≤ 20000000 := by omega
      clear hT
      by_cases hlt : j < 16
      · have j1 : (j : Int) < 16 := by omega
        by_cases hin : T < cn
        · have hin1 : (T : Int) < (cn : Int) := by omega
          obtain ⟨bb, o, cap', hv, hb, hcell⟩ := sl_at ((Hi.out.kept0 HR.out.gr).c) (by have e := Hi.out.cl; simp only at e; omega)
          simp only [Value.slice.injEq] at hv
          obtain ⟨rfl, hv2, rfl⟩ := hv
          obtain ⟨z, hz⟩ : ∃ z, x.C.getD T 0 = z := ⟨_, rfl⟩
          have hcd := hcell T z (by
            have e := Hi.out.cl
            simp only at e
            rw [List.getD, List.getElem?_eq_getElem (by omega)] at hz
            rw [List.getElem?_eq_getElem (by omega)]
            exact congrArg some hz)
          obtain ⟨y0, hy0⟩ := HR.out.there hlt
          have hfr := HR.out.blk.free j
          have HR2 : Hid (RpgW W (wr.setCell ⟨g, j, none⟩ (.int .u32 z)) g x.C p (j + 1)) := hid (by
            have := HR.out.put (j := j)
            rw [show 16 * p + j = T by have := HT.out; omega, hz] at this
            exact this)
          clear hv2 hcell hb hz
          go_wp2
          clear hcd hy0 hfr
          go_roundw
          case rel => exact ⟨j + 1, by omega, by go_num, HR2⟩
          case measure => simp [intOf]; omega
        · have hin1 : ¬ (T : Int) < (cn : Int) := by omega
          have HF : Hid (pgF x.C p j = pgW x.C p) := hid (pgF_all (.inr (by have e := Hi.out.cl; simp only at e; have := HT.out; omega)))
          go_wp2
          go_ret2
          exact ⟨g, rfl, HR.out.ge, by rw [← HF.out]; exact HR.out.sl, HR.out.gr⟩
      · have j1 : ¬ (j : Int) < 16 := by omega
        have HF : Hid (pgF x.C p j = pgW x.C p) := hid (pgF_all (.inl (by omega)))
        go_wp2
        go_ret2
        exact ⟨g, rfl, HR.out.ge, by rw [← HF.out]; exact HR.out.sl, HR.out.gr⟩
theorem rbits14 (f : Int) (w : Bool) (V : Int) (hV : bitV f true w true = V) (W : World) :
    Calls Tryd.prog 58 #[.int .i64 f, .bool w] W fun e w' => e = .returned (.int .u32 V) ∧ W.grownBy w' none := by
  have HB := hid (fun W => rbits_of f true w true V _ hV rfl W)
  have hb : (Instr.build 142 #[(0, .int .i64 f), (1, .bool true), (2, .bool w), (3, .bool true)]).run Tryd.prog W = .ok (.agg #[.int .i64 f, .bool true, .bool w, .bool true]) W := by kernel_rfl
  clear hV
  go_enter Tryd.func58, Tryd.ntmps58
  go_wp2_with fail
  refine (HB.out _).mono ?_; rintro e w1 ⟨rfl, hg⟩
  have HG := hid hg
  clear hg
  go_wp2
  go_ret
  exact ⟨rfl, HG.out⟩
end Go.Proofs.YtpkgckjlhjcdmaaDoor
/- Words copied, as a row of the call's own; the document's memory copied: contracts. -/
namespace Go.Proofs.YtpkgckjlhjcdmaaDoor
open Go.RowKit
set_option maxRecDepth 100000 in
set_option maxHeartbeats 1000000 in
theorem words_own14 {w : World} {b o c N : Nat} {ls : List Int} (hl : ls.length = N) (hN : N ≤ 1048576) (hb : b < w.heap.size) (hc : ∀ j x, ls[j]? = some x → w.cell? ⟨b, o + j, none⟩ = some (.int .u32 x)) :
    Calls Tryd.prog 49 #[.slice (some ⟨b, o, none⟩) N c] w fun e w' => ∃ v, e = .returned v ∧ w'.ownsRow w.heap.size 25 1 v N (ls.map (Value.int .u32)) ∧ w.grownBy w' none := by
  obtain ⟨i, hi, hz0, hz1, hz2⟩ := info_parts (P := Tryd.prog) (e := 25) (z := .int .u32 0) (size := 1) (bytes := 4) (by kernel_rfl)
  have hmk : ∃ C, Hid (C.size = N * 1) ∧ (Instr.makeSlice 26 (.int .i64 0) (.int .i64 N)).run Tryd.prog w = .ok (.slice (some ⟨w.heap.size, 0, none⟩) 0 N) (w.alloc (.cells C 25)) := by
    have := run_make (P := Tryd.prog) w 26 25 i _ Tryd.underlying26 hi hz0 .i64 .i64 0 N (by omega) (by omega) (by rw [hz2]; omega) (by omega)
    rw [hz1] at this
    simp only [Int.toNat_natCast, Int.toNat_zero] at this
    exact ⟨_, hid (size_madeCells _ _), this⟩
  obtain ⟨C, HC, hmk⟩ := hmk
  have Hi := hid hi
  have Hz0 := hid hz0
  have Hz1 := hid hz1
  have Hz2 := hid hz2
  have Hc := hid hc
  have Hl := hid hl
  clear hi hz0 hz1 hz2 hc hl
  go_enter Tryd.func49, Tryd.ntmps49
  go_wp2
  go_loopw [3, 4] (fun v i wr => ∃ k : Nat, k ≤ N ∧ i = .int .i64 k ∧ Hid (WRel w ls v k wr)) (fun _ i _ => N - (intOf i).toNat)
  case atStart => exact ⟨0, Nat.zero_le _, rfl, hid ⟨by simpa using World.ownsRow_made w C N (Nat.le_refl _) (by unfold maxLen; omega) HC.out, World.grownBy_alloc _ _ _⟩⟩
  case round =>
    obtain ⟨k, hk, rfl, HR⟩ := hrel
    by_cases hlt : k < N
    · obtain ⟨x, Hx⟩ : ∃ x, Hid (ls[k]? = some x) := ⟨_, hid (List.getElem?_eq_getElem (by rw [Hl.out]; exact hlt))⟩
      have hcx := (grown_cell (p := ⟨b, o + k, none⟩) HR.out.grown hb (by simp)).trans (Hc.out k x Hx.out)
      have hk0 : (0 : Int) ≤ (k : Int) := by omega
      have hk1 : (k : Int) < (N : Int) := by omega
      have Hown := hid (own_kept0 HR.out.own (World.grownBy_alloc wr (.cells #[.int .u32 x] 25) none))
      have Hnew := hid (one_new wr (.int .u32 x) 25)
      have H63 : Hid (k + 1 ≤ maxLen) := hid (by unfold maxLen; omega)
      have Hby : Hid ((k + 1) * 4 ≤ 140737488355328) := hid (by omega)
      have Hba : Hid (w.heap.size ≤ (wr.alloc (.cells #[.int .u32 x] 25)).heap.size) := hid (by have := HR.out.grown.size; simp; omega)
      go_wp2_with (refine wpList_append_own _ rfl _ _ 26 rfl w.heap.size 25 i _ 1 4 Tryd.underlying26 Hi.out Hz0.out Hz1.out Hz2.out rfl (by decide) _ _ _ rfl Hown.out ⟨wr.heap.size, 0, none⟩ 1 1 [.int .u32 x] rfl rfl Hnew.out (by simp [Value.oneCell']) H63.out Hby.out Hba.out ?_; intro v' w2 hown2 hgrow2 _; have HO := hid hown2; have HG := hid hgrow2; clear hown2 hgrow2)
      go_roundw
      case rel =>
        refine ⟨k + 1, by omega, by go_num, hid ⟨?_, ?_⟩⟩
        · rw [List.take_add_one, Hx.out, List.map_append]; exact HO.out
        · exact grown_new' (grown_trans (grown_none (grown_alloc HR.out.grown _)) HG.out) (fun g hg => (HR.out.own.lt g hg).1)
      case measure => simp [intOf]; omega
    · have hge : (N : Int) ≤ (k : Int) := by omega
      go_wp2
      go_ret
      obtain rfl : k = N := by omega
      have := HR.out.own
      rw [List.take_of_length_le (by rw [Hl.out]; omega)] at this
      exact ⟨_, rfl, this, HR.out.grown⟩
/-- the document's memory, a copy: its words in a row of the call's own -/
structure RefC (w : World) (base m g cap N : Nat) (xs : List Int) : Prop where
  hm : w.heap[m]? = some (.cells #[.slice (some ⟨g, 0, none⟩) N cap] 135 (0, 0))
  own : w.ownsRow base 25 1 (.slice (some ⟨g, 0, none⟩) N cap) N (xs.map (Value.int .u32))
  len : xs.length = N
  small : N ≤ 16384
section
variable {w w1 : World} {base m g cap N n : Nat} {xs : List Int}
theorem RefC.mlt (h : RefC w base m g cap N xs) : m < w.heap.size := (Array.getElem?_eq_some_iff.1 h.hm).1
theorem RefC.mcell (h : RefC w base m g cap N xs) : w.cell? ⟨m, 0, none⟩ = some (.slice (some ⟨g, 0, none⟩) N cap) := by
  rw [cell_of_row w m 0 _ _ _ h.hm]; rfl
theorem RefC.kept0 (h : RefC w base m g cap N xs) (hg : w.grownBy w1 none) : RefC w1 base m g cap N xs :=
  ⟨(hg.block _ h.mlt (by simp)).trans h.hm, h.own.kept hg (.inr (by simp [Value.ownBlock])), h.len, h.small⟩
theorem RefC.glt (h : RefC w base m g cap N xs) : g < w.heap.size := (h.own.lt g rfl).2
theorem RefC.caps (h : RefC w base m g cap N xs) : N ≤ cap ∧ cap ≤ maxLen := by
  rcases h.own.2 with ⟨hv, _⟩ | ⟨g', cap', cur, hv, _, _, h1, h2, _⟩
  · cases hv
  · simp only [Value.slice.injEq, Option.some.injEq, Addr.mk.injEq, and_true] at hv
    obtain ⟨_, _, rfl⟩ := hv
    exact ⟨h1, h2⟩
theorem RefC.cell (h : RefC w base m g cap N xs) {k : Nat} {x : Int} (hx : xs[k]? = some x) : w.cell? ⟨g, k, none⟩ = some (.int .u32 x) := by
  have := h.own.cells rfl k (.int .u32 x) (by rw [List.getElem?_map, hx]; rfl)
  rwa [Addr.add_mid, Nat.zero_add] at this
set_option maxRecDepth 100000 in
theorem rcframes_any (h : RefC w base m g cap N xs) (hn : N = n * 16) : Calls Tryd.prog 62 #[.pointer (some ⟨m, 0, none⟩)] w fun e w' => e = .returned (.int .i64 n) ∧ w = w' := by
  have hm := h.mcell
  have hs := h.small
  have hq : (N : Int) / 16 = (n : Int) := by omega
  have h0 : (0 : Int) ≤ (N : Int) := by omega
  clear hn
  go_enter Tryd.func62, Tryd.ntmps62
  go_wp2
  go_ret
  exact ⟨rfl, rfl⟩
set_option maxRecDepth 100000 in
set_option maxHeartbeats 1000000 in
theorem rcframe_yes (h : RefC w base m g cap N xs) (hn : N = n * 16) (f : Nat) (hf : f < n) :
    Calls Tryd.prog 66 #[.pointer (some ⟨m, 0, none⟩), .int .i64 f] w (RFrameAt w (frameOf xs f)) := by
  have hm := h.mcell
  have hs := h.small
  obtain ⟨hc1, hc2⟩ := h.caps
  have H := hid h
  have Hn := hid hn
  have Hl := hid (frameOf_length (xs := xs) (n := n) (by have := h.len; omega) hf)
  have Hc : Hid (∀ j x, (frameOf xs f)[j]? = some x → w.cell? ⟨g, f * 16 + j, none⟩ = some (.int .u32 x)) := hid (by
    intro j x hj
    have hj' : j < 16 := by have := (List.getElem?_eq_some_iff.1 hj).1; have := Hl.out; omega
    rw [frame_get hj'] at hj
    exact h.cell hj)
  have h0 : (0 : Int) ≤ (f : Int) := by omega
  have h1 : (f : Int) < (n : Int) := by omega
  obtain ⟨O, hO, HO⟩ : ∃ O : Nat, 16 * (f : Int) = (O : Int) ∧ Hid (O = f * 16) := ⟨f * 16, by omega, hid rfl⟩
  have h2 : O + 16 ≤ N := by have := HO.out; have := Hn.out; omega
  have h3 : O + 16 ≤ cap := by omega
  have hne : ¬ cap = O := by omega
  rw [← HO.out] at Hc
  clear h hn
  go_enter Tryd.func66, Tryd.ntmps66
  go_wp2_with fail
  refine (rcframes_any H.out Hn.out).mono ?_; rintro e w' ⟨rfl, rfl⟩
  go_wp2_with fail
  refine (words_any Hl.out (by omega) H.out.glt Hc.out).mono ?_; rintro e w1 ⟨v, rfl, hs1, hg⟩
  have HS := hid hs1
  have HG := hid hg
  clear hs1 hg
  go_wp2
  go_ret2
  exact ⟨v, rfl, HS.out, HG.out⟩
def RCloneAt (w : World) (N : Nat) (xs : List Int) (e : Ending) (w' : World) : Prop := ∃ m g cap, e = .returned (.pointer (some ⟨m, 0, none⟩)) ∧ RefC w' w.heap.size m g cap N xs ∧ w.grownBy w' none
set_option maxRecDepth 100000 in
theorem rclone_any {b : Nat} (h : RefAt w m b N xs) (hN : 0 < N) : Calls Tryd.prog 85 #[.pointer (some ⟨m, 0, none⟩)] w (RCloneAt w N xs) := by
  have hm := h.mcell
  have Hs := hid h.small
  have Hl := hid h.len
  have HN := hid hN
  have HW := hid (words_own14 (w := w) (b := b) (o := 0) (c := N) (N := N) (ls := xs) h.len (by have := h.small; omega) h.blt (fun j x hx => by rw [Nat.zero_add]; exact h.cell hx))
  clear h hN
  go_enter Tryd.func85, Tryd.ntmps85
  go_wp2_with fail
  refine (HW.out).mono ?_; rintro e w1 ⟨v, rfl, ho, hg⟩
  have hv : ∃ g cap, v = .slice (some ⟨g, 0, none⟩) N cap := by
    rcases ho.2 with ⟨_, h0⟩ | ⟨g, cap, _, hv, _⟩
    · have := HN.out; omega
    · exact ⟨g, cap, hv⟩
  obtain ⟨g, cap, rfl⟩ := hv
  have hgn : w1.grownBy (w1.alloc (.cells #[.slice (some ⟨g, 0, none⟩) N cap] 135)) none := World.grownBy_alloc _ _ _
  have HO := hid (ho.kept hgn (.inr (by simp [Value.ownBlock])))
  have HG := hid (grown_trans hg hgn)
  clear ho hg hgn hm
  go_wp2
  go_ret
  exact ⟨w1.heap.size, g, cap, rfl, ⟨heap_alloc_last w1 _, HO.out, Hl.out, Hs.out⟩, HG.out⟩
end
end Go.Proofs.YtpkgckjlhjcdmaaDoor
/- The document's images: the processor, a machine that is new: contracts. -/
namespace Go.Proofs.YtpkgckjlhjcdmaaDoor
open Go.RowKit
set_option maxRecDepth 100000 in
set_option maxHeartbeats 4000000 in
theorem rcpu_any {V : IV} {x : Ig} (W : World) (hd : V.dn ≤ 1000000) (hc : V.cn ≤ 1000000) (hdl : x.D.length = V.dn) (q : Int) (_q0 : -9223372036854775808 ≤ q) (_q1 : q ≤ 9223372036854775807) (y : Cp) (hy : cpuI x q = y) :
    Calls Tryd.prog 34 #[.agg (imgC V x.e), .int .i64 q] W fun e' w' => e' = .returned (.agg (cpuC y)) ∧ W.grownBy w' none := by
  subst hy
  obtain ⟨Q, hQ⟩ : ∃ Q, quoI x = Q := ⟨_, rfl⟩
  have HQ := hid (fun W => rquota_any V x.e W hd hc Q (by rw [← hQ]; unfold quoI pgN; rw [hdl]))
  have hyy : cpuI x q = ⟨[0, q % 4294967296, (Q : Int) % 4294967296, 0, 0, 0, 0, 0, 0, 0, 0, 0, 0, 0, 0, 0], x.e, false, false, 0, 0, 0, 0⟩ := by
    unfold cpuI
    rw [hQ]
  rw [hyy]
  clear hyy hQ hd hc hdl
  obtain ⟨e, D, C⟩ := x
  simp only
  have hz := zero_cpu
  have hb := build_pc
  obtain ⟨dp, dn, dc, cp, cn, cc, rp, rn, rc, pp, pn, pc, sp, sn, sc⟩ := V
  have al1 := World.grownBy_alloc W (.cells (imgC ⟨dp, dn, dc, cp, cn, cc, rp, rn, rc, pp, pn, pc, sp, sn, sc⟩ e) 29) none
  have al2 := grown_alloc al1 (.cells (cpuC zeroP) 69)
  have HI := hid ((RwAt.new W 29 (imgC ⟨dp, dn, dc, cp, cn, cc, rp, rn, rc, pp, pn, pc, sp, sn, sc⟩ e)).alloc (.cells (cpuC zeroP) 69))
  have HC := hid (CpuAt.new2 W (.cells (imgC ⟨dp, dn, dc, cp, cn, cc, rp, rn, rc, pp, pn, pc, sp, sn, sc⟩ e) 29) (x := zeroP) rfl)
  have HG := hid al2
  clear al1 al2
  go_enter Tryd.func34, Tryd.ntmps34
  go_upto_region 1 with (fail)
  try rw [show (W.alloc (.cells (imgC ⟨dp, dn, dc, cp, cn, cc, rp, rn, rc, pp, pn, pc, sp, sn, sc⟩ e) 29)).heap.size = W.heap.size + 1 by simp]
  have Hsz : Hid (((W.alloc (.cells (imgC ⟨dp, dn, dc, cp, cn, cc, rp, rn, rc, pp, pn, pc, sp, sn, sc⟩ e) 29)).alloc (.cells (cpuC zeroP) 69)).heap.size = W.heap.size + 2) := hid (by simp)
  generalize (W.alloc (.cells (imgC ⟨dp, dn, dc, cp, cn, cc, rp, rn, rc, pp, pn, pc, sp, sn, sc⟩ e) 29)).alloc (.cells (cpuC zeroP) 69) = w1 at HI HC HG Hsz ⊢
  obtain ⟨I, hI⟩ : ∃ I, W.heap.size = I := ⟨_, rfl⟩
  obtain ⟨R, hR⟩ : ∃ R, I + 1 = R := ⟨_, rfl⟩
  obtain ⟨K, hK⟩ : ∃ K, w1.heap.size = K := ⟨_, rfl⟩
  have Hne : Hid (W.heap.size ≤ R ∧ W.heap.size ≤ K ∧ R ≠ K ∧ I ≠ K) := hid (by have := Hsz.out; omega)
  rw [hI] at HI HC
  rw [hR] at HC
  try rw [hI]
  try rw [hR]
  clear hI hR Hsz
  have i0 := HI.out.cell 0 (v := .int .u32 e) rfl
  have al := World.grownBy_alloc w1 (.cells (cpuC zeroP) 69) none
  have HN := hid (CpuAt.new w1 (x := zeroP) rfl)
  have HC2 := hid (HC.out.kept0 al)
  have HI2 := hid (HI.out.kept0 al)
  have HG2 := hid (grown_trans HG.out al)
  rw [hK] at HN
  clear al
  go_upto_region 2 with (first
    | (refine wpList_build_pc rfl _ rfl rfl ?_)
    | (refine wpList_store_cpu (y := pcP e 0) rfl _ _ rfl rfl rfl HN.out rfl ?_)
    | fail)
  have HN2 := hid (HN.out.row (y := pcP e 0) rfl)
  have hgr := grown_setRow (B := K) HG2.out Hne.out.2.1 (cpuC (pcP e 0))
  have HG3 := hid hgr
  have HC3 := hid (HC2.out.rowOther K (cpuC (pcP e 0)) Hne.out.2.2.1)
  have HI3 := hid (HI2.out.rowOther K (cpuC (pcP e 0)) Hne.out.2.2.2)
  clear hgr HN HG2 HC2 HI2 hz hb i0 hK
  generalize (w1.alloc (.cells (cpuC zeroP) 69)).setRow K (cpuC (pcP e 0)) = w2 at HN2 HG3 HC3 HI3 ⊢
  have c1 : w2.cell? ⟨K, 1, none⟩ = some (.int .u32 0) := HN2.out.regs 1 _ rfl |> fun h => by simpa using h
  have f1 := HN2.out.free 1
  have HN3 := hid (HN2.out.sReg 1 (by decide) (q % 4294967296))
  have HG4 := hid (grown_new' (grown_trans (grown_none HG3.out) (grown_setCell (grown_refl w2 (some K)) 1 (.int .u32 (q % 4294967296)))) (fun j hj => by obtain rfl := Option.some.inj hj; exact Hne.out.2.1))
  have HC4 := hid (HC3.out.other K 1 (.int .u32 (q % 4294967296)) Hne.out.2.2.1)
  have HI4 := hid (HI3.out.other K 1 (.int .u32 (q % 4294967296)) Hne.out.2.2.2)
  go_upto_region 3 with (fail)
  clear c1 f1 HN2 HG3 HC3 HI3
  generalize w2.setCell ⟨K, 1, none⟩ (.int .u32 (q % 4294967296)) = w3 at HN3 HG4 HC4 HI4 ⊢
  go_wp2_with (first
    | (refine wpList_load_im (by kernel_rfl) _ rfl rfl HI4.out ?_)
    | fail)
  refine (HQ.out _).mono ?_; rintro e' w4 ⟨rfl, hg⟩
  have HN5 := hid (HN3.out.kept0 hg)
  have HG5 := hid (grown_trans HG4.out hg)
  have HC5 := hid (HC4.out.kept0 hg)
  clear hg HN3 HG4 HC4 HI4
  have c1 : w4.cell? ⟨K, 2, none⟩ = some (.int .u32 0) := HN5.out.regs 2 _ rfl |> fun h => by simpa using h
  have f1 := HN5.out.free 2
  have HN6 := hid (HN5.out.sReg 2 (by decide) ((Q : Int) % 4294967296))
  have HG6 := hid (grown_new' (grown_trans (grown_none HG5.out) (grown_setCell (grown_refl w4 (some K)) 2 (.int .u32 ((Q : Int) % 4294967296)))) (fun j hj => by obtain rfl := Option.some.inj hj; exact Hne.out.2.1))
  have HC6 := hid (HC5.out.other K 2 (.int .u32 ((Q : Int) % 4294967296)) Hne.out.2.2.1)
  go_upto_region 4 with (fail)
  clear c1 f1 HN5 HG5 HC5
  generalize w4.setCell ⟨K, 2, none⟩ (.int .u32 ((Q : Int) % 4294967296)) = w5 at HN6 HG6 HC6 ⊢
  have E := hid (HC6.out.row (y := ⟨[0, q % 4294967296, (Q : Int) % 4294967296, 0, 0, 0, 0, 0, 0, 0, 0, 0, 0, 0, 0, 0], e, false, false, 0, 0, 0, 0⟩) rfl)
  have EG := hid (grown_setRow (B := R) HG6.out Hne.out.1 (cpuC ⟨[0, q % 4294967296, (Q : Int) % 4294967296, 0, 0, 0, 0, 0, 0, 0, 0, 0, 0, 0, 0, 0], e, false, false, 0, 0, 0, 0⟩))
  go_wp2_with (first
    | (refine wpList_load_cpu rfl _ rfl rfl HN6.out ?_)
    | (refine wpList_store_cpu (y := ⟨[0, q % 4294967296, (Q : Int) % 4294967296, 0, 0, 0, 0, 0, 0, 0, 0, 0, 0, 0, 0, 0], e, false, false, 0, 0, 0, 0⟩) rfl _ _ rfl rfl rfl HC6.out rfl ?_)
    | fail)
  refine bodyPost_ret (results_cell_row Tryd.results34 _ _ R _ _ _ _ rfl E.out.blk Tryd.underlying69 rfl (cpu_size_info E.out.len)) rfl ?_
  exact ⟨rfl, EG.out⟩
end Go.Proofs.YtpkgckjlhjcdmaaDoor
/- The document's machine, a new one: contract. (Made by goldr4.py.) -/
namespace Go.Proofs.YtpkgckjlhjcdmaaDoor
open Go.RowKit
theorem rbuild_mach16 (x0 x1 x2 x3 x4 x5 x6 x7 x8 x9 x10 x11 x12 x13 x14 x15 pc : Int) (ie eie : Bool) (epc tv ca ad : Int) (m d : Nat) (q : Int) (w : World) :
    (Instr.build 127 #[(0, .pointer (some ⟨m, 0, none⟩)), (1, .agg (cpuC ⟨[x0, x1, x2, x3, x4, x5, x6, x7, x8, x9, x10, x11, x12, x13, x14, x15], pc, ie, eie, epc, tv, ca, ad⟩)), (2, .int .i64 q), (3, .pointer (some ⟨d, 0, none⟩))]).run Tryd.prog w =
      .ok (.agg (gL (.pointer (some ⟨m, 0, none⟩)) ⟨[x0, x1, x2, x3, x4, x5, x6, x7, x8, x9, x10, x11, x12, x13, x14, x15], pc, ie, eie, epc, tv, ca, ad⟩ [.int .i64 q, .pointer (some ⟨d, 0, none⟩), .int .i64 0, .bool false, .slice none 0 0]).toArray) w := by kernel_rfl
theorem run_rbuild_mach {c : Cp} (hl : c.l.length = 16) (m d : Nat) (q : Int) (w : World) :
    (Instr.build 127 #[(0, .pointer (some ⟨m, 0, none⟩)), (1, .agg (cpuC c)), (2, .int .i64 q), (3, .pointer (some ⟨d, 0, none⟩))]).run Tryd.prog w = .ok (.agg (gL (.pointer (some ⟨m, 0, none⟩)) c [.int .i64 q, .pointer (some ⟨d, 0, none⟩), .int .i64 0, .bool false, .slice none 0 0]).toArray) w := by
  obtain ⟨l, pc, ie, eie, epc, tv, ca, ad⟩ := c
  match l, hl with
  | [x0, x1, x2, x3, x4, x5, x6, x7, x8, x9, x10, x11, x12, x13, x14, x15], _ => exact rbuild_mach16 x0 x1 x2 x3 x4 x5 x6 x7 x8 x9 x10 x11 x12 x13 x14 x15 pc ie eie epc tv ca ad m d q w
theorem rbuild_yields {o : Oper} {a : Act} {x0 x1 x2 x3 : Operand} {c : Cp} (hl : c.l.length = 16) (m d : Nat) (q : Int) (ho : o.op = .build 127 #[(0, x0), (1, x1), (2, x2), (3, x3)]) (h0 : a.eval x0 = .pointer (some ⟨m, 0, none⟩)) (h1 : a.eval x1 = .agg (cpuC c)) (h2 : a.eval x2 = .int .i64 q) (h3 : a.eval x3 = .pointer (some ⟨d, 0, none⟩)) (w : World) :
    (execOp a.eval o).run Tryd.prog w = .ok (.value (.agg (gL (.pointer (some ⟨m, 0, none⟩)) c [.int .i64 q, .pointer (some ⟨d, 0, none⟩), .int .i64 0, .bool false, .slice none 0 0]).toArray)) w := by
  simp [execOp, ho, h0, h1, h2, h3, run_rbuild_mach hl m d q w, Result.andThen]
theorem build_rdev (w : World) : (Instr.build 180 #[]).run Tryd.prog w = .ok (.agg #[.slice none 0 0, .slice none 0 0, .int .u32 0, .int .u32 0, .int .u32 0, .int .u32 0, .int .u32 0, .int .u32 0, .int .u32 0, .int .u32 0, .int .u32 0, .int .u32 0, .int .u32 0, .int .u32 0, .int .u32 0, .int .u32 0, .int .u32 0, .int .u32 0, .int .i64 0, .bool false]) w := by kernel_rfl
/-- the document's machine, a new one, with the memory xs of N words -/
def RNewM (W : World) (N : Nat) (q : Int) (xs : List Int) (c : Cp) (e : Ending) (w' : World) : Prop :=
  ∃ p m g cap d, e = .returned (.pointer (some ⟨p, 0, none⟩)) ∧ GAt w' p 127 (.pointer (some ⟨m, 0, none⟩)) c [.int .i64 q, .pointer (some ⟨d, 0, none⟩), .int .i64 0, .bool false, .slice none 0 0] ∧ RefC w' W.heap.size m g cap N xs ∧ W.grownBy w' none
theorem RefC.base {w : World} {b0 b1 m g cap N : Nat} {xs : List Int} (h : RefC w b1 m g cap N xs) (hb : b0 ≤ b1) : RefC w b0 m g cap N xs := by
  obtain ⟨h1, h2, h3, h4⟩ := h
  refine ⟨h1, ⟨h2.1, ?_⟩, h3, h4⟩
  rcases h2.2 with h | ⟨g', cap', cur, a, b, rest⟩
  · exact .inl h
  · exact .inr ⟨g', cap', cur, a, Nat.le_trans hb b, rest⟩
set_option maxRecDepth 100000 in
set_option maxHeartbeats 4000000 in
theorem rnew_mach {w : World} {m0 b0 N : Nat} {xs : List Int} (h : RefAt w m0 b0 N xs) (hN : 0 < N) {c : Cp} (hl : c.l.length = 16) (q : Int) :
    Calls Tryd.prog 60 #[.pointer (some ⟨m0, 0, none⟩), .agg (cpuC c), .int .i64 q] w (RNewM w N q xs c) := by
  have hbd := build_rdev
  have HC := hid (CpuAt.new w hl)
  have HG := hid (World.grownBy_alloc w (.cells (cpuC c) 69) none)
  have HM := hid (h.kept0 HG.out)
  have Hl := hid hl
  have HN := hid hN
  clear h hl hN
  go_enter Tryd.func60, Tryd.ntmps60
  go_upto_region 1 with (fail)
  have hg0 : (w.alloc (.cells (cpuC c) 69)).grownBy (w.alloc (.cells (cpuC c) 69)).drew none := grown_drew (grown_refl _ none)
  refine wp_region_held_drew (S := fun W => CpuAt W w.heap.size c) (by kernel_rfl) (HC.out.kept0 hg0) (fun hS0 => ?_)
  replace HM := hid (HM.out.kept0 hg0)
  replace HG := hid (grown_trans HG.out hg0)
  clear hg0
  generalize (w.alloc (.cells (cpuC c) 69)).drew = w1 at HM HG hS0 ⊢
  refine wpAnyH_take (i := 0) (v := ?_) rfl (by kernel_rfl) (by kernel_rfl) (by kernel_rfl) (fun _ _ _ h => h) (Or.inl ⟨by kernel_rfl, ?_⟩) hS0 ?_
  rotate_left
  · (intro W hSw; clear hSw; go_simp; try with_reducible rfl)
  try simp only [Act.put, List.setIfInBounds_toArray, List.set_cons_zero, List.set_cons_succ, List.getElem_toArray, List.getElem_cons_zero]
  refine wpAnyH_take (i := 2) (v := .agg (cpuC c)) rfl (by kernel_rfl) (by kernel_rfl) (by kernel_rfl) (fun _ _ _ h => h) (Or.inl ⟨by kernel_rfl, fun W hW => run_load_row _ _ rfl rfl hW.blk rfl Tryd.underlying69 (cpu_size_info Hl.out)⟩) hS0 ?_
  try simp only [Act.put, List.setIfInBounds_toArray, List.set_cons_zero, List.set_cons_succ, List.getElem_toArray, List.getElem_cons_succ, List.getElem_cons_zero]
  refine wpAnyH_take (i := 3) (v := ?_) rfl (by kernel_rfl) (by kernel_rfl) (by kernel_rfl) (fun _ _ _ h => h) (Or.inl ⟨by kernel_rfl, ?_⟩) hS0 ?_
  rotate_left
  · (intro W hSw; clear hSw; go_simp; try with_reducible rfl)
  try simp only [Act.put, List.setIfInBounds_toArray, List.set_cons_zero, List.set_cons_succ, List.getElem_toArray, List.getElem_cons_succ, List.getElem_cons_zero]
  refine wpAnyH_take (i := 4) (v := ?_) rfl (by kernel_rfl) (by kernel_rfl) (by kernel_rfl) (fun _ _ _ h => h) (Or.inl ⟨by kernel_rfl, ?_⟩) hS0 ?_
  rotate_left
  · (intro W hSw; clear hSw; simp only [execOp, Act.eval]; go_simp; try with_reducible rfl)
  try simp only [Act.put, List.setIfInBounds_toArray, List.set_cons_zero, List.set_cons_succ, List.getElem_toArray, List.getElem_cons_succ, List.getElem_cons_zero]
  refine wpAnyH_ready (rs := [1, 5]) (by kernel_rfl) (by simp) ?_
  refine AllReadyH.cons rfl (fun KK hKK => ?_) ?_
  · go_simp
    refine (rclone_any HM.out HN.out).mono ?_; rintro e w2 ⟨m, g, cap, rfl, h1, hg⟩
    have HR2 := hid (h1.base HG.out.size)
    have HG2 := hid (grown_trans HG.out hg)
    have hS1 := hS0.kept0 hg
    clear h1 hg
    refine hKK.out _ _ hS1 (fun _ => ?_)
    clear hKK KK hS0
    try simp only [Act.put, List.setIfInBounds_toArray, List.set_cons_zero, List.set_cons_succ, List.getElem_toArray, List.getElem_cons_succ, List.getElem_cons_zero]
    refine wpAnyH_ready (rs := [5]) (by kernel_rfl) (by simp) ?_
    refine AllReadyH.cons rfl (fun KK hKK => ?_) AllReadyH.nil
    go_simp
    have hg3 := World.grownBy_alloc w2 (.cells #[.slice none 0 0, .slice none 0 0, .int .u32 0, .int .u32 0, .int .u32 0, .int .u32 0, .int .u32 0, .int .u32 0, .int .u32 0, .int .u32 0, .int .u32 0, .int .u32 0, .int .u32 0, .int .u32 0, .int .u32 0, .int .u32 0, .int .u32 0, .int .u32 0, .int .i64 0, .bool false] 180) none
    have HG3 := hid (grown_trans HG2.out hg3)
    have HR3 := hid (HR2.out.kept0 hg3)
    have hS2 := hS1.kept0 hg3
    clear hg3 hS1
    refine hKK.out _ _ hS2 (fun _ => ?_)
    clear hKK KK
    try simp only [Act.put, List.setIfInBounds_toArray, List.set_cons_zero, List.set_cons_succ, List.getElem_toArray, List.getElem_cons_succ, List.getElem_cons_zero]
    obtain ⟨d, hd⟩ : ∃ d, d = w2.heap.size := ⟨_, rfl⟩
    rw [← hd]
    clear hd
    generalize w2.alloc (.cells #[.slice none 0 0, .slice none 0 0, .int .u32 0, .int .u32 0, .int .u32 0, .int .u32 0, .int .u32 0, .int .u32 0, .int .u32 0, .int .u32 0, .int .u32 0, .int .u32 0, .int .u32 0, .int .u32 0, .int .u32 0, .int .u32 0, .int .u32 0, .int .u32 0, .int .i64 0, .bool false] 180) = w3 at HG3 HR3 hS2 ⊢
    refine wpAnyH_take (i := 6) (v := .agg (gL (.pointer (some ⟨m, 0, none⟩)) c [.int .i64 q, .pointer (some ⟨d, 0, none⟩), .int .i64 0, .bool false, .slice none 0 0]).toArray) rfl (by kernel_rfl) (by kernel_rfl) (by kernel_rfl) (fun _ _ _ h => h) (Or.inl ⟨by kernel_rfl, fun W _ => rbuild_yields Hl.out m d q rfl rfl rfl rfl rfl W⟩) hS2 ?_
    try simp only [Act.put, List.setIfInBounds_toArray, List.set_cons_zero, List.set_cons_succ, List.getElem_toArray, List.getElem_cons_succ, List.getElem_cons_zero]
    refine wpAnyH_ready (rs := [7]) (by kernel_rfl) (by simp) ?_
    refine AllReadyH.cons rfl (fun KK hKK => ?_) AllReadyH.nil
    go_simp
    refine hKK.out _ _ (hS2.alloc _) (fun hS3 => ?_)
    clear hKK KK
    try simp only [Act.put, List.setIfInBounds_toArray, List.set_cons_zero, List.set_cons_succ, List.getElem_toArray, List.getElem_cons_succ, List.getElem_cons_zero]
    refine wpAnyH_take (i := 8) (v := ?_) rfl (by kernel_rfl) (by kernel_rfl) (by kernel_rfl) (fun _ _ _ h => h) (Or.inl ⟨by kernel_rfl, ?_⟩) hS3 ?_
    rotate_left
    · (intro W hSw; clear hSw; go_simp; try with_reducible rfl)
    try simp only [Act.put, List.setIfInBounds_toArray, List.set_cons_zero, List.set_cons_succ, List.getElem_toArray, List.getElem_cons_succ, List.getElem_cons_zero]
    refine wpAnyH_done (by kernel_rfl) ?_ _
    go_wp2
    go_ret
    have hg := World.grownBy_alloc w3 (.cells (gL (.pointer (some ⟨m, 0, none⟩)) c [.int .i64 q, .pointer (some ⟨d, 0, none⟩), .int .i64 0, .bool false, .slice none 0 0]).toArray 127) none
    exact ⟨w3.heap.size, m, g, cap, d, rfl, ⟨heap_alloc_last w3 _, Hl.out⟩, HR3.out.kept0 hg, grown_trans HG3.out hg⟩
  · refine AllReadyH.cons rfl (fun KK hKK => ?_) AllReadyH.nil
    go_simp
    have hg3 := World.grownBy_alloc w1 (.cells #[.slice none 0 0, .slice none 0 0, .int .u32 0, .int .u32 0, .int .u32 0, .int .u32 0, .int .u32 0, .int .u32 0, .int .u32 0, .int .u32 0, .int .u32 0, .int .u32 0, .int .u32 0, .int .u32 0, .int .u32 0, .int .u32 0, .int .u32 0, .int .u32 0, .int .i64 0, .bool false] 180) none
    have HG2 := hid (grown_trans HG.out hg3)
    have HM2 := hid (HM.out.kept0 hg3)
    have hS1 := hS0.kept0 hg3
    clear hg3 hS0
    refine hKK.out _ _ hS1 (fun _ => ?_)
    clear hKK KK
    try simp only [Act.put, List.setIfInBounds_toArray, List.set_cons_zero, List.set_cons_succ, List.getElem_toArray, List.getElem_cons_succ, List.getElem_cons_zero]
    obtain ⟨d, hd⟩ : ∃ d, d = w1.heap.size := ⟨_, rfl⟩
    rw [← hd]
    clear hd
    generalize w1.alloc (.cells #[.slice none 0 0, .slice none 0 0, .int .u32 0, .int .u32 0, .int .u32 0, .int .u32 0, .int .u32 0, .int .u32 0, .int .u32 0, .int .u32 0, .int .u32 0, .int .u32 0, .int .u32 0, .int .u32 0, .int .u32 0, .int .u32 0, .int .u32 0, .int .u32 0, .int .i64 0, .bool false] 180) = w2 at HG2 HM2 hS1 ⊢
    refine wpAnyH_ready (rs := [1]) (by kernel_rfl) (by simp) ?_
    refine AllReadyH.cons rfl (fun KK hKK => ?_) AllReadyH.nil
    go_simp
    refine (rclone_any HM2.out HN.out).mono ?_; rintro e w3 ⟨m, g, cap, rfl, h1, hg⟩
    have HR3 := hid (h1.base HG2.out.size)
    have HG3 := hid (grown_trans HG2.out hg)
    have hS2 := hS1.kept0 hg
    clear h1 hg hS1
    refine hKK.out _ _ hS2 (fun _ => ?_)
    clear hKK KK
    try simp only [Act.put, List.setIfInBounds_toArray, List.set_cons_zero, List.set_cons_succ, List.getElem_toArray, List.getElem_cons_succ, List.getElem_cons_zero]
    refine wpAnyH_take (i := 6) (v := .agg (gL (.pointer (some ⟨m, 0, none⟩)) c [.int .i64 q, .pointer (some ⟨d, 0, none⟩), .int .i64 0, .bool false, .slice none 0 0]).toArray) rfl (by kernel_rfl) (by kernel_rfl) (by kernel_rfl) (fun _ _ _ h => h) (Or.inl ⟨by kernel_rfl, fun W _ => rbuild_yields Hl.out m d q rfl rfl rfl rfl rfl W⟩) hS2 ?_
    try simp only [Act.put, List.setIfInBounds_toArray, List.set_cons_zero, List.set_cons_succ, List.getElem_toArray, List.getElem_cons_succ, List.getElem_cons_zero]
    refine wpAnyH_ready (rs := [7]) (by kernel_rfl) (by simp) ?_
    refine AllReadyH.cons rfl (fun KK hKK => ?_) AllReadyH.nil
    go_simp
    refine hKK.out _ _ (hS2.alloc _) (fun hS3 => ?_)
    clear hKK KK
    try simp only [Act.put, List.setIfInBounds_toArray, List.set_cons_zero, List.set_cons_succ, List.getElem_toArray, List.getElem_cons_succ, List.getElem_cons_zero]
    refine wpAnyH_take (i := 8) (v := ?_) rfl (by kernel_rfl) (by kernel_rfl) (by kernel_rfl) (fun _ _ _ h => h) (Or.inl ⟨by kernel_rfl, ?_⟩) hS3 ?_
    rotate_left
    · (intro W hSw; clear hSw; go_simp; try with_reducible rfl)
    try simp only [Act.put, List.setIfInBounds_toArray, List.set_cons_zero, List.set_cons_succ, List.getElem_toArray, List.getElem_cons_succ, List.getElem_cons_zero]
    refine wpAnyH_done (by kernel_rfl) ?_ _
    go_wp2
    go_ret
    have hg := World.grownBy_alloc w3 (.cells (gL (.pointer (some ⟨m, 0, none⟩)) c [.int .i64 q, .pointer (some ⟨d, 0, none⟩), .int .i64 0, .bool false, .slice none 0 0]).toArray 127) none
    exact ⟨w3.heap.size, m, g, cap, d, rfl, ⟨heap_alloc_last w3 _, Hl.out⟩, HR3.out.kept0 hg, grown_trans HG3.out hg⟩
end Go.Proofs.YtpkgckjlhjcdmaaDoor
/- The document's loading of an image: contracts. -/
namespace Go.Proofs.YtpkgckjlhjcdmaaDoor
open Go.RowKit
/-- where the laying of the document's memory stands -/
structure LrW (W w : World) (I m b n : Nat) (V : IV) (x : Ig) (xs : List Int) : Prop where
  g : W.grownBy w none
  box : RwAt w I 29 (imgC V x.e)
  ref : RefAt w m b (n * 16) xs
  ap : I ≠ b ∧ W.heap.size ≤ b
theorem LrW.kept0 {W w w1 : World} {I m b n : Nat} {V : IV} {x : Ig} {xs : List Int} (h : LrW W w I m b n V x xs) (hg : w.grownBy w1 none) : LrW W w1 I m b n V x xs := ⟨grown_trans h.g hg, h.box.kept0 hg, h.ref.kept0 hg, h.ap⟩
theorem LrW.write {W w w1 : World} {I m b n : Nat} {V : IV} {x : Ig} {xs ys : List Int} (h : LrW W w I m b n V x xs) (hr : RefAt w1 m b (n * 16) ys) (hg : w.grownBy w1 (some b)) : LrW W w1 I m b n V x ys :=
  ⟨grown_new' (grown_trans (grown_none h.g) hg) (fun j hj => by obtain rfl := Option.some.inj hj; exact h.ap.2), h.box.kept hg (fun e => h.ap.1 (Option.some.inj e)), hr, h.ap⟩
set_option maxRecDepth 100000 in
set_option maxHeartbeats 4000000 in
theorem rload_no {W : World} {V : IV} {x : Ig} (hi : ImAt W V x) (hd : V.dn ≤ 1000000) (hc : V.cn ≤ 1000000) (q : Int) (q0 : -9223372036854775808 ≤ q) (q1 : q ≤ 9223372036854775807) (hcode : codeB x q ≠ 0) (r : Int) (hr : codeB x q = r) :
    Calls Tryd.prog 36 #[.agg (imgC V x.e), .int .i64 q] W fun e w' => e = .returned (.tuple #[.pointer none, .int .i64 r]) ∧ W.grownBy w' none := by
  have HG := hid (World.grownBy_alloc W (.cells (imgC V x.e) 29) none)
  have HX := hid (RwAt.new W 29 (imgC V x.e))
  obtain ⟨v, hv⟩ : ∃ v, valI x = v := ⟨_, rfl⟩
  have HV := hid (fun (w : World) (hg : W.grownBy w none) => rvalid_image w (hi.kept0 hg) hd hc v hv)
  obtain ⟨Q, hQ⟩ : ∃ Q, quoI x = Q := ⟨_, rfl⟩
  have HQ := hid (fun W => rquota_any V x.e W hd hc Q (by rw [← hQ]; unfold quoI pgN; rw [hi.dl]))
  unfold codeB at hcode hr
  rw [hQ, hv] at hcode hr
  have hvc := valI_cases x
  rw [hv] at hvc
  by_cases hv0 : v = 0
  · subst hv0
    rw [if_neg (by decide)] at hcode hr
    have hor : q < (Q : Int) ∨ 256 < q := by
      by_cases h : q < (Q : Int) ∨ 256 < q
      · exact h
      · rw [if_neg h] at hcode; exact absurd rfl hcode
    rw [if_pos hor] at hr
    subst hr
    have Hor := hid hor
    clear hcode hv hi hvc hor
    by_cases hlt : q < (Q : Int)
    all_goals
      have hgt : ¬ q < (Q : Int) → 256 < q := by have := Hor.out; omega
      have Hgt := hid hgt
      clear hgt
      go_enter Tryd.func36, Tryd.ntmps36
      go_upto_region 1 with (fail)
      generalize W.alloc (.cells (imgC V x.e) 29) = w1 at HG HX ⊢
      generalize W.heap.size = I at HX ⊢
      go_wp2_with (first
        | (refine wpList_load_im (by kernel_rfl) _ rfl rfl HX.out ?_)
        | fail)
      refine (HV.out _ HG.out).mono ?_; rintro e w2 ⟨rfl, hg⟩
      have HG2 := hid (grown_trans HG.out hg)
      have HX2 := hid (HX.out.kept0 hg)
      clear hg HG HX
      go_wp2_with (first
        | (refine wpList_load_im (by kernel_rfl) _ rfl rfl HX2.out ?_)
        | fail)
      refine (HQ.out _).mono ?_; rintro e w3 ⟨rfl, hg⟩
      have HG3 := hid (grown_trans HG2.out hg)
      clear hg HG2 HX2
      go_wp2
      all_goals try (exfalso; have := Hgt.out; omega)
      go_ret2
      exact ⟨rfl, HG3.out⟩
  · rw [if_pos hv0] at hr
    subst hr
    have hvne : (v == 0) = false := by simpa using hv0
    clear hcode hv hi HQ hQ
    go_enter Tryd.func36, Tryd.ntmps36
    go_upto_region 1 with (fail)
    generalize W.alloc (.cells (imgC V x.e) 29) = w1 at HG HX ⊢
    generalize W.heap.size = I at HX ⊢
    go_wp2_with (first
      | (refine wpList_load_im (by kernel_rfl) _ rfl rfl HX.out ?_)
      | fail)
    refine (HV.out _ HG.out).mono ?_; rintro e w2 ⟨rfl, hg⟩
    have HG2 := hid (grown_trans HG.out hg)
    clear hg HG HX
    go_wp2
    go_ret2
    exact ⟨rfl, HG2.out⟩
/-- the document's machine that an image is loaded into -/
def RLdAt (W : World) (N : Nat) (q : Int) (xs : List Int) (c : Cp) (e : Ending) (w' : World) : Prop :=
  ∃ p m g cap d, e = .returned (.tuple #[.pointer (some ⟨p, 0, none⟩), .int .i64 0]) ∧ GAt w' p 127 (.pointer (some ⟨m, 0, none⟩)) c [.int .i64 q, .pointer (some ⟨d, 0, none⟩), .int .i64 0, .bool false, .slice none 0 0] ∧ RefC w' W.heap.size m g cap N xs ∧ W.grownBy w' none
set_option maxRecDepth 100000 in
set_option maxHeartbeats 16000000 in
theorem rload_yes {W : World} {V : IV} {x : Ig} (hi : ImAt W V x) (q : Int) (Q : Nat) (hq : q = (Q : Int)) (hcode : codeB x q = 0) (n : Nat) (hn : Q + pgN x.C = n) :
    Calls Tryd.prog 36 #[.agg (imgC V x.e), .int .i64 q] W (RLdAt W (n * 16) q (memI x Q) (cpuI x q)) := by
  subst hq
  obtain ⟨hv, hq1, hq2⟩ := codeB_fine hcode
  obtain ⟨hl1, hl2⟩ := valI_lens hv
  have hd : V.dn ≤ 2048 := by rw [← hi.dl]; exact hl1
  have hc : V.cn ≤ 2048 := by rw [← hi.cl]; exact hl2
  have HG := hid (World.grownBy_alloc W (.cells (imgC V x.e) 29) none)
  have HX := hid (RwAt.new W 29 (imgC V x.e))
  have HV := hid (fun (w : World) (hg : W.grownBy w none) => rvalid_image w (hi.kept0 hg) (by omega) (by omega) 0 hv)
  obtain ⟨K, hK⟩ : ∃ K, quoI x = K := ⟨_, rfl⟩
  have HQ := hid (fun W => rquota_any V x.e W (by omega) (by omega) K (by rw [← hK]; unfold quoI pgN; rw [hi.dl]))
  obtain ⟨d, hd1⟩ : ∃ d, (V.dn + 15) / 16 = d := ⟨_, rfl⟩
  obtain ⟨c, hc1⟩ : ∃ c, (V.cn + 15) / 16 = c := ⟨_, rfl⟩
  have hD : pgN x.D = d := by unfold pgN; rw [hi.dl, hd1]
  have hC : pgN x.C = c := by unfold pgN; rw [hi.cl, hc1]
  have HP := hid (fun W => rpages_any V x.e W (by omega) (by omega) d c hd1 hc1)
  obtain ⟨y, hy⟩ : ∃ y, cpuI x (Q : Int) = y := ⟨_, rfl⟩
  have HC := hid (fun W => rcpu_any (V := V) (x := x) W (by omega) (by omega) hi.dl (Q : Int) (by omega) (by omega) y hy)
  have HY : Hid (y.l.length = 16) := hid (by rw [← hy]; rfl)
  rw [hy]
  unfold quoI at hq1 hK
  rw [hD] at hq1 hK
  rw [hC] at hn
  have Hq : Hid (17 + d ≤ Q ∧ Q ≤ 256 ∧ Q + c = n) := hid ⟨by omega, by omega, hn⟩
  have Hd := hid hD
  have Hc := hid hC
  have Hb : Hid (d ≤ 128 ∧ c ≤ 128 ∧ V.dn ≤ 1000000 ∧ V.cn ≤ 1000000) := hid (by omega)
  have Hi := hid hi
  have k1 : ¬ (Q : Int) < (K : Int) := by omega
  have k2 : ¬ 256 < (Q : Int) := by omega
  have q0 : (0 : Int) ≤ (Q : Int) := by omega
  have q1 : (Q : Int) ≤ 256 := by omega
  have d0 : (0 : Int) ≤ (d : Int) := by omega
  have d1 : (d : Int) ≤ 128 := by omega
  have c0 : (0 : Int) ≤ (c : Int) := by omega
  have c1 : (c : Int) ≤ 128 := by omega
  have hn1 : (Q : Int) + (c : Int) = (n : Int) := by omega
  clear hi hcode hv hq1 hl1 hl2 hd hc hy hK hn hd1 hc1 hD hC
  go_enter Tryd.func36, Tryd.ntmps36
  go_upto_region 1 with (fail)
  generalize W.alloc (.cells (imgC V x.e) 29) = w1 at HG HX ⊢
  obtain ⟨I, hI⟩ : ∃ I, W.heap.size = I := ⟨_, rfl⟩
  rw [hI] at HX ⊢
  clear hI
  go_wp2_with (first
    | (refine wpList_load_im (by kernel_rfl) _ rfl rfl HX.out ?_)
    | fail)
  refine (HV.out _ HG.out).mono ?_; rintro e w2 ⟨rfl, hg⟩
  have HG2 := hid (grown_trans HG.out hg)
  have HX2 := hid (HX.out.kept0 hg)
  clear hg HG HX
  go_wp2_with (first
    | (refine wpList_load_im (by kernel_rfl) _ rfl rfl HX2.out ?_)
    | fail)
  refine (HQ.out _).mono ?_; rintro e w3 ⟨rfl, hg⟩
  have HG3 := hid (grown_trans HG2.out hg)
  have HX3 := hid (HX2.out.kept0 hg)
  clear hg HG2 HX2
  go_wp2_with (first
    | (refine wpList_load_im (by kernel_rfl) _ rfl rfl HX3.out ?_)
    | fail)
  refine (HP.out _).mono ?_; rintro e w4 ⟨rfl, hg⟩
  have HG4 := hid (grown_trans HG3.out hg)
  have HX4 := hid (HX3.out.kept0 hg)
  clear hg HG3 HX3
  go_wp2_with fail
  refine (rnew_of _ n rfl (by have := Hq.out; have := Hb.out; omega)).mono ?_
  rintro e w5 ⟨m, b, rfl, hm, hb, hR, hg⟩
  have HL : Hid (LrW W w5 I m b n V x (memL x Q 0 0 0 0 0)) := hid ⟨grown_trans HG4.out hg, HX4.out.kept0 hg, by
    rw [memL_zero, show 16 * (Q + pgN x.C) = n * 16 by rw [Hc.out, Hq.out.2.2]; omega]; exact hR, ⟨by have := HX4.out.lt; omega, Nat.le_trans HG4.out.size hb⟩⟩
  clear hm hb hR hg HG4 HX4
  go_wp2
  clear hn1 k1 k2
  go_loopw [10] (fun i wr => ∃ k : Nat, k ≤ 16 ∧ i = .int .i64 k ∧ Hid (LrW W wr I m b n V x (memL x Q k 0 0 0 0))) (fun i _ => 16 - (intOf i).toNat)
  case atStart => exact ⟨0, Nat.zero_le _, rfl, HL⟩
  case round =>
    clear HL
    obtain ⟨k, hk, rfl, HL⟩ := hrel
    have k0 : (0 : Int) ≤ (k : Int) := by omega
    by_cases hlt : k < 16
    · have k1 : (k : Int) < 16 := by omega
      go_wp2_with fail
      refine (rbits14 ((k : Int) + 1) true (((k : Int) + 1) * 256 + 7) (bit7 (by omega) (by omega)) _).mono ?_
      rintro e w6 ⟨rfl, hg⟩
      have HL6 := hid (HL.out.kept0 hg)
      clear hg HL
      go_wp2_with fail
      refine (rwrite_yes HL6.out.ref k (((k : Int) + 1) * 256 + 7) (by have := Hq.out; omega)).mono ?_
      rintro e w7 ⟨rfl, hr, hg⟩
      rw [memL_k hlt] at hr
      have HL7 := hid (HL6.out.write hr hg)
      clear hr hg HL6
      go_wp2
      go_roundw
      case rel => exact ⟨k + 1, by omega, by go_num, HL7⟩
      case measure => simp [intOf]; omega
    · have k1 : ¬ (k : Int) < 16 := by omega
      have hk16 : k = 16 := by omega
      have HL0 := HL.out
      rw [hk16] at HL0
      have HL := hid HL0
      clear HL0 hlt hk hk16
      go_wp2
      clear k0 k1
      go_loopw [11] (fun i wr => ∃ k : Nat, k ≤ d ∧ i = .int .i64 k ∧ Hid (LrW W wr I m b n V x (memL x Q 16 k k 0 0))) (fun i _ => d - (intOf i).toNat)
      case atStart => exact ⟨0, Nat.zero_le _, rfl, HL⟩
      case round =>
        clear HL
        obtain ⟨p, hp, rfl, HL⟩ := hrel
        have p0 : (0 : Int) ≤ (p : Int) := by omega
        by_cases hlt : p < d
        · have p1 : (p : Int) < (d : Int) := by omega
          obtain ⟨F, hF⟩ : ∃ F, 17 + p = F := ⟨_, rfl⟩
          have hF1 : 17 + (p : Int) = (F : Int) := by omega
          obtain ⟨G, hG⟩ : ∃ G, 16 + p = G := ⟨_, rfl⟩
          have hG1 : 16 + (p : Int) = (G : Int) := by omega
          have HF := hid (And.intro hF hG)
          clear hF hG
          go_wp2_with fail
          obtain ⟨v, hv⟩ : ∃ v, (17 + (p : Int)) * 256 + 7 = v := ⟨_, rfl⟩
          have Hv := hid hv
          clear hv
          refine (rbits14 (F : Int) true v (by rw [bit7 (by omega) (by have := HF.out; have := Hb.out; omega)]; have := Hv.out; omega) _).mono ?_
          rintro e w6 ⟨rfl, hg⟩
          have HL6 := hid (HL.out.kept0 hg)
          clear hg HL
          go_wp2_with fail
          refine (rwrite_yes HL6.out.ref G v (by have := Hq.out; have := HF.out; have := Hb.out; omega)).mono ?_
          rintro e w7 ⟨rfl, hr, hg⟩
          rw [← HF.out.2, ← Hv.out, memL_de (by have := Hb.out; omega)] at hr
          have HL7 := hid (HL6.out.write hr hg)
          clear hr hg HL6
          go_wp2_with (first
            | (refine wpList_load_im (by kernel_rfl) _ rfl rfl HL7.out.box ?_)
            | fail)
          refine (rpgo_yes (L := pgW x.D p) _ (Hi.out.kept0 HL7.out.g) Hb.out.2.2.1 Hb.out.2.2.2 (p : Int) (by rw [pageI_low (by have := Hb.out; omega), pageOfI_some (by rw [Hd.out]; exact hlt)]) (by omega) (by omega)).mono ?_
          rintro e w8 ⟨g, rfl, hge, hs, hg⟩
          have HS := hid hs
          have HL8 := hid (HL7.out.kept0 hg)
          have Hgb : Hid (g ≠ b) := hid (by have := HL7.out.ref.blt; omega)
          clear hge hs hg HL7
          go_wp2_with fail
          refine (rfill_yes HL8.out.ref rfl F _ (pgW x.D p) (by have := Hq.out; have := HF.out; omega) HS.out (fun _ e => Hgb.out (Option.some.inj e)) (by rw [pgW_length]; exact Nat.le_refl _)).mono ?_
          rintro e w9 ⟨rfl, hr, hg⟩
          rw [padded_full (pgW_length _ _), ← HF.out.1, memL_df (by have := Hq.out; omega)] at hr
          have HL9 := hid (HL8.out.write hr hg)
          clear hr hg HL8 HS hF1 hG1
          go_wp2
          go_roundw
          case rel => exact ⟨p + 1, by omega, by go_num, HL9⟩
          case measure => simp [intOf]; omega
        · have p1 : ¬ (p : Int) < (d : Int) := by omega
          have hpd : p = d := by omega
          have HL0 := HL.out
          rw [hpd] at HL0
          have HL := hid HL0
          clear HL0 hlt hp hpd
          go_wp2
          clear p0 p1
          go_loopw [14] (fun i wr => ∃ k : Nat, k ≤ c ∧ i = .int .i64 k ∧ Hid (LrW W wr I m b n V x (memL x Q 16 d d k k))) (fun i _ => c - (intOf i).toNat)
          case atStart => exact ⟨0, Nat.zero_le _, rfl, HL⟩
          case round =>
            clear HL
            obtain ⟨p, hp, rfl, HL⟩ := hrel
            have p0 : (0 : Int) ≤ (p : Int) := by omega
            by_cases hlt : p < c
            · have p1 : (p : Int) < (c : Int) := by omega
              obtain ⟨F, hF⟩ : ∃ F, Q + p = F := ⟨_, rfl⟩
              have hF1 : (Q : Int) + (p : Int) = (F : Int) := by omega
              obtain ⟨G, hG⟩ : ∃ G, 144 + p = G := ⟨_, rfl⟩
              have hG1 : 144 + (p : Int) = (G : Int) := by omega
              obtain ⟨J, hJ⟩ : ∃ J, 128 + p = J := ⟨_, rfl⟩
              have hJ1 : 128 + (p : Int) = (J : Int) := by omega
              have HF := hid (And.intro hF (And.intro hG hJ))
              clear hF hG hJ
              go_wp2_with fail
              obtain ⟨v, hv⟩ : ∃ v, ((Q : Int) + (p : Int)) * 256 + 5 = v := ⟨_, rfl⟩
              have Hv := hid hv
              clear hv
              refine (rbits14 (F : Int) false v (by rw [bit5 (by omega) (by have := HF.out; have := Hb.out; omega)]; have := Hv.out; omega) _).mono ?_
              rintro e w6 ⟨rfl, hg⟩
              have HL6 := hid (HL.out.kept0 hg)
              clear hg HL
              go_wp2_with fail
              refine (rwrite_yes HL6.out.ref G v (by have := Hq.out; have := HF.out; have := Hb.out; omega)).mono ?_
              rintro e w7 ⟨rfl, hr, hg⟩
              rw [← HF.out.2.1, ← Hv.out, memL_ce (by have := Hb.out; omega) (by have := Hb.out; omega)] at hr
              have HL7 := hid (HL6.out.write hr hg)
              clear hr hg HL6
              go_wp2_with (first
                | (refine wpList_load_im (by kernel_rfl) _ rfl rfl HL7.out.box ?_)
                | fail)
              refine (rpgo_yes (L := pgW x.C p) _ (Hi.out.kept0 HL7.out.g) Hb.out.2.2.1 Hb.out.2.2.2 (J : Int) (by rw [pageI_high (by omega), show (J : Int) - 128 = (p : Int) from by omega, pageOfI_some (by rw [Hc.out]; exact hlt)]) (by omega) (by have := HF.out; have := Hb.out; omega)).mono ?_
              rintro e w8 ⟨g, rfl, hge, hs, hg⟩
              have HS := hid hs
              have HL8 := hid (HL7.out.kept0 hg)
              have Hgb : Hid (g ≠ b) := hid (by have := HL7.out.ref.blt; omega)
              clear hge hs hg HL7
              go_wp2_with fail
              refine (rfill_yes HL8.out.ref rfl F _ (pgW x.C p) (by have := Hq.out; have := HF.out; omega) HS.out (fun _ e => Hgb.out (Option.some.inj e)) (by rw [pgW_length]; exact Nat.le_refl _)).mono ?_
              rintro e w9 ⟨rfl, hr, hg⟩
              rw [padded_full (pgW_length _ _), ← HF.out.1, memL_cf (by have := Hq.out; omega) (by rw [Hc.out]; exact hlt)] at hr
              have HL9 := hid (HL8.out.write hr hg)
              clear hr hg HL8 HS hF1 hG1 hJ1
              go_wp2
              go_roundw
              case rel => exact ⟨p + 1, by omega, by go_num, HL9⟩
              case measure => simp [intOf]; omega
            · have p1 : ¬ (p : Int) < (c : Int) := by omega
              have hpd : p = c := by omega
              have HL0 := HL.out
              rw [hpd] at HL0
              have HLf : Hid (LrW W wr I m b n V x (memI x Q)) := hid (by unfold memI; rw [Hd.out, Hc.out]; exact HL0)
              clear HL0 HL hlt hp hpd
              go_wp2_with (first
                | (refine wpList_load_im (by kernel_rfl) _ rfl rfl HLf.out.box ?_)
                | fail)
              refine (HC.out _).mono ?_; rintro e w6 ⟨rfl, hg⟩
              have HL6 := hid (HLf.out.kept0 hg)
              clear hg HLf
              go_wp2_with fail
              refine (rnew_mach HL6.out.ref (by have := Hq.out; omega) HY.out (Q : Int)).mono ?_
              rintro e w7 ⟨pm, mm, g, cap, dd, rfl, hga, hrc, hg⟩
              have HGA := hid hga
              have HRC := hid (hrc.base HL6.out.g.size)
              have HGf := hid (grown_trans HL6.out.g hg)
              clear hga hrc hg HL6
              go_wp2
              go_ret2
              exact ⟨pm, mm, g, cap, dd, rfl, HGA.out, HRC.out, HGf.out⟩
end Go.Proofs.YtpkgckjlhjcdmaaDoor
/- A machine as the document's: the law's own comparison. (Made by golds1.py.) -/
namespace Go.Proofs.YtpkgckjlhjcdmaaDoor
open Go.RowKit
/-- where the loop over the frames stands -/
structure SmW (W w : World) (m b n cap1 m2 g cap b0 p2 : Nat) (xs : List Int) : Prop where
  gr : W.grownBy w none
  mem : MemAt w m b n cap1 xs
  ref : RefC w b0 m2 g cap (n * 16) xs
  hd : w.cell? ⟨p2, 0, none⟩ = some (.pointer (some ⟨m2, 0, none⟩))
theorem SmW.kept0 {W w w1 : World} {m b n cap1 m2 g cap b0 p2 : Nat} {xs : List Int} (h : SmW W w m b n cap1 m2 g cap b0 p2 xs) (hg : w.grownBy w1 none) : SmW W w1 m b n cap1 m2 g cap b0 p2 xs :=
  ⟨grown_trans h.gr hg, h.mem.kept0 hg, h.ref.kept0 hg, by rw [grown_cell hg (World.block_lt_of_cell? w _ h.hd) (by simp)]; exact h.hd⟩
set_option maxRecDepth 100000 in
set_option maxHeartbeats 16000000 in
theorem same14_any {W w : World} {p n p2 m2 g cap b0 : Nat} {q : Int} {xs : List Int} {c : Cp} {tl : List Value} (hB : MBox W p n q (initM xs c) w) (hG : GAt w p2 127 (.pointer (some ⟨m2, 0, none⟩)) c tl) (hR : RefC w b0 m2 g cap (n * 16) xs) (hc : Regs c.l) (hn : n ≤ 1024) :
    Calls Tryd.prog 37 #[.pointer (some ⟨p, 0, none⟩), .pointer (some ⟨p2, 0, none⟩)] w fun e w' => e = .returned (.bool true) ∧ w.grownBy w' none := by
  have HB := hid hB
  have HG := hid hG
  have HR := hid hR
  have Hc := hid hc
  have n0 : (0 : Int) ≤ (n : Int) := by omega
  have n1 : (n : Int) ≤ 1024 := by omega
  clear hB hG hR hc hn
  go_enter Tryd.func37, Tryd.ntmps37
  go_wp2_with fail
  refine (mb_mem HB.out).mono ?_
  rintro e w1 ⟨m, b, cap1, rfl, hm, hb, hM, hg⟩
  have HM1 : Hid (MemAt w1 m b n cap1 xs) := hid hM
  have HG1 := hid hg
  have HCpu : Hid (∀ (W : World), w1.grownBy W none → Calls Tryd.prog 61 #[.pointer (some ⟨p, 0, none⟩)] W fun e w' => e = .returned (.agg (cpuC c)) ∧ W.grownBy w' none) := hid (fun (W : World) (h : w1.grownBy W none) => by
    obtain ⟨B, m', bm, d, cap', vs, vw, h1, _⟩ := (HB.out.keep HG1.out).keep h
    exact bcpu_any h1 _ rfl)
  have HSame := hid (fun (W : World) => same_cpu Hc.out W)
  have HFr := hid (fun (W : World) (h : w1.grownBy W none) => frames_any (HM1.out.kept0 h))
  have HRf := hid (fun (W : World) (h : w1.grownBy W none) => rcframes_any ((HR.out.kept0 HG1.out).kept0 h) rfl)
  have HNow := hid (fun (W : World) (h : w1.grownBy W none) => mb_now ((HB.out.keep HG1.out).keep h) 0 rfl)
  have HOver := hid (fun (W : World) (h : w1.grownBy W none) => mb_over ((HB.out.keep HG1.out).keep h) false rfl)
  have hg1 := HG.out.kept0 HG1.out
  have HA := hid hg1
  have hinf := cpuL_info Hc.out.len
  have Hinf := hid hinf
  clear hm hb hM hg hinf
  go_upto_region 2 with (fail)
  have hg0 : w1.grownBy w1.drew none := grown_drew (grown_refl _ none)
  refine wp_region_held_drew (S := fun W => GAt W p2 127 (.pointer (some ⟨m2, 0, none⟩)) c tl) (by kernel_rfl) (HA.out.kept0 hg0) (fun hS0 => ?_)
  have HGr := hid hg0
  clear hg0 hg1
  generalize w1.drew = w2 at HGr hS0 ⊢
  refine wpAnyH_take (i := 0) (v := ?_) rfl (by kernel_rfl) (by kernel_rfl) (by kernel_rfl) (fun _ _ _ h => h) (Or.inl ⟨by kernel_rfl, ?_⟩) hS0 ?_
  rotate_left
  · (intro W hSw; clear hSw; go_simp; try with_reducible rfl)
  try simp only [Act.put, List.setIfInBounds_toArray, List.set_cons_zero, List.set_cons_succ, List.getElem_toArray, List.getElem_cons_zero]
  refine wpAnyH_take (i := 2) (v := ?_) rfl (by kernel_rfl) (by kernel_rfl) (by kernel_rfl) (fun _ _ _ h => h) (Or.inl ⟨by kernel_rfl, ?_⟩) hS0 ?_
  rotate_left
  · (intro W hSw; clear hSw; go_simp; try with_reducible rfl)
  try simp only [Act.put, List.setIfInBounds_toArray, List.set_cons_zero, List.set_cons_succ, List.getElem_toArray, List.getElem_cons_succ, List.getElem_cons_zero]
  refine wpAnyH_take (i := 3) (v := ?_) rfl (by kernel_rfl) (by kernel_rfl) (by kernel_rfl) (fun _ _ _ h => h) (Or.inl ⟨by kernel_rfl, ?_⟩) hS0 ?_
  rotate_left
  · (intro W hSw; clear hSw; go_simp; try with_reducible rfl)
  try simp only [Act.put, List.setIfInBounds_toArray, List.set_cons_zero, List.set_cons_succ, List.getElem_toArray, List.getElem_cons_succ, List.getElem_cons_zero]
  refine wpAnyH_take (i := 4) (v := ?_) rfl (by kernel_rfl) (by kernel_rfl) (by kernel_rfl) (fun _ _ _ h => h) (Or.inl ⟨by kernel_rfl, ?_⟩) hS0 ?_
  rotate_left
  · (intro W hSw; clear hSw; go_simp; try with_reducible rfl)
  try simp only [Act.put, List.setIfInBounds_toArray, List.set_cons_zero, List.set_cons_succ, List.getElem_toArray, List.getElem_cons_succ, List.getElem_cons_zero]
  refine wpAnyH_take (i := 5) (v := .agg (cpuC c)) rfl (by kernel_rfl) (by kernel_rfl) (by kernel_rfl) (fun _ _ _ h => h) (yieldsIf_load_mid (by kernel_rfl) 69 (.tmp 17) rfl p2 1 rfl (cpuL c) _ (fun w h => h.cpu) Tryd.underlying69 rfl Hinf.out) hS0 ?_
  try simp only [Act.put, List.setIfInBounds_toArray, List.set_cons_zero, List.set_cons_succ, List.getElem_toArray, List.getElem_cons_succ, List.getElem_cons_zero]
  refine wpAnyH_ready (rs := [1]) (by kernel_rfl) (by simp) ?_
  refine AllReadyH.cons rfl (fun KK hKK => ?_) AllReadyH.nil
  go_simp
  refine (HCpu.out _ HGr.out).mono ?_; rintro e' w3 ⟨rfl, hg⟩
  have hS1 := hS0.kept0 hg
  replace HGr := hid (grown_trans HGr.out hg)
  clear hg hS0
  have hS0 := hS1
  clear hS1
  refine hKK.out _ _ hS0 (fun _ => ?_)
  clear hKK KK
  try simp only [Act.put, List.setIfInBounds_toArray, List.set_cons_zero, List.set_cons_succ, List.getElem_toArray, List.getElem_cons_succ, List.getElem_cons_zero]
  refine wpAnyH_ready (rs := [6]) (by kernel_rfl) (by simp) ?_
  refine AllReadyH.cons rfl (fun KK hKK => ?_) AllReadyH.nil
  go_simp
  refine (HSame.out _).mono ?_; rintro e' w4 ⟨rfl, hg⟩
  have hS1 := hS0.kept0 hg
  replace HGr := hid (grown_trans HGr.out hg)
  clear hg hS0
  have hS0 := hS1
  clear hS1
  refine hKK.out _ _ hS0 (fun _ => ?_)
  clear hKK KK
  try simp only [Act.put, List.setIfInBounds_toArray, List.set_cons_zero, List.set_cons_succ, List.getElem_toArray, List.getElem_cons_succ, List.getElem_cons_zero]
  refine wpAnyH_take (i := 7) (v := ?_) rfl (by kernel_rfl) (by kernel_rfl) (by kernel_rfl) (fun _ _ _ h => h) (Or.inl ⟨by kernel_rfl, ?_⟩) hS0 ?_
  rotate_left
  · (intro W hSw; clear hSw; go_simp; try with_reducible rfl)
  try simp only [Act.put, List.setIfInBounds_toArray, List.set_cons_zero, List.set_cons_succ, List.getElem_toArray, List.getElem_cons_succ, List.getElem_cons_zero]
  refine wpAnyH_take (i := 8) (v := ?_) rfl (by kernel_rfl) (by kernel_rfl) (by kernel_rfl) (fun _ _ _ h => h) (Or.inl ⟨by kernel_rfl, ?_⟩) hS0 ?_
  rotate_left
  · (intro W hSw; clear hSw; go_simp; try with_reducible rfl)
  try simp only [Act.put, List.setIfInBounds_toArray, List.set_cons_zero, List.set_cons_succ, List.getElem_toArray, List.getElem_cons_succ, List.getElem_cons_zero]
  refine wpAnyH_take (i := 9) (v := ?_) rfl (by kernel_rfl) (by kernel_rfl) (by kernel_rfl) (fun _ _ _ h => h) (Or.inl ⟨by kernel_rfl, ?_⟩) hS0 ?_
  rotate_left
  · (intro W hSw; clear hSw; go_simp; try with_reducible rfl)
  try simp only [Act.put, List.setIfInBounds_toArray, List.set_cons_zero, List.set_cons_succ, List.getElem_toArray, List.getElem_cons_succ, List.getElem_cons_zero]
  refine wpAnyH_take (i := 11) (v := ?_) rfl (by kernel_rfl) (by kernel_rfl) (by kernel_rfl) (fun _ _ _ h => h) (Or.inl ⟨by kernel_rfl, ?_⟩) hS0 ?_
  rotate_left
  · (intro W hSw; clear hSw; go_simp; try with_reducible rfl)
  try simp only [Act.put, List.setIfInBounds_toArray, List.set_cons_zero, List.set_cons_succ, List.getElem_toArray, List.getElem_cons_succ, List.getElem_cons_zero]
  refine wpAnyH_take (i := 12) (v := ?_) rfl (by kernel_rfl) (by kernel_rfl) (by kernel_rfl) (fun _ _ _ h => h) (Or.inl ⟨by kernel_rfl, ?_⟩) hS0 ?_
  rotate_left
  · (intro W hSw; clear hSw; go_simp; try with_reducible rfl)
  try simp only [Act.put, List.setIfInBounds_toArray, List.set_cons_zero, List.set_cons_succ, List.getElem_toArray, List.getElem_cons_succ, List.getElem_cons_zero]
  refine wpAnyH_take (i := 13) (v := ?_) rfl (by kernel_rfl) (by kernel_rfl) (by kernel_rfl) (fun _ _ _ h => h) (Or.inl ⟨by kernel_rfl, ?_⟩) hS0 ?_
  rotate_left
  · (intro W hSw; clear hSw; go_simp; try with_reducible rfl)
  try simp only [Act.put, List.setIfInBounds_toArray, List.set_cons_zero, List.set_cons_succ, List.getElem_toArray, List.getElem_cons_succ, List.getElem_cons_zero]
  refine wpAnyH_take (i := 14) (v := ?_) rfl (by kernel_rfl) (by kernel_rfl) (by kernel_rfl) (fun _ _ _ h => h) (Or.inl ⟨by kernel_rfl, ?_⟩) hS0 ?_
  rotate_left
  · (intro W hSw; have hcd := hSw.head; clear hSw; go_simp; try with_reducible rfl)
  try simp only [Act.put, List.setIfInBounds_toArray, List.set_cons_zero, List.set_cons_succ, List.getElem_toArray, List.getElem_cons_succ, List.getElem_cons_zero]
  refine wpAnyH_ready (rs := [10]) (by kernel_rfl) (by simp) ?_
  refine AllReadyH.cons rfl (fun KK hKK => ?_) AllReadyH.nil
  go_simp
  refine (HFr.out _ HGr.out).mono ?_; rintro e' w5 ⟨rfl, rfl⟩
  refine hKK.out _ _ hS0 (fun _ => ?_)
  clear hKK KK
  try simp only [Act.put, List.setIfInBounds_toArray, List.set_cons_zero, List.set_cons_succ, List.getElem_toArray, List.getElem_cons_succ, List.getElem_cons_zero]
  refine wpAnyH_ready (rs := [15]) (by kernel_rfl) (by simp) ?_
  refine AllReadyH.cons rfl (fun KK hKK => ?_) AllReadyH.nil
  go_simp
  refine (HRf.out _ HGr.out).mono ?_; rintro e' w6 ⟨rfl, rfl⟩
  refine hKK.out _ _ hS0 (fun _ => ?_)
  clear hKK KK
  try simp only [Act.put, List.setIfInBounds_toArray, List.set_cons_zero, List.set_cons_succ, List.getElem_toArray, List.getElem_cons_succ, List.getElem_cons_zero]
  refine wpAnyH_take (i := 16) (v := ?_) rfl (by kernel_rfl) (by kernel_rfl) (by kernel_rfl) (fun _ _ _ h => h) (Or.inl ⟨by kernel_rfl, ?_⟩) hS0 ?_
  rotate_left
  · (intro W hSw; clear hSw; go_simp; try with_reducible rfl)
  try simp only [Act.put, List.setIfInBounds_toArray, List.set_cons_zero, List.set_cons_succ, List.getElem_toArray, List.getElem_cons_succ, List.getElem_cons_zero]
  refine wpAnyH_take (i := 17) (v := ?_) rfl (by kernel_rfl) (by kernel_rfl) (by kernel_rfl) (fun _ _ _ h => h) (Or.inl ⟨by kernel_rfl, ?_⟩) hS0 ?_
  rotate_left
  · (intro W hSw; clear hSw; go_simp; try with_reducible rfl)
  try simp only [Act.put, List.setIfInBounds_toArray, List.set_cons_zero, List.set_cons_succ, List.getElem_toArray, List.getElem_cons_succ, List.getElem_cons_zero]
  refine wpAnyH_take (i := 18) (v := ?_) rfl (by kernel_rfl) (by kernel_rfl) (by kernel_rfl) (fun _ _ _ h => h) (Or.inl ⟨by kernel_rfl, ?_⟩) hS0 ?_
  rotate_left
  · (intro W hSw; clear hSw; go_simp; try with_reducible rfl)
  try simp only [Act.put, List.setIfInBounds_toArray, List.set_cons_zero, List.set_cons_succ, List.getElem_toArray, List.getElem_cons_succ, List.getElem_cons_zero]
  refine wpAnyH_take (i := 19) (v := ?_) rfl (by kernel_rfl) (by kernel_rfl) (by kernel_rfl) (fun _ _ _ h => h) (Or.inl ⟨by kernel_rfl, ?_⟩) hS0 ?_
  rotate_left
  · (intro W hSw; clear hSw; go_simp; try with_reducible rfl)
  try simp only [Act.put, List.setIfInBounds_toArray, List.set_cons_zero, List.set_cons_succ, List.getElem_toArray, List.getElem_cons_succ, List.getElem_cons_zero]
  refine wpAnyH_ready (rs := [20]) (by kernel_rfl) (by simp) ?_
  refine AllReadyH.cons rfl (fun KK hKK => ?_) AllReadyH.nil
  go_simp
  refine (HNow.out _ HGr.out).mono ?_; rintro e' w9 ⟨rfl, rfl⟩
  refine hKK.out _ _ hS0 (fun _ => ?_)
  clear hKK KK
  try simp only [Act.put, List.setIfInBounds_toArray, List.set_cons_zero, List.set_cons_succ, List.getElem_toArray, List.getElem_cons_succ, List.getElem_cons_zero]
  refine wpAnyH_take (i := 21) (v := ?_) rfl (by kernel_rfl) (by kernel_rfl) (by kernel_rfl) (fun _ _ _ h => h) (Or.inl ⟨by kernel_rfl, ?_⟩) hS0 ?_
  rotate_left
  · (intro W hSw; clear hSw; go_simp; try with_reducible rfl)
  try simp only [Act.put, List.setIfInBounds_toArray, List.set_cons_zero, List.set_cons_succ, List.getElem_toArray, List.getElem_cons_succ, List.getElem_cons_zero]
  refine wpAnyH_take (i := 22) (v := ?_) rfl (by kernel_rfl) (by kernel_rfl) (by kernel_rfl) (fun _ _ _ h => h) (Or.inl ⟨by kernel_rfl, ?_⟩) hS0 ?_
  rotate_left
  · (intro W hSw; clear hSw; go_simp; try with_reducible rfl)
  try simp only [Act.put, List.setIfInBounds_toArray, List.set_cons_zero, List.set_cons_succ, List.getElem_toArray, List.getElem_cons_succ, List.getElem_cons_zero]
  refine wpAnyH_take (i := 23) (v := ?_) rfl (by kernel_rfl) (by kernel_rfl) (by kernel_rfl) (fun _ _ _ h => h) (Or.inl ⟨by kernel_rfl, ?_⟩) hS0 ?_
  rotate_left
  · (intro W hSw; clear hSw; go_simp; try with_reducible rfl)
  try simp only [Act.put, List.setIfInBounds_toArray, List.set_cons_zero, List.set_cons_succ, List.getElem_toArray, List.getElem_cons_succ, List.getElem_cons_zero]
  refine wpAnyH_take (i := 24) (v := ?_) rfl (by kernel_rfl) (by kernel_rfl) (by kernel_rfl) (fun _ _ _ h => h) (Or.inl ⟨by kernel_rfl, ?_⟩) hS0 ?_
  rotate_left
  · (intro W hSw; clear hSw; go_simp; try with_reducible rfl)
  try simp only [Act.put, List.setIfInBounds_toArray, List.set_cons_zero, List.set_cons_succ, List.getElem_toArray, List.getElem_cons_succ, List.getElem_cons_zero]
  refine wpAnyH_ready (rs := [25]) (by kernel_rfl) (by simp) ?_
  refine AllReadyH.cons rfl (fun KK hKK => ?_) AllReadyH.nil
  go_simp
  refine (HOver.out _ HGr.out).mono ?_; rintro e' w10 ⟨rfl, rfl⟩
  refine hKK.out _ _ hS0 (fun _ => ?_)
  clear hKK KK
  try simp only [Act.put, List.setIfInBounds_toArray, List.set_cons_zero, List.set_cons_succ, List.getElem_toArray, List.getElem_cons_succ, List.getElem_cons_zero]
  refine wpAnyH_take (i := 26) (v := ?_) rfl (by kernel_rfl) (by kernel_rfl) (by kernel_rfl) (fun _ _ _ h => h) (Or.inl ⟨by kernel_rfl, ?_⟩) hS0 ?_
  rotate_left
  · (intro W hSw; clear hSw; go_simp; try with_reducible rfl)
  try simp only [Act.put, List.setIfInBounds_toArray, List.set_cons_zero, List.set_cons_succ, List.getElem_toArray, List.getElem_cons_succ, List.getElem_cons_zero]
  refine wpAnyH_done (by kernel_rfl) ?_ _
  have hng := HG1.out
  have HS0 : Hid (SmW w w4 m b n cap1 m2 g cap b0 p2 xs) := hid ⟨grown_trans hng HGr.out, HM1.out.kept0 HGr.out, (HR.out.kept0 hng).kept0 HGr.out, hS0.head⟩
  clear hng hS0 HGr HA HG1 HM1 HCpu HSame HFr HRf HNow HOver Hinf
  go_wp2
  go_loopw [6] (fun i wr => ∃ k : Nat, k ≤ n ∧ i = .int .i64 k ∧ Hid (SmW w wr m b n cap1 m2 g cap b0 p2 xs)) (fun i _ => n - (intOf i).toNat)
  case atStart => exact ⟨0, Nat.zero_le _, rfl, HS0⟩
  case round =>
    clear HS0
    obtain ⟨k, hk, rfl, HS⟩ := hrel
    have k0 : (0 : Int) ≤ (k : Int) := by omega
    have hd := HS.out.hd
    go_wp2_with fail
    refine (rcframes_any HS.out.ref rfl).mono ?_; rintro e w5 ⟨rfl, rfl⟩
    by_cases hlt : k < n
    · have k1 : (k : Int) < (n : Int) := by omega
      go_wp2_with fail
      refine (frame_of HS.out.mem _ k rfl hlt).mono ?_
      rintro e w6 ⟨g1, rfl, hge, hb, hg⟩
      have Hsl := hid (SlAt.frame (frameOf_length (xs := xs) (n := n) HS.out.ref.len hlt) hb 16)
      have HS6 := hid (HS.out.kept0 hg)
      clear hge hb hg HS hd
      have hd := HS6.out.hd
      go_wp2_with fail
      refine (rcframe_yes HS6.out.ref rfl k hlt).mono ?_
      rintro e w7 ⟨v, rfl, hs, hg⟩
      have Hsl1 := hid (Hsl.out.kept0 hg)
      have Hsl2 := hid hs
      have HS7 := hid (HS6.out.kept0 hg)
      have Hl16 := hid (frameOf_length (xs := xs) (n := n) HS6.out.ref.len hlt)
      clear hs hg HS6 hd Hsl
      go_wp2_with fail
      refine (sw_any Hsl1.out Hsl2.out (by rw [Hl16.out]; omega) (by rw [Hl16.out]; omega) true (by simp)).mono ?_
      rintro e w8 ⟨rfl, hg⟩
      have HS8 := hid (HS7.out.kept0 hg)
      clear hg HS7
      go_wp2
      go_roundw
      case rel => exact ⟨k + 1, by omega, by go_num, HS8⟩
      case measure => simp [intOf]; omega
    · have k1 : ¬ (k : Int) < (n : Int) := by omega
      go_wp2
      go_ret
      exact ⟨rfl, HS.out.gr⟩
end Go.Proofs.YtpkgckjlhjcdmaaDoor
