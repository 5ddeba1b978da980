/- The law LoadSays: walked. (Made by goldsays.py.) -/
import Derived.Test.YtpkgckjlhjcdmaaDoorZGLdR
import Derived.Deep.RegionHeld3
import Derived.Deep.Cut
namespace Go.Proofs.YtpkgckjlhjcdmaaDoor
open Go.RowKit
/-- where the walk stands: the image in its box -/
structure LdW (W w : World) (I : Nat) (V : IV) (x : Ig) : Prop where
  g : W.grownBy w none
  box : RwAt w I 29 (imgC V x.e)
  im : ImAt w V x
theorem LdW.kept0 {W w w1 : World} {I : Nat} {V : IV} {x : Ig} (h : LdW W w I V x) (hg : w.grownBy w1 none) : LdW W w1 I V x := ⟨grown_trans h.g hg, h.box.kept0 hg, h.im.kept0 hg⟩
/-- the answers of both Pages -/
theorem page_both {V : IV} {x : Ig} (k : Int) : ∃ (B : Bool) (L : List Int), L.length ≤ 16 ∧ ∀ (e : Int) (W : World), ImAt W V x → V.dn ≤ 1000000 → V.cn ≤ 1000000 → -9223372036854775808 ≤ k → k ≤ 9223372036854775807 →
    (Calls Tryd.prog 25 #[.agg (imgC V e), .int .i64 k] W fun e' w' => ∃ v, e' = .returned (.tuple #[v, .bool B]) ∧ SlAt w' .u32 v L ∧ W.grownBy w' none) ∧
    (Calls Tryd.prog 26 #[.agg (imgC V x.e), .int .i64 k] W fun e' w' => ∃ v, e' = .returned (.tuple #[v, .bool B]) ∧ SlAt w' .u32 v L ∧ W.grownBy w' none) := by
  cases hk : pageI x k with
  | none =>
    refine ⟨false, [], by simp, fun e W h hd hc k0 k1 => ⟨(page_no (e := e) W h hd hc k hk k0 k1).mono ?_, (rpgo_no W h hd hc k hk k0 k1).mono ?_⟩⟩
    all_goals
      rintro e' w' ⟨rfl, hg⟩
      exact ⟨_, rfl, sl_nil _, hg⟩
  | some L =>
    have hL : L.length = 16 := by
      unfold pageI pageOfI at hk
      split at hk <;> split at hk
      · rw [← Option.some.inj hk, pgW_length]
      · cases hk
      · rw [← Option.some.inj hk, pgW_length]
      · cases hk
    refine ⟨true, L, by omega, fun e W h hd hc k0 k1 => ⟨(page_yes (e := e) W h hd hc k hk k0 k1).mono ?_, (rpgo_yes W h hd hc k hk k0 k1).mono ?_⟩⟩
    all_goals
      rintro e' w' ⟨g, rfl, _, hs, hg⟩
      exact ⟨_, rfl, hs, hg⟩
set_option maxRecDepth 100000 in
set_option maxHeartbeats 32000000 in
theorem lsays_walk (V : IV) (x : Ig) (q page : Int) (W : World) (A : Nat → Addr) (hE : Sents W A) (hi : ImAt W V x) (q0 : -9223372036854775808 ≤ q) (q1 : q ≤ 9223372036854775807) (p0 : -9223372036854775808 ≤ page) (p1 : page ≤ 9223372036854775807) :
    Calls Tryd.prog 5 #[.agg (imgC V x.e), .int .i64 q, .int .i64 page] W fun e W' => e = .returned (.bool true) ∧ Below W.heap.size W W' := by
  have al := World.grownBy_alloc W (.cells (imgC V x.e) 29) none
  have HL0 : Hid (LdW W (W.alloc (.cells (imgC V x.e) 29)) W.heap.size V x) := hid ⟨al, RwAt.new W _ _, hi.kept0 al⟩
  have HE := hid hE
  clear hi hE al
  go_enter Tryd.func5, Tryd.ntmps5
  go_upto_region 1 with (fail)
  generalize W.alloc (.cells (imgC V x.e) 29) = w1 at HL0 ⊢
  obtain ⟨I, hI⟩ : ∃ I, W.heap.size = I := ⟨_, rfl⟩
  rw [hI] at HL0 ⊢
  clear hI
  go_wp2_with fail
  refine (first14_any _).mono ?_; rintro e w2 ⟨rfl, hg⟩
  have HL2 := hid (HL0.out.kept0 hg)
  clear hg HL0
  go_wp2_with (first
    | (refine wpList_load_im (by kernel_rfl) _ rfl rfl HL2.out.box ?_)
    | fail)
  by_cases hl : lightI V 300 = true
  · refine (limage_any V x.e _ 300 300 rfl true hl).mono ?_; rintro e w3 ⟨rfl, hg⟩
    have HL3 := hid (HL2.out.kept0 hg)
    clear hg HL2
    have hl2 : V.dn ≤ 300 ∧ V.cn ≤ 300 := by
      unfold lightI at hl
      have hl := of_decide_eq_true hl
      exact ⟨hl.1, hl.2.1⟩
    clear hl
    have HB : Hid (V.dn ≤ 1000000 ∧ V.cn ≤ 1000000 ∧ V.dn ≤ 300 ∧ V.cn ≤ 300) := hid (by omega)
    clear hl2
    obtain ⟨d, hd⟩ : ∃ d, (V.dn + 15) / 16 = d := ⟨_, rfl⟩
    obtain ⟨c, hc⟩ : ∃ c, (V.cn + 15) / 16 = c := ⟨_, rfl⟩
    obtain ⟨r, hr⟩ : ∃ r, valI x = r := ⟨_, rfl⟩
    obtain ⟨K, hK⟩ : ∃ K, 17 + (V.dn + 15) / 16 = K := ⟨_, rfl⟩
    obtain ⟨y, hy⟩ : ∃ y, cpuI x q = y := ⟨_, rfl⟩
    obtain ⟨B, L, hL16, hpb⟩ := page_both (V := V) (x := x) page
    have Hpb := hid hpb
    have HL16 := hid hL16
    have HP1 := hid (fun W => pages_any V x.e W HB.out.1 HB.out.2.1 d c hd hc)
    have HP2 := hid (fun W => rpages_any V x.e W HB.out.1 HB.out.2.1 d c hd hc)
    have HQ1 := hid (fun W => quota_any V x.e W HB.out.1 K hK)
    have HQ2 := hid (fun W => rquota_any V x.e W HB.out.1 HB.out.2.1 K hK)
    have HC1 := hid (fun W => cpu_load (V := V) (x := x) W HB.out.1 HL3.out.im.dl q q0 q1 y hy)
    have HC2 := hid (fun W => rcpu_any (V := V) (x := x) W HB.out.1 HB.out.2.1 HL3.out.im.dl q q0 q1 y hy)
    have HOk : Hid (CpOk y) := hid (by rw [← hy]; exact cpu_ok HL3.out.im q)
    have HSc := hid (fun W => same_cpu HOk.out.regs W)
    have Hr := hid hr
    have Hy := hid hy
    have HE3 := hid (HE.out.kept0 HL3.out.g)
    clear hd hc hK hr hy hpb hL16 HE
    go_wp2_with (first
      | (refine wpList_load_im (by kernel_rfl) _ rfl rfl HL3.out.box ?_)
      | fail)
    refine (rvalid_image _ HL3.out.im HB.out.1 HB.out.2.1 r Hr.out).mono ?_; rintro e w4 ⟨rfl, hg⟩
    have HL4 := hid (HL3.out.kept0 hg)
    have HE4 := hid (HE3.out.kept0 hg)
    clear hg HL3 HE3
    go_wp2_with (first
      | (refine wpList_load_im (by kernel_rfl) _ rfl rfl HL4.out.box ?_)
      | fail)
    refine (HP1.out _).mono ?_; rintro e w5 ⟨rfl, hg⟩
    have HL5 := hid (HL4.out.kept0 hg)
    have HE5 := hid (HE4.out.kept0 hg)
    clear hg HL4 HE4 HP1
    go_wp2_with (first
      | (refine wpList_load_im (by kernel_rfl) _ rfl rfl HL5.out.box ?_)
      | fail)
    refine (HP2.out _).mono ?_; rintro e w6 ⟨rfl, hg⟩
    have HL6 := hid (HL5.out.kept0 hg)
    have HE6 := hid (HE5.out.kept0 hg)
    clear hg HL5 HE5 HP2
    go_wp2_with (first
      | (refine wpList_load_im (by kernel_rfl) _ rfl rfl HL6.out.box ?_)
      | fail)
    refine ((Hpb.out x.e _ HL6.out.im HB.out.1 HB.out.2.1 p0 p1).1).mono ?_; rintro e w7 ⟨v1, rfl, hs, hg⟩
    have HL7 := hid (HL6.out.kept0 hg)
    have HE7 := hid (HE6.out.kept0 hg)
    have Hs7 := hid hs
    clear hs hg HL6 HE6
    go_wp2_with (first
      | (refine wpList_load_im (by kernel_rfl) _ rfl rfl HL7.out.box ?_)
      | fail)
    refine ((Hpb.out x.e _ HL7.out.im HB.out.1 HB.out.2.1 p0 p1).2).mono ?_; rintro e w8 ⟨v2, rfl, hs, hg⟩
    have HL10 := hid (HL7.out.kept0 hg)
    have HE10 := hid (HE7.out.kept0 hg)
    have HSl1 := hid (Hs7.out.kept0 hg)
    have HSl2 := hid hs
    clear hs hg HL7 HE7 Hs7 Hpb
    have HVal : Hid (∀ (w : World), w8.grownBy w none → Calls Tryd.prog 28 #[.agg (imgC V x.e)] w fun e' w' => e' = .returned (lvV A r) ∧ w.grownBy w' none) := hid (fun w hg => by
      have := valid_load w (HL10.out.im.kept0 hg) (HE10.out.kept0 hg).lde HB.out.1 HB.out.2.1
      rw [Hr.out] at this
      exact this)
    have HIs : Hid (∀ (w : World), w8.grownBy w none → Calls Tryd.prog 27 #[lvV A r, .int .i64 r] w fun e w' => e = .returned (.bool true) ∧ w.grownBy w' none) := hid (fun w hg => is14 (HE10.out.kept0 hg) (by rw [← Hr.out]; exact valI_cases x))
    have HSw : Hid (∀ (w : World), w8.grownBy w none → Calls Tryd.prog 31 #[v1, v2] w fun e w' => e = .returned (.bool true) ∧ w.grownBy w' none) := hid (fun w hg => sw_any (HSl1.out.kept0 hg) (HSl2.out.kept0 hg) (by have := HL16.out; omega) (by have := HL16.out; omega) true (by simp))
    go_upto_region 11 with (fail)
    obtain ⟨vv, hvv⟩ : ∃ vv, lvV A r = vv := ⟨_, rfl⟩
    rw [hvv] at HVal HIs
    clear hvv
    have hg0 : w8.grownBy w8.drew none := grown_drew (grown_refl _ none)
    refine wp_region_held_drew (S := fun W => RwAt W I 29 (imgC V x.e)) (by kernel_rfl) (HL10.out.box.kept0 hg0) (fun hS0 => ?_)
    have HGr := hid hg0
    clear hg0
    generalize w8.drew = y0 at HGr hS0 ⊢
    refine wpAnyH_take (i := 0) (v := .agg (imgC V x.e)) rfl (by kernel_rfl) (by kernel_rfl) (by kernel_rfl) (fun _ _ _ h => h) (Or.inl ⟨by kernel_rfl, fun W hW => run_load_row _ _ rfl rfl hW.blk rfl Tryd.underlying29 info_image⟩) hS0 ?_
    try simp only [Act.put, List.setIfInBounds_toArray, List.set_cons_zero, List.set_cons_succ, List.getElem_toArray, List.getElem_cons_zero]
    refine wpAnyH_take (i := 2) (v := ?_) rfl (by kernel_rfl) (by kernel_rfl) (by kernel_rfl) (fun _ _ _ h => h) (Or.inl ⟨by kernel_rfl, ?_⟩) hS0 ?_
    rotate_left
    · (intro W hSw; clear hSw; go_simp; try with_reducible rfl)
    try simp only [Act.put, List.setIfInBounds_toArray, List.set_cons_zero, List.set_cons_succ, List.getElem_toArray, List.getElem_cons_succ, List.getElem_cons_zero]
    refine wpAnyH_ready (rs := [1]) (by kernel_rfl) (by simp) ?_
    refine AllReadyH.cons rfl (fun KK hKK => ?_) AllReadyH.nil
    go_simp
    refine (HVal.out _ HGr.out).mono ?_; rintro e' y1 ⟨rfl, hg⟩
    have hS1 := hS0.kept0 hg
    replace HGr := hid (grown_trans HGr.out hg)
    clear hg hS0
    have hS0 := hS1
    clear hS1
    refine hKK.out _ _ hS0 (fun _ => ?_)
    clear hKK KK
    try simp only [Act.put, List.setIfInBounds_toArray, List.set_cons_zero, List.set_cons_succ, List.getElem_toArray, List.getElem_cons_succ, List.getElem_cons_zero]
    refine wpAnyH_ready (rs := [3]) (by kernel_rfl) (by simp) ?_
    refine AllReadyH.cons rfl (fun KK hKK => ?_) AllReadyH.nil
    go_simp
    refine (HIs.out _ HGr.out).mono ?_; rintro e' y2 ⟨rfl, hg⟩
    have hS1 := hS0.kept0 hg
    replace HGr := hid (grown_trans HGr.out hg)
    clear hg hS0
    have hS0 := hS1
    clear hS1
    refine hKK.out _ _ hS0 (fun _ => ?_)
    clear hKK KK
    try simp only [Act.put, List.setIfInBounds_toArray, List.set_cons_zero, List.set_cons_succ, List.getElem_toArray, List.getElem_cons_succ, List.getElem_cons_zero]
    refine wpAnyH_take (i := 4) (v := ?_) rfl (by kernel_rfl) (by kernel_rfl) (by kernel_rfl) (fun _ _ _ h => h) (Or.inl ⟨by kernel_rfl, ?_⟩) hS0 ?_
    rotate_left
    · (intro W hSw; clear hSw; go_simp; try with_reducible rfl)
    try simp only [Act.put, List.setIfInBounds_toArray, List.set_cons_zero, List.set_cons_succ, List.getElem_toArray, List.getElem_cons_succ, List.getElem_cons_zero]
    refine wpAnyH_take (i := 5) (v := ?_) rfl (by kernel_rfl) (by kernel_rfl) (by kernel_rfl) (fun _ _ _ h => h) (Or.inl ⟨by kernel_rfl, ?_⟩) hS0 ?_
    rotate_left
    · (intro W hSw; clear hSw; go_simp; try with_reducible rfl)
    try simp only [Act.put, List.setIfInBounds_toArray, List.set_cons_zero, List.set_cons_succ, List.getElem_toArray, List.getElem_cons_succ, List.getElem_cons_zero]
    refine wpAnyH_take (i := 6) (v := ?_) rfl (by kernel_rfl) (by kernel_rfl) (by kernel_rfl) (fun _ _ _ h => h) (Or.inl ⟨by kernel_rfl, ?_⟩) hS0 ?_
    rotate_left
    · (intro W hSw; clear hSw; go_simp; try with_reducible rfl)
    try simp only [Act.put, List.setIfInBounds_toArray, List.set_cons_zero, List.set_cons_succ, List.getElem_toArray, List.getElem_cons_succ, List.getElem_cons_zero]
    refine wpAnyH_take (i := 7) (v := ?_) rfl (by kernel_rfl) (by kernel_rfl) (by kernel_rfl) (fun _ _ _ h => h) (Or.inl ⟨by kernel_rfl, ?_⟩) hS0 ?_
    rotate_left
    · (intro W hSw; clear hSw; go_simp; try with_reducible rfl)
    try simp only [Act.put, List.setIfInBounds_toArray, List.set_cons_zero, List.set_cons_succ, List.getElem_toArray, List.getElem_cons_succ, List.getElem_cons_zero]
    refine wpAnyH_take (i := 8) (v := ?_) rfl (by kernel_rfl) (by kernel_rfl) (by kernel_rfl) (fun _ _ _ h => h) (Or.inl ⟨by kernel_rfl, ?_⟩) hS0 ?_
    rotate_left
    · (intro W hSw; clear hSw; go_simp; try with_reducible rfl)
    try simp only [Act.put, List.setIfInBounds_toArray, List.set_cons_zero, List.set_cons_succ, List.getElem_toArray, List.getElem_cons_succ, List.getElem_cons_zero]
    refine wpAnyH_take (i := 9) (v := ?_) rfl (by kernel_rfl) (by kernel_rfl) (by kernel_rfl) (fun _ _ _ h => h) (Or.inl ⟨by kernel_rfl, ?_⟩) hS0 ?_
    rotate_left
    · (intro W hSw; clear hSw; go_simp; try with_reducible rfl)
    try simp only [Act.put, List.setIfInBounds_toArray, List.set_cons_zero, List.set_cons_succ, List.getElem_toArray, List.getElem_cons_succ, List.getElem_cons_zero]
    refine wpAnyH_take (i := 10) (v := ?_) rfl (by kernel_rfl) (by kernel_rfl) (by kernel_rfl) (fun _ _ _ h => h) (Or.inl ⟨by kernel_rfl, ?_⟩) hS0 ?_
    rotate_left
    · (intro W hSw; clear hSw; go_simp; try with_reducible rfl)
    try simp only [Act.put, List.setIfInBounds_toArray, List.set_cons_zero, List.set_cons_succ, List.getElem_toArray, List.getElem_cons_succ, List.getElem_cons_zero]
    refine wpAnyH_take (i := 11) (v := ?_) rfl (by kernel_rfl) (by kernel_rfl) (by kernel_rfl) (fun _ _ _ h => h) (Or.inl ⟨by kernel_rfl, ?_⟩) hS0 ?_
    rotate_left
    · (intro W hSw; clear hSw; go_simp; try with_reducible rfl)
    try simp only [Act.put, List.setIfInBounds_toArray, List.set_cons_zero, List.set_cons_succ, List.getElem_toArray, List.getElem_cons_succ, List.getElem_cons_zero]
    refine wpAnyH_take (i := 12) (v := ?_) rfl (by kernel_rfl) (by kernel_rfl) (by kernel_rfl) (fun _ _ _ h => h) (Or.inl ⟨by kernel_rfl, ?_⟩) hS0 ?_
    rotate_left
    · (intro W hSw; clear hSw; go_simp; try with_reducible rfl)
    try simp only [Act.put, List.setIfInBounds_toArray, List.set_cons_zero, List.set_cons_succ, List.getElem_toArray, List.getElem_cons_succ, List.getElem_cons_zero]
    refine wpAnyH_take (i := 13) (v := ?_) rfl (by kernel_rfl) (by kernel_rfl) (by kernel_rfl) (fun _ _ _ h => h) (Or.inl ⟨by kernel_rfl, ?_⟩) hS0 ?_
    rotate_left
    · (intro W hSw; clear hSw; go_simp; try with_reducible rfl)
    try simp only [Act.put, List.setIfInBounds_toArray, List.set_cons_zero, List.set_cons_succ, List.getElem_toArray, List.getElem_cons_succ, List.getElem_cons_zero]
    refine wpAnyH_take (i := 14) (v := ?_) rfl (by kernel_rfl) (by kernel_rfl) (by kernel_rfl) (fun _ _ _ h => h) (Or.inl ⟨by kernel_rfl, ?_⟩) hS0 ?_
    rotate_left
    · (intro W hSw; clear hSw; go_simp; try with_reducible rfl)
    try simp only [Act.put, List.setIfInBounds_toArray, List.set_cons_zero, List.set_cons_succ, List.getElem_toArray, List.getElem_cons_succ, List.getElem_cons_zero]
    refine wpAnyH_take (i := 15) (v := ?_) rfl (by kernel_rfl) (by kernel_rfl) (by kernel_rfl) (fun _ _ _ h => h) (Or.inl ⟨by kernel_rfl, ?_⟩) hS0 ?_
    rotate_left
    · (intro W hSw; clear hSw; go_simp; try with_reducible rfl)
    try simp only [Act.put, List.setIfInBounds_toArray, List.set_cons_zero, List.set_cons_succ, List.getElem_toArray, List.getElem_cons_succ, List.getElem_cons_zero]
    refine wpAnyH_take (i := 16) (v := .agg (imgC V x.e)) rfl (by kernel_rfl) (by kernel_rfl) (by kernel_rfl) (fun _ _ _ h => h) (Or.inl ⟨by kernel_rfl, fun W hW => run_load_row _ _ rfl rfl hW.blk rfl Tryd.underlying29 info_image⟩) hS0 ?_
    try simp only [Act.put, List.setIfInBounds_toArray, List.set_cons_zero, List.set_cons_succ, List.getElem_toArray, List.getElem_cons_succ, List.getElem_cons_zero]
    refine wpAnyH_take (i := 18) (v := .agg (imgC V x.e)) rfl (by kernel_rfl) (by kernel_rfl) (by kernel_rfl) (fun _ _ _ h => h) (Or.inl ⟨by kernel_rfl, fun W hW => run_load_row _ _ rfl rfl hW.blk rfl Tryd.underlying29 info_image⟩) hS0 ?_
    try simp only [Act.put, List.setIfInBounds_toArray, List.set_cons_zero, List.set_cons_succ, List.getElem_toArray, List.getElem_cons_succ, List.getElem_cons_zero]
    refine wpAnyH_ready (rs := [17]) (by kernel_rfl) (by simp) ?_
    refine AllReadyH.cons rfl (fun KK hKK => ?_) AllReadyH.nil
    go_simp
    refine (HQ1.out _).mono ?_; rintro e' y3 ⟨rfl, hg⟩
    have hS1 := hS0.kept0 hg
    replace HGr := hid (grown_trans HGr.out hg)
    clear hg hS0
    have hS0 := hS1
    clear hS1
    refine hKK.out _ _ hS0 (fun _ => ?_)
    clear hKK KK
    try simp only [Act.put, List.setIfInBounds_toArray, List.set_cons_zero, List.set_cons_succ, List.getElem_toArray, List.getElem_cons_succ, List.getElem_cons_zero]
    refine wpAnyH_ready (rs := [19]) (by kernel_rfl) (by simp) ?_
    refine AllReadyH.cons rfl (fun KK hKK => ?_) AllReadyH.nil
    go_simp
    refine (HQ2.out _).mono ?_; rintro e' y4 ⟨rfl, hg⟩
    have hS1 := hS0.kept0 hg
    replace HGr := hid (grown_trans HGr.out hg)
    clear hg hS0
    have hS0 := hS1
    clear hS1
    refine hKK.out _ _ hS0 (fun _ => ?_)
    clear hKK KK
    try simp only [Act.put, List.setIfInBounds_toArray, List.set_cons_zero, List.set_cons_succ, List.getElem_toArray, List.getElem_cons_succ, List.getElem_cons_zero]
    refine wpAnyH_take (i := 20) (v := ?_) rfl (by kernel_rfl) (by kernel_rfl) (by kernel_rfl) (fun _ _ _ h => h) (Or.inl ⟨by kernel_rfl, ?_⟩) hS0 ?_
    rotate_left
    · (intro W hSw; clear hSw; go_simp; try with_reducible rfl)
    try simp only [Act.put, List.setIfInBounds_toArray, List.set_cons_zero, List.set_cons_succ, List.getElem_toArray, List.getElem_cons_succ, List.getElem_cons_zero]
    refine wpAnyH_take (i := 21) (v := ?_) rfl (by kernel_rfl) (by kernel_rfl) (by kernel_rfl) (fun _ _ _ h => h) (Or.inl ⟨by kernel_rfl, ?_⟩) hS0 ?_
    rotate_left
    · (intro W hSw; clear hSw; go_simp; try with_reducible rfl)
    try simp only [Act.put, List.setIfInBounds_toArray, List.set_cons_zero, List.set_cons_succ, List.getElem_toArray, List.getElem_cons_succ, List.getElem_cons_zero]
    refine wpAnyH_take (i := 22) (v := ?_) rfl (by kernel_rfl) (by kernel_rfl) (by kernel_rfl) (fun _ _ _ h => h) (Or.inl ⟨by kernel_rfl, ?_⟩) hS0 ?_
    rotate_left
    · (intro W hSw; clear hSw; go_simp; try with_reducible rfl)
    try simp only [Act.put, List.setIfInBounds_toArray, List.set_cons_zero, List.set_cons_succ, List.getElem_toArray, List.getElem_cons_succ, List.getElem_cons_zero]
    refine wpAnyH_take (i := 23) (v := ?_) rfl (by kernel_rfl) (by kernel_rfl) (by kernel_rfl) (fun _ _ _ h => h) (Or.inl ⟨by kernel_rfl, ?_⟩) hS0 ?_
    rotate_left
    · (intro W hSw; clear hSw; go_simp; try with_reducible rfl)
    try simp only [Act.put, List.setIfInBounds_toArray, List.set_cons_zero, List.set_cons_succ, List.getElem_toArray, List.getElem_cons_succ, List.getElem_cons_zero]
    refine wpAnyH_take (i := 24) (v := ?_) rfl (by kernel_rfl) (by kernel_rfl) (by kernel_rfl) (fun _ _ _ h => h) (Or.inl ⟨by kernel_rfl, ?_⟩) hS0 ?_
    rotate_left
    · (intro W hSw; clear hSw; go_simp; try with_reducible rfl)
    try simp only [Act.put, List.setIfInBounds_toArray, List.set_cons_zero, List.set_cons_succ, List.getElem_toArray, List.getElem_cons_succ, List.getElem_cons_zero]
    refine wpAnyH_take (i := 25) (v := ?_) rfl (by kernel_rfl) (by kernel_rfl) (by kernel_rfl) (fun _ _ _ h => h) (Or.inl ⟨by kernel_rfl, ?_⟩) hS0 ?_
    rotate_left
    · (intro W hSw; clear hSw; go_simp; try with_reducible rfl)
    try simp only [Act.put, List.setIfInBounds_toArray, List.set_cons_zero, List.set_cons_succ, List.getElem_toArray, List.getElem_cons_succ, List.getElem_cons_zero]
    refine wpAnyH_take (i := 26) (v := ?_) rfl (by kernel_rfl) (by kernel_rfl) (by kernel_rfl) (fun _ _ _ h => h) (Or.inl ⟨by kernel_rfl, ?_⟩) hS0 ?_
    rotate_left
    · (intro W hSw; clear hSw; go_simp; try with_reducible rfl)
    try simp only [Act.put, List.setIfInBounds_toArray, List.set_cons_zero, List.set_cons_succ, List.getElem_toArray, List.getElem_cons_succ, List.getElem_cons_zero]
    refine wpAnyH_take (i := 27) (v := ?_) rfl (by kernel_rfl) (by kernel_rfl) (by kernel_rfl) (fun _ _ _ h => h) (Or.inl ⟨by kernel_rfl, ?_⟩) hS0 ?_
    rotate_left
    · (intro W hSw; clear hSw; go_simp; try with_reducible rfl)
    try simp only [Act.put, List.setIfInBounds_toArray, List.set_cons_zero, List.set_cons_succ, List.getElem_toArray, List.getElem_cons_succ, List.getElem_cons_zero]
    refine wpAnyH_take (i := 28) (v := ?_) rfl (by kernel_rfl) (by kernel_rfl) (by kernel_rfl) (fun _ _ _ h => h) (Or.inl ⟨by kernel_rfl, ?_⟩) hS0 ?_
    rotate_left
    · (intro W hSw; clear hSw; go_simp; try with_reducible rfl)
    try simp only [Act.put, List.setIfInBounds_toArray, List.set_cons_zero, List.set_cons_succ, List.getElem_toArray, List.getElem_cons_succ, List.getElem_cons_zero]
    refine wpAnyH_take (i := 29) (v := ?_) rfl (by kernel_rfl) (by kernel_rfl) (by kernel_rfl) (fun _ _ _ h => h) (Or.inl ⟨by kernel_rfl, ?_⟩) hS0 ?_
    rotate_left
    · (intro W hSw; clear hSw; go_simp; try with_reducible rfl)
    try simp only [Act.put, List.setIfInBounds_toArray, List.set_cons_zero, List.set_cons_succ, List.getElem_toArray, List.getElem_cons_succ, List.getElem_cons_zero]
    refine wpAnyH_ready (rs := [30]) (by kernel_rfl) (by simp) ?_
    refine AllReadyH.cons rfl (fun KK hKK => ?_) AllReadyH.nil
    go_simp
    refine (HSw.out _ HGr.out).mono ?_; rintro e' y5 ⟨rfl, hg⟩
    have hS1 := hS0.kept0 hg
    replace HGr := hid (grown_trans HGr.out hg)
    clear hg hS0
    have hS0 := hS1
    clear hS1
    refine hKK.out _ _ hS0 (fun _ => ?_)
    clear hKK KK
    try simp only [Act.put, List.setIfInBounds_toArray, List.set_cons_zero, List.set_cons_succ, List.getElem_toArray, List.getElem_cons_succ, List.getElem_cons_zero]
    refine wpAnyH_take (i := 31) (v := ?_) rfl (by kernel_rfl) (by kernel_rfl) (by kernel_rfl) (fun _ _ _ h => h) (Or.inl ⟨by kernel_rfl, ?_⟩) hS0 ?_
    rotate_left
    · (intro W hSw; clear hSw; go_simp; try with_reducible rfl)
    try simp only [Act.put, List.setIfInBounds_toArray, List.set_cons_zero, List.set_cons_succ, List.getElem_toArray, List.getElem_cons_succ, List.getElem_cons_zero]
    refine wpAnyH_take (i := 32) (v := ?_) rfl (by kernel_rfl) (by kernel_rfl) (by kernel_rfl) (fun _ _ _ h => h) (Or.inl ⟨by kernel_rfl, ?_⟩) hS0 ?_
    rotate_left
    · (intro W hSw; clear hSw; go_simp; try with_reducible rfl)
    try simp only [Act.put, List.setIfInBounds_toArray, List.set_cons_zero, List.set_cons_succ, List.getElem_toArray, List.getElem_cons_succ, List.getElem_cons_zero]
    refine wpAnyH_take (i := 33) (v := ?_) rfl (by kernel_rfl) (by kernel_rfl) (by kernel_rfl) (fun _ _ _ h => h) (Or.inl ⟨by kernel_rfl, ?_⟩) hS0 ?_
    rotate_left
    · (intro W hSw; clear hSw; go_simp; try with_reducible rfl)
    try simp only [Act.put, List.setIfInBounds_toArray, List.set_cons_zero, List.set_cons_succ, List.getElem_toArray, List.getElem_cons_succ, List.getElem_cons_zero]
    refine wpAnyH_take (i := 34) (v := .agg (imgC V x.e)) rfl (by kernel_rfl) (by kernel_rfl) (by kernel_rfl) (fun _ _ _ h => h) (Or.inl ⟨by kernel_rfl, fun W hW => run_load_row _ _ rfl rfl hW.blk rfl Tryd.underlying29 info_image⟩) hS0 ?_
    try simp only [Act.put, List.setIfInBounds_toArray, List.set_cons_zero, List.set_cons_succ, List.getElem_toArray, List.getElem_cons_succ, List.getElem_cons_zero]
    refine wpAnyH_take (i := 35) (v := ?_) rfl (by kernel_rfl) (by kernel_rfl) (by kernel_rfl) (fun _ _ _ h => h) (Or.inl ⟨by kernel_rfl, ?_⟩) hS0 ?_
    rotate_left
    · (intro W hSw; clear hSw; go_simp; try with_reducible rfl)
    try simp only [Act.put, List.setIfInBounds_toArray, List.set_cons_zero, List.set_cons_succ, List.getElem_toArray, List.getElem_cons_succ, List.getElem_cons_zero]
    refine wpAnyH_take (i := 37) (v := .agg (imgC V x.e)) rfl (by kernel_rfl) (by kernel_rfl) (by kernel_rfl) (fun _ _ _ h => h) (Or.inl ⟨by kernel_rfl, fun W hW => run_load_row _ _ rfl rfl hW.blk rfl Tryd.underlying29 info_image⟩) hS0 ?_
    try simp only [Act.put, List.setIfInBounds_toArray, List.set_cons_zero, List.set_cons_succ, List.getElem_toArray, List.getElem_cons_succ, List.getElem_cons_zero]
    refine wpAnyH_take (i := 38) (v := ?_) rfl (by kernel_rfl) (by kernel_rfl) (by kernel_rfl) (fun _ _ _ h => h) (Or.inl ⟨by kernel_rfl, ?_⟩) hS0 ?_
    rotate_left
    · (intro W hSw; clear hSw; go_simp; try with_reducible rfl)
    try simp only [Act.put, List.setIfInBounds_toArray, List.set_cons_zero, List.set_cons_succ, List.getElem_toArray, List.getElem_cons_succ, List.getElem_cons_zero]
    refine wpAnyH_ready (rs := [36]) (by kernel_rfl) (by simp) ?_
    refine AllReadyH.cons rfl (fun KK hKK => ?_) AllReadyH.nil
    go_simp
    refine (HC1.out _).mono ?_; rintro e' y6 ⟨rfl, hg⟩
    have hS1 := hS0.kept0 hg
    replace HGr := hid (grown_trans HGr.out hg)
    clear hg hS0
    have hS0 := hS1
    clear hS1
    refine hKK.out _ _ hS0 (fun _ => ?_)
    clear hKK KK
    try simp only [Act.put, List.setIfInBounds_toArray, List.set_cons_zero, List.set_cons_succ, List.getElem_toArray, List.getElem_cons_succ, List.getElem_cons_zero]
    refine wpAnyH_ready (rs := [39]) (by kernel_rfl) (by simp) ?_
    refine AllReadyH.cons rfl (fun KK hKK => ?_) AllReadyH.nil
    go_simp
    refine (HC2.out _).mono ?_; rintro e' y7 ⟨rfl, hg⟩
    have hS1 := hS0.kept0 hg
    replace HGr := hid (grown_trans HGr.out hg)
    clear hg hS0
    have hS0 := hS1
    clear hS1
    refine hKK.out _ _ hS0 (fun _ => ?_)
    clear hKK KK
    try simp only [Act.put, List.setIfInBounds_toArray, List.set_cons_zero, List.set_cons_succ, List.getElem_toArray, List.getElem_cons_succ, List.getElem_cons_zero]
    refine wpAnyH_ready (rs := [40]) (by kernel_rfl) (by simp) ?_
    refine AllReadyH.cons rfl (fun KK hKK => ?_) AllReadyH.nil
    go_simp
    refine (HSc.out _).mono ?_; rintro e' y8 ⟨rfl, hg⟩
    have hS1 := hS0.kept0 hg
    replace HGr := hid (grown_trans HGr.out hg)
    clear hg hS0
    have hS0 := hS1
    clear hS1
    refine hKK.out _ _ hS0 (fun _ => ?_)
    clear hKK KK
    try simp only [Act.put, List.setIfInBounds_toArray, List.set_cons_zero, List.set_cons_succ, List.getElem_toArray, List.getElem_cons_succ, List.getElem_cons_zero]
    refine wpAnyH_take (i := 41) (v := ?_) rfl (by kernel_rfl) (by kernel_rfl) (by kernel_rfl) (fun _ _ _ h => h) (Or.inl ⟨by kernel_rfl, ?_⟩) hS0 ?_
    rotate_left
    · (intro W hSw; clear hSw; go_simp; try with_reducible rfl)
    try simp only [Act.put, List.setIfInBounds_toArray, List.set_cons_zero, List.set_cons_succ, List.getElem_toArray, List.getElem_cons_succ, List.getElem_cons_zero]
    refine wpAnyH_take (i := 42) (v := ?_) rfl (by kernel_rfl) (by kernel_rfl) (by kernel_rfl) (fun _ _ _ h => h) (Or.inl ⟨by kernel_rfl, ?_⟩) hS0 ?_
    rotate_left
    · (intro W hSw; clear hSw; go_simp; try with_reducible rfl)
    try simp only [Act.put, List.setIfInBounds_toArray, List.set_cons_zero, List.set_cons_succ, List.getElem_toArray, List.getElem_cons_succ, List.getElem_cons_zero]
    refine wpAnyH_done (by kernel_rfl) ?_ _
    have HL12 : Hid (LdW W y8 I V x) := hid (HL10.out.kept0 HGr.out)
    have HE12 := hid (HE10.out.kept0 HGr.out)
    clear HGr hS0 HL10 HE10 HVal HIs HQ1 HQ2 HSw HC1 HC2 HSc HSl1 HSl2
    go_wp2_with (first
      | (refine wpList_load_im (by kernel_rfl) _ rfl rfl HL12.out.box ?_)
      | fail)
    have hcc := codeB_cases x q
    by_cases hcode : codeB x q = 0
    · clear hcc
      obtain ⟨hv, hq1, hq2⟩ := codeB_fine hcode
      unfold quoI at hq1
      obtain ⟨Q, hQ⟩ := Int.eq_ofNat_of_zero_le (show 0 ≤ q by omega)
      subst hQ
      obtain ⟨n, hn⟩ : ∃ n, Q + pgN x.C = n := ⟨_, rfl⟩
      have Hcode := hid hcode
      have Hn := hid hn
      have Hn4 : Hid (n ≤ 1024) := hid (by have h := HL12.out.im.cl; have h2 := HB.out; unfold pgN at hn; omega)
      clear hv hq1 hq2 hcode hn
      refine (bare_yes HL12.out.im HE12.out.lde (Q : Int) Q rfl Hcode.out n Hn.out).mono ?_
      rintro e w9 ⟨p, rfl, hB⟩
      have HL13 := hid (HL12.out.kept0 hB.old)
      have HE13 := hid (HE12.out.kept0 hB.old)
      have HBx := hid hB
      clear hB HE12
      go_wp2_with (first
        | (refine wpList_load_im (by kernel_rfl) _ rfl rfl HL13.out.box ?_)
        | fail)
      refine (rload_yes HL13.out.im (Q : Int) Q rfl Hcode.out n Hn.out).mono ?_
      rintro e w10 ⟨p2, m2, g, cap, dd, rfl, hga, hrc, hg⟩
      have HL14 := hid (HL13.out.kept0 hg)
      have HE14 := hid (HE13.out.kept0 hg)
      have HBy := hid (HBx.out.keep hg)
      have HGA := hid hga
      have HRC := hid hrc
      clear hga hrc hg HL13 HE13 HBx HL12
      go_wp2_with fail
      refine (is_none14 (w := w10) 0 true rfl).mono ?_; rintro e w11 ⟨rfl, hg⟩
      have HL15 := hid (HL14.out.kept0 hg)
      have HBz := hid (HBy.out.keep hg)
      have HGB := hid (HGA.out.kept0 hg)
      have HRD := hid (HRC.out.kept0 hg)
      clear hg HL14 HE14 HBy HGA HRC
      go_wp2_with fail
      refine (same14_any HBz.out HGB.out HRD.out (by rw [Hy.out]; exact HOk.out.regs) Hn4.out).mono ?_; rintro e w12 ⟨rfl, hg⟩
      have HL16 := hid (HL15.out.kept0 hg)
      clear hg HL15 HBz HGB HRD
      go_wp2
      go_ret
      exact ⟨rfl, grown_below HL16.out.g⟩
    · have Hcode := hid hcode
      have Hcc := hid hcc
      clear hcode hcc
      refine (bare_no HL12.out.im HE12.out.lde HB.out.1 HB.out.2.1 q q0 q1 Hcode.out).mono ?_
      rintro e w9 ⟨rfl, hg⟩
      have HL13 := hid (HL12.out.kept0 hg)
      have HE13 := hid (HE12.out.kept0 hg)
      clear hg HL12 HE12
      obtain ⟨s, hs⟩ : ∃ s, codeB x q = s := ⟨_, rfl⟩
      have Hs := hid hs
      obtain ⟨vs, hvs⟩ : ∃ vs, lvV A s = vs := ⟨_, rfl⟩
      have Hvs := hid hvs
      rw [hs, hvs]
      clear hs hvs
      go_wp2_with (first
        | (refine wpList_load_im (by kernel_rfl) _ rfl rfl HL13.out.box ?_)
        | fail)
      refine (rload_no HL13.out.im HB.out.1 HB.out.2.1 q q0 q1 Hcode.out s Hs.out).mono ?_
      rintro e w10 ⟨rfl, hg⟩
      have HL14 := hid (HL13.out.kept0 hg)
      have HE14 := hid (HE13.out.kept0 hg)
      clear hg HL13 HE13
      have HIz : Hid (Calls Tryd.prog 27 #[vs, .int .i64 s] w10 fun e w' => e = .returned (.bool true) ∧ w10.grownBy w' none) := hid (by
        have := is14 HE14.out (r := s) (by rw [← Hs.out]; exact Hcc.out)
        rw [Hvs.out] at this
        exact this)
      go_wp2_with fail
      refine (HIz.out).mono ?_; rintro e w11 ⟨rfl, hg⟩
      have HL15 := hid (HL14.out.kept0 hg)
      clear hg HL14 HE14 HIz
      go_wp2
      go_ret
      exact ⟨rfl, grown_below HL15.out.g⟩
  · have hl := Bool.eq_false_iff.2 hl
    refine (limage_any V x.e _ 300 300 rfl false hl).mono ?_; rintro e w3 ⟨rfl, hg⟩
    have HL3 := hid (HL2.out.kept0 hg)
    clear hg HL2
    go_wp2
    go_ret
    exact ⟨rfl, grown_below HL3.out.g⟩
end Go.Proofs.YtpkgckjlhjcdmaaDoor
