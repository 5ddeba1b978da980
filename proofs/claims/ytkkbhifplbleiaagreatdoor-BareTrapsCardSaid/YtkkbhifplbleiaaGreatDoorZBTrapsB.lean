/- The walk of the law BareTraps, two of its four causes. -/
import Derived.Test.YtkkbhifplbleiaaGreatDoorZBTraps0
import Derived.Test.YtkkbhifplbleiaaGreatDoorZBShows
import Derived.Test.YtkkbhifplbleiaaGreatDoorZGBareC
import Derived.Test.YtkkbhifplbleiaaGreatDoorZGCpu
import Derived.Test.YtkkbhifplbleiaaGreatDoorZGDev
import Derived.LoopTactic
import Derived.Deep.Cut
import Derived.BigGuardPart
import Derived.BigQuiet
namespace Go.Proofs.YtkkbhifplbleiaaGreatDoor
open Go.RowKit
set_option maxRecDepth 100000 in
set_option maxHeartbeats 4000000 in
theorem traps_walk2n (kk : Int) (W : World) (n0 : -9223372036854775808 ≤ kk) (n1 : kk ≤ 9223372036854775807) (hK : ((numB kk 4 : Nat) : Int) = 2) :
    Calls Tryz.prog 7 #[.int .i64 kk, .bool false] W fun e w' => e = .returned (.bool true) ∧ Below W.heap.size W w' := by
  have Hz := zero_cpu
  have HK := hid hK
  clear hK
  obtain ⟨i, hi, hz0, hz1, hz2⟩ := u32_info
  have Hi := hid hi
  have Hz0 := hid hz0
  have Hz1 := hid hz1
  have Hz2 := hid hz2
  clear hi hz0 hz1 hz2
  obtain ⟨M0, hM0⟩ : ∃ M0, startT 2 false = M0 := ⟨_, rfl⟩
  obtain ⟨M1, hM1⟩ : ∃ M1, machT 2 false = M1 := ⟨_, rfl⟩
  obtain ⟨MF, hMF⟩ : ∃ MF, iterP (24 + 16) 24 12 M1 = MF := ⟨_, rfl⟩
  obtain ⟨hF1, hF2⟩ := t2n
  rw [hM1, hMF] at hF1 hF2
  have HM0 := hid hM0
  have HM1 := hid hM1
  have HMF := hid hMF
  have HF1 := hid hF1
  have HF2 := hid hF2
  have Hn0 : Hid (M1.now = 0) := hid (by rw [← hM1]; rfl)
  have HQ0 : Hid (M0.d.Q = []) := hid (by rw [← hM0]; rfl)
  have H01 : Hid (M1 = M0) := hid (by rw [← hM1, ← hM0]; rfl)
  have HU := hid (memW8_u32 24 (data := []) (code := codeT 2) (fun x hx => by cases hx) (show ∀ x ∈ codeT 2, 0 ≤ x ∧ x < 4294967296 by decide))
  clear hF1 hF2 hMF hM0 hM1
  go_enter Tryz.func7, Tryz.ntmps7
  go_wp2_with fail
  refine (first8_any _).mono ?_; rintro e w1 ⟨rfl, hg⟩
  have HG1 := hid hg
  clear hg
  go_wp2_with fail
  refine (number_any kk 4 (by decide) (by decide) n0 n1 _).mono ?_; rintro e w2 ⟨rfl, rfl⟩
  rw [HK.out]
  go_upto_region 8 with fail
  obtain ⟨wA, hA⟩ : ∃ wA, (((((w1.alloc (.cells #[.int .u32 201392128, .int .u32 0] 25)).alloc (.cells #[.int .u32 0] 25)).alloc (.cells #[.int .u32 234946560, .int .u32 1, .int .u32 654376960, .int .u32 1090519040, .int .u32 16777216] 25)).alloc (.cells #[.int .u32 1090519040, .int .u32 16777216] 25)).alloc (.cells #[.slice (some ⟨w1.heap.size, 0, none⟩) 2 2, .slice (some ⟨w1.heap.size + 1, 0, none⟩) 1 1, .slice (some ⟨w1.heap.size + 1 + 1, 0, none⟩) 5 5, .slice (some ⟨w1.heap.size + 1 + 1 + 1, 0, none⟩) 2 2] 24)) = wA := ⟨_, rfl⟩
  have HGA : Hid (W.grownBy wA none) := hid (by rw [← hA]; exact grown_alloc (grown_alloc (grown_alloc (grown_alloc (grown_alloc HG1.out _) _) _) _) _)
  have hgl : w1.heap.size + 1 + 1 < wA.heap.size := by rw [← hA]; simp
  have hcA : ∀ j u, ([.int .u32 234946560, .int .u32 1, .int .u32 654376960, .int .u32 1090519040, .int .u32 16777216] : List Value)[j]? = some u → wA.cell? ((⟨w1.heap.size + 1 + 1, 0, none⟩ : Addr).add j) = some u := by
    rw [← hA]
    have e := heap_alloc_last ((w1.alloc (.cells #[.int .u32 201392128, .int .u32 0] 25)).alloc (.cells #[.int .u32 0] 25)) (.cells #[.int .u32 234946560, .int .u32 1, .int .u32 654376960, .int .u32 1090519040, .int .u32 16777216] 25)
    rw [show ((w1.alloc (.cells #[.int .u32 201392128, .int .u32 0] 25)).alloc (.cells #[.int .u32 0] 25)).heap.size = w1.heap.size + 1 + 1 by simp] at e
    exact World.news_of_block (cs := #[.int .u32 234946560, .int .u32 1, .int .u32 654376960, .int .u32 1090519040, .int .u32 16777216]) (t := 25) (fr := (0, 0)) ((heap_alloc_old _ _ (by simp <;> omega)).trans ((heap_alloc_old _ _ (by simp <;> omega)).trans (e)))
  have HcA : Hid (∀ j u, ([.int .u32 234946560, .int .u32 1, .int .u32 654376960, .int .u32 1090519040, .int .u32 16777216] : List Value)[j]? = some u → (wA.alloc (.cells #[] 25)).cell? ((⟨w1.heap.size + 1 + 1, 0, none⟩ : Addr).add j) = some u) := hid (fun j u hu => (World.cell?_alloc_lt wA _ _ (by rw [Addr.add_lit]; exact hgl)).trans (hcA j u hu))
  rw [hA]
  clear hA hcA hgl HG1
  go_wp2_with (first
    | (refine wpList_append_lies _ rfl _ _ 24 rfl W.heap.size 25 i _ 1 4 Tryz.underlying24 Hi.out Hz0.out Hz1.out Hz2.out rfl (by decide) (.slice (some ⟨wA.heap.size, 0, none⟩) 0 0) 0 [] rfl (own_empty HGA.out) ⟨w1.heap.size + 1 + 1, 0, none⟩ 5 5 [.int .u32 234946560, .int .u32 1, .int .u32 654376960, .int .u32 1090519040, .int .u32 16777216] rfl rfl HcA.out (by simp [Value.oneCell']) (by decide) (by decide) (by decide) (Nat.le_trans HGA.out.size (by simp)) _ rfl ?_; intro ga capa wB hown hgrow hat hlt; have HOB := hid hown; have HGB := hid (grown_own (grown_alloc HGA.out _) (own_empty HGA.out) hgrow); clear hown hgrow hat hlt)
    | (obtain ⟨vz, wz, hr, ho, hgz⟩ := run_zeros_own HOB.out (k := 15) (by decide) (by decide) HGB.out.size 24; refine Go.Lib.wpList_append_run _ rfl _ _ _ _ rfl _ _ rfl rfl _ _ hr ?_; have HZ := hid (cb_of (l := [234946560, 1, 654376960, 1090519040, 16777216] ++ List.replicate 15 0) (grown_own HGB.out HOB.out hgz) ho rfl rfl); clear hr ho hgz)
    | (refine cb_append HZ.out rfl _ _ rfl rfl [722010112, 587792384, 536870912] 3 rfl (by decide) rfl rfl (by decide) ?_; intro vc wc hC; have HC2 : Hid (CB2 W vc (codeT 2) _ [] wc) := hid hC; clear hC)
    | fail)
  refine (memory8_any 24 (by decide) (by decide) (.slice none 0 0) vc [] (codeT 2) _ (sl_nil _) HC2.out.sl (by decide) (by decide)).mono ?_; rintro e x3 ⟨m, b, m', b', rfl, hm, hb, hb', hM, hR, hg⟩
  have HM := hid hM
  have HG3 := hid (HC2.out.keep hg).hg
  clear hM hR hm hb hb' hg HC2 HZ HOB HGB HcA HGA
  go_upto_region 13 with fail
  go_upto_region 14 with (first
    | (refine wpList_build_pc rfl _ rfl rfl ?_)
    | (refine wpList_store_cpu_new (z := zeroP) rfl _ _ rfl rfl rfl rfl rfl ?_)
    | fail)
  have HG4 := hid (World.grownBy_alloc x3 (.cells (cpuC (pcP 2048 0)) 39) (some x3.heap.size))
  have HCp : Hid (CpuAt (x3.alloc (.cells (cpuC (pcP 2048 0)) 39)) x3.heap.size (pcP 2048 0)) := hid (CpuAt.new x3 rfl)
  have hcs : W.heap.size ≤ x3.heap.size := HG3.out.size
  generalize hx4 : x3.alloc (.cells (cpuC (pcP 2048 0)) 39) = x4 at HG4 HCp ⊢
  clear hx4
  obtain ⟨cB, hcB⟩ : ∃ cB, x3.heap.size = cB := ⟨_, rfl⟩
  rw [hcB] at HG4 HCp hcs ⊢
  have hcB2 : x3.heap.size ≤ cB := by omega
  have Hcs := hid hcs
  clear hcs
  have HCf := HCp
  have HGf := hid (grown_new HG4.out hcB2)
  go_wp2_with (first
    | (refine wpList_load_cpu rfl _ rfl rfl HCf.out ?_)
    | fail)
  refine (mb_new (W := W) (HM.out.kept0 HGf.out) (grown_trans HG3.out HGf.out) (c := pcP 2048 0) (pcP_ok (pc := 2048) (tv := 0) (by decide) (by decide) (by decide) (by decide)) HU.out (q := 24) (by decide) (by decide)).mono ?_; rintro e x7 ⟨pb, rfl, hB⟩
  rw [show initM (memW8 24 [] (codeT 2)) (pcP 2048 0) = M0 from HM0.out] at hB
  have HB := hid hB
  clear hB HM HU HG3 HG4 HCp HCf HGf
  rw [← H01.out] at HB
  go_wp2
  go_loopw [13] (fun i wr => ∃ k : Nat, k ≤ 12 ∧ i = .int .i64 k ∧ Hid (MBox W pb (24 + 16) 24 (iterP (24 + 16) 24 k M1) wr)) (fun i _ => 12 - (intOf i).toNat)
  case atStart => exact ⟨0, Nat.zero_le _, rfl, HB⟩
  case round =>
    clear HB
    obtain ⟨k, hk, rfl, HB⟩ := hrel
    have hk0 : (0 : Int) ≤ (k : Int) := by omega
    have hnk : (iterP (24 + 16) 24 k M1).now ≤ 1000 := by have h1 := iter_now (n := 24 + 16) (Q := 24) k M1; have h2 := Hn0.out; omega
    have Hnk := hid hnk
    clear hnk
    by_cases hlt : k < 12
    · have hk1 : (k : Int) < 12 := by omega
      go_wp2_with fail
      refine (mb_step HB.out (by have := Hnk.out; omega) _ rfl _ (iter_snoc (24 + 16) 24 k M1).symm).mono ?_; rintro e x8 ⟨rfl, hB, hO⟩
      have HB6 := hid hB
      clear hB hO HB
      go_wp2
      go_roundw
      case rel => exact ⟨k + 1, by omega, by go_num, HB6⟩
      case measure => simp [intOf]; omega
    · have hge : ¬ (k : Int) < 12 := by omega
      have ek : k = 12 := by omega
      subst ek
      rw [HMF.out] at HB
      clear hlt Hnk
      go_wp2_with fail
      refine (mb_over HB.out true HF1.out).mono ?_; rintro e x9 ⟨rfl, rfl⟩
      go_wp2_with fail
      refine (mb_seen (HB.out.keep (World.grownBy_alloc _ _ none)) (by rw [HF2.out]; decide) _ HF2.out).mono ?_; rintro e x10 ⟨v1, rfl, hA, hg⟩
      have HA : Hid (SnAt x10 v1 [(4, 2, 0)]) := hid (SnAt.own hA)
      have HB7 := hid ((HB.out.keep (World.grownBy_alloc _ _ none)).keep hg)
      clear hA hg HB
      obtain ⟨bs, cs, rfl, hbs, hcs⟩ : ∃ bs cs, v1 = .slice (some ⟨bs, 0, none⟩) 1 cs ∧ bs < x10.heap.size ∧ ∀ j u, (snCells [(4, 2, 0)])[j]? = some u → x10.cell? ⟨bs, j, none⟩ = some u := by
        rcases HA.out with ⟨_, h0⟩ | ⟨b, c, h1, h2, h3⟩
        · cases h0
        · exact ⟨b, c, h1, h2, h3⟩
      have d0 := hcs 0 _ rfl
      have d1 := hcs 1 _ rfl
      clear HA hcs hbs
      go_wp2
      go_ret
      exact ⟨rfl, grown_below HB7.out.old⟩
set_option maxRecDepth 100000 in
set_option maxHeartbeats 4000000 in
theorem traps_walk2y (kk : Int) (W : World) (n0 : -9223372036854775808 ≤ kk) (n1 : kk ≤ 9223372036854775807) (hK : ((numB kk 4 : Nat) : Int) = 2) :
    Calls Tryz.prog 7 #[.int .i64 kk, .bool true] W fun e w' => e = .returned (.bool true) ∧ Below W.heap.size W w' := by
  have Hz := zero_cpu
  have HK := hid hK
  clear hK
  obtain ⟨i, hi, hz0, hz1, hz2⟩ := u32_info
  have Hi := hid hi
  have Hz0 := hid hz0
  have Hz1 := hid hz1
  have Hz2 := hid hz2
  clear hi hz0 hz1 hz2
  obtain ⟨M0, hM0⟩ : ∃ M0, startT 2 true = M0 := ⟨_, rfl⟩
  obtain ⟨M1, hM1⟩ : ∃ M1, machT 2 true = M1 := ⟨_, rfl⟩
  obtain ⟨MF, hMF⟩ : ∃ MF, iterP (24 + 16) 24 12 M1 = MF := ⟨_, rfl⟩
  obtain ⟨hF1, hF2⟩ := t2y
  rw [hM1, hMF] at hF1 hF2
  have HM0 := hid hM0
  have HM1 := hid hM1
  have HMF := hid hMF
  have HF1 := hid hF1
  have HF2 := hid hF2
  have Hn0 : Hid (M1.now = 0) := hid (by rw [← hM1]; rfl)
  have HQ0 : Hid (M0.d.Q = []) := hid (by rw [← hM0]; rfl)
  have H01 : Hid (M1 = M0) := hid (by rw [← hM1, ← hM0]; rfl)
  have HU := hid (memW8_u32 24 (data := []) (code := codeT 2) (fun x hx => by cases hx) (show ∀ x ∈ codeT 2, 0 ≤ x ∧ x < 4294967296 by decide))
  clear hF1 hF2 hMF hM0 hM1
  go_enter Tryz.func7, Tryz.ntmps7
  go_wp2_with fail
  refine (first8_any _).mono ?_; rintro e w1 ⟨rfl, hg⟩
  have HG1 := hid hg
  clear hg
  go_wp2_with fail
  refine (number_any kk 4 (by decide) (by decide) n0 n1 _).mono ?_; rintro e w2 ⟨rfl, rfl⟩
  rw [HK.out]
  go_upto_region 8 with fail
  obtain ⟨wA, hA⟩ : ∃ wA, (((((w1.alloc (.cells #[.int .u32 201392128, .int .u32 0] 25)).alloc (.cells #[.int .u32 0] 25)).alloc (.cells #[.int .u32 234946560, .int .u32 1, .int .u32 654376960, .int .u32 1090519040, .int .u32 16777216] 25)).alloc (.cells #[.int .u32 1090519040, .int .u32 16777216] 25)).alloc (.cells #[.slice (some ⟨w1.heap.size, 0, none⟩) 2 2, .slice (some ⟨w1.heap.size + 1, 0, none⟩) 1 1, .slice (some ⟨w1.heap.size + 1 + 1, 0, none⟩) 5 5, .slice (some ⟨w1.heap.size + 1 + 1 + 1, 0, none⟩) 2 2] 24)) = wA := ⟨_, rfl⟩
  have HGA : Hid (W.grownBy wA none) := hid (by rw [← hA]; exact grown_alloc (grown_alloc (grown_alloc (grown_alloc (grown_alloc HG1.out _) _) _) _) _)
  have hgl : w1.heap.size + 1 + 1 < wA.heap.size := by rw [← hA]; simp
  have hcA : ∀ j u, ([.int .u32 234946560, .int .u32 1, .int .u32 654376960, .int .u32 1090519040, .int .u32 16777216] : List Value)[j]? = some u → wA.cell? ((⟨w1.heap.size + 1 + 1, 0, none⟩ : Addr).add j) = some u := by
    rw [← hA]
    have e := heap_alloc_last ((w1.alloc (.cells #[.int .u32 201392128, .int .u32 0] 25)).alloc (.cells #[.int .u32 0] 25)) (.cells #[.int .u32 234946560, .int .u32 1, .int .u32 654376960, .int .u32 1090519040, .int .u32 16777216] 25)
    rw [show ((w1.alloc (.cells #[.int .u32 201392128, .int .u32 0] 25)).alloc (.cells #[.int .u32 0] 25)).heap.size = w1.heap.size + 1 + 1 by simp] at e
    exact World.news_of_block (cs := #[.int .u32 234946560, .int .u32 1, .int .u32 654376960, .int .u32 1090519040, .int .u32 16777216]) (t := 25) (fr := (0, 0)) ((heap_alloc_old _ _ (by simp <;> omega)).trans ((heap_alloc_old _ _ (by simp <;> omega)).trans (e)))
  have HcA : Hid (∀ j u, ([.int .u32 234946560, .int .u32 1, .int .u32 654376960, .int .u32 1090519040, .int .u32 16777216] : List Value)[j]? = some u → (wA.alloc (.cells #[] 25)).cell? ((⟨w1.heap.size + 1 + 1, 0, none⟩ : Addr).add j) = some u) := hid (fun j u hu => (World.cell?_alloc_lt wA _ _ (by rw [Addr.add_lit]; exact hgl)).trans (hcA j u hu))
  rw [hA]
  clear hA hcA hgl HG1
  go_wp2_with (first
    | (refine wpList_append_lies _ rfl _ _ 24 rfl W.heap.size 25 i _ 1 4 Tryz.underlying24 Hi.out Hz0.out Hz1.out Hz2.out rfl (by decide) (.slice (some ⟨wA.heap.size, 0, none⟩) 0 0) 0 [] rfl (own_empty HGA.out) ⟨w1.heap.size + 1 + 1, 0, none⟩ 5 5 [.int .u32 234946560, .int .u32 1, .int .u32 654376960, .int .u32 1090519040, .int .u32 16777216] rfl rfl HcA.out (by simp [Value.oneCell']) (by decide) (by decide) (by decide) (Nat.le_trans HGA.out.size (by simp)) _ rfl ?_; intro ga capa wB hown hgrow hat hlt; have HOB := hid hown; have HGB := hid (grown_own (grown_alloc HGA.out _) (own_empty HGA.out) hgrow); clear hown hgrow hat hlt)
    | (obtain ⟨vz, wz, hr, ho, hgz⟩ := run_zeros_own HOB.out (k := 15) (by decide) (by decide) HGB.out.size 24; refine Go.Lib.wpList_append_run _ rfl _ _ _ _ rfl _ _ rfl rfl _ _ hr ?_; have HZ := hid (cb_of (l := [234946560, 1, 654376960, 1090519040, 16777216] ++ List.replicate 15 0) (grown_own HGB.out HOB.out hgz) ho rfl rfl); clear hr ho hgz)
    | (refine cb_append HZ.out rfl _ _ rfl rfl [722010112, 587792384, 536870912] 3 rfl (by decide) rfl rfl (by decide) ?_; intro vc wc hC; have HC2 : Hid (CB2 W vc (codeT 2) _ [] wc) := hid hC; clear hC)
    | fail)
  refine (memory8_any 24 (by decide) (by decide) (.slice none 0 0) vc [] (codeT 2) _ (sl_nil _) HC2.out.sl (by decide) (by decide)).mono ?_; rintro e x3 ⟨m, b, m', b', rfl, hm, hb, hb', hM, hR, hg⟩
  have HM := hid hM
  have HG3 := hid (HC2.out.keep hg).hg
  clear hM hR hm hb hb' hg HC2 HZ HOB HGB HcA HGA
  go_upto_region 13 with fail
  go_upto_region 14 with (first
    | (refine wpList_build_pc rfl _ rfl rfl ?_)
    | (refine wpList_store_cpu_new (z := zeroP) rfl _ _ rfl rfl rfl rfl rfl ?_)
    | fail)
  have HG4 := hid (World.grownBy_alloc x3 (.cells (cpuC (pcP 2048 0)) 39) (some x3.heap.size))
  have HCp : Hid (CpuAt (x3.alloc (.cells (cpuC (pcP 2048 0)) 39)) x3.heap.size (pcP 2048 0)) := hid (CpuAt.new x3 rfl)
  have hcs : W.heap.size ≤ x3.heap.size := HG3.out.size
  generalize hx4 : x3.alloc (.cells (cpuC (pcP 2048 0)) 39) = x4 at HG4 HCp ⊢
  clear hx4
  obtain ⟨cB, hcB⟩ : ∃ cB, x3.heap.size = cB := ⟨_, rfl⟩
  rw [hcB] at HG4 HCp hcs ⊢
  have hcB2 : x3.heap.size ≤ cB := by omega
  have Hcs := hid hcs
  clear hcs
  have hct := HCp.out.tv
  have hft := HCp.out.free 20
  go_upto_region 16 with fail
  have HCf : Hid (CpuAt (x4.setCell ⟨cB, 20, none⟩ (.int .u32 2068)) cB (pcP 2048 2068)) := hid (HCp.out.sTv 2068)
  have HGf : Hid (x3.grownBy (x4.setCell ⟨cB, 20, none⟩ (.int .u32 2068)) none) := hid (grown_new (grown_setCell HG4.out 20 _) hcB2)
  clear hct hft
  go_wp2_with (first
    | (refine wpList_load_cpu rfl _ rfl rfl HCf.out ?_)
    | fail)
  refine (mb_new (W := W) (HM.out.kept0 HGf.out) (grown_trans HG3.out HGf.out) (c := pcP 2048 2068) (pcP_ok (pc := 2048) (tv := 2068) (by decide) (by decide) (by decide) (by decide)) HU.out (q := 24) (by decide) (by decide)).mono ?_; rintro e x7 ⟨pb, rfl, hB⟩
  rw [show initM (memW8 24 [] (codeT 2)) (pcP 2048 2068) = M0 from HM0.out] at hB
  have HB := hid hB
  clear hB HM HU HG3 HG4 HCp HCf HGf
  rw [← H01.out] at HB
  go_wp2
  go_loopw [13] (fun i wr => ∃ k : Nat, k ≤ 12 ∧ i = .int .i64 k ∧ Hid (MBox W pb (24 + 16) 24 (iterP (24 + 16) 24 k M1) wr)) (fun i _ => 12 - (intOf i).toNat)
  case atStart => exact ⟨0, Nat.zero_le _, rfl, HB⟩
  case round =>
    clear HB
    obtain ⟨k, hk, rfl, HB⟩ := hrel
    have hk0 : (0 : Int) ≤ (k : Int) := by omega
    have hnk : (iterP (24 + 16) 24 k M1).now ≤ 1000 := by have h1 := iter_now (n := 24 + 16) (Q := 24) k M1; have h2 := Hn0.out; omega
    have Hnk := hid hnk
    clear hnk
    by_cases hlt : k < 12
    · have hk1 : (k : Int) < 12 := by omega
      go_wp2_with fail
      refine (mb_step HB.out (by have := Hnk.out; omega) _ rfl _ (iter_snoc (24 + 16) 24 k M1).symm).mono ?_; rintro e x8 ⟨rfl, hB, hO⟩
      have HB6 := hid hB
      clear hB hO HB
      go_wp2
      go_roundw
      case rel => exact ⟨k + 1, by omega, by go_num, HB6⟩
      case measure => simp [intOf]; omega
    · have hge : ¬ (k : Int) < 12 := by omega
      have ek : k = 12 := by omega
      subst ek
      rw [HMF.out] at HB
      clear hlt Hnk
      go_wp2_with fail
      refine (mb_over HB.out true HF1.out).mono ?_; rintro e x9 ⟨rfl, rfl⟩
      go_wp2_with fail
      refine (mb_seen (HB.out.keep (World.grownBy_alloc _ _ none)) (by rw [HF2.out]; decide) _ HF2.out).mono ?_; rintro e x10 ⟨v1, rfl, hA, hg⟩
      have HA : Hid (SnAt x10 v1 [(1, 0, 2), (3, 0, 0)]) := hid (SnAt.own hA)
      have HB7 := hid ((HB.out.keep (World.grownBy_alloc _ _ none)).keep hg)
      clear hA hg HB
      obtain ⟨bs, cs, rfl, hbs, hcs⟩ : ∃ bs cs, v1 = .slice (some ⟨bs, 0, none⟩) 2 cs ∧ bs < x10.heap.size ∧ ∀ j u, (snCells [(1, 0, 2), (3, 0, 0)])[j]? = some u → x10.cell? ⟨bs, j, none⟩ = some u := by
        rcases HA.out with ⟨_, h0⟩ | ⟨b, c, h1, h2, h3⟩
        · cases h0
        · exact ⟨b, c, h1, h2, h3⟩
      have d0 := hcs 0 _ rfl
      have d2 := hcs 2 _ rfl
      have d3 := hcs 3 _ rfl
      clear HA hcs hbs
      go_wp2
      go_ret
      exact ⟨rfl, grown_below HB7.out.old⟩
set_option maxRecDepth 100000 in
set_option maxHeartbeats 4000000 in
theorem traps_walk3n (kk : Int) (W : World) (n0 : -9223372036854775808 ≤ kk) (n1 : kk ≤ 9223372036854775807) (hK : ((numB kk 4 : Nat) : Int) = 3) :
    Calls Tryz.prog 7 #[.int .i64 kk, .bool false] W fun e w' => e = .returned (.bool true) ∧ Below W.heap.size W w' := by
  have Hz := zero_cpu
  have HK := hid hK
  clear hK
  obtain ⟨i, hi, hz0, hz1, hz2⟩ := u32_info
  have Hi := hid hi
  have Hz0 := hid hz0
  have Hz1 := hid hz1
  have Hz2 := hid hz2
  clear hi hz0 hz1 hz2
  obtain ⟨M0, hM0⟩ : ∃ M0, startT 3 false = M0 := ⟨_, rfl⟩
  obtain ⟨M1, hM1⟩ : ∃ M1, machT 3 false = M1 := ⟨_, rfl⟩
  obtain ⟨MF, hMF⟩ : ∃ MF, iterP (24 + 16) 24 12 M1 = MF := ⟨_, rfl⟩
  obtain ⟨hF1, hF2⟩ := t3n
  rw [hM1, hMF] at hF1 hF2
  have HM0 := hid hM0
  have HM1 := hid hM1
  have HMF := hid hMF
  have HF1 := hid hF1
  have HF2 := hid hF2
  have Hn0 : Hid (M1.now = 0) := hid (by rw [← hM1]; rfl)
  have HQ0 : Hid (M0.d.Q = []) := hid (by rw [← hM0]; rfl)
  have H01 : Hid (M1 = pressM M0 5) := hid (by rw [← hM1, ← hM0]; rfl)
  have HU := hid (memW8_u32 24 (data := []) (code := codeT 3) (fun x hx => by cases hx) (show ∀ x ∈ codeT 3, 0 ≤ x ∧ x < 4294967296 by decide))
  clear hF1 hF2 hMF hM0 hM1
  go_enter Tryz.func7, Tryz.ntmps7
  go_wp2_with fail
  refine (first8_any _).mono ?_; rintro e w1 ⟨rfl, hg⟩
  have HG1 := hid hg
  clear hg
  go_wp2_with fail
  refine (number_any kk 4 (by decide) (by decide) n0 n1 _).mono ?_; rintro e w2 ⟨rfl, rfl⟩
  rw [HK.out]
  go_upto_region 8 with fail
  obtain ⟨wA, hA⟩ : ∃ wA, (((((w1.alloc (.cells #[.int .u32 201392128, .int .u32 0] 25)).alloc (.cells #[.int .u32 0] 25)).alloc (.cells #[.int .u32 234946560, .int .u32 1, .int .u32 654376960, .int .u32 1090519040, .int .u32 16777216] 25)).alloc (.cells #[.int .u32 1090519040, .int .u32 16777216] 25)).alloc (.cells #[.slice (some ⟨w1.heap.size, 0, none⟩) 2 2, .slice (some ⟨w1.heap.size + 1, 0, none⟩) 1 1, .slice (some ⟨w1.heap.size + 1 + 1, 0, none⟩) 5 5, .slice (some ⟨w1.heap.size + 1 + 1 + 1, 0, none⟩) 2 2] 24)) = wA := ⟨_, rfl⟩
  have HGA : Hid (W.grownBy wA none) := hid (by rw [← hA]; exact grown_alloc (grown_alloc (grown_alloc (grown_alloc (grown_alloc HG1.out _) _) _) _) _)
  have hgl : w1.heap.size + 1 + 1 + 1 < wA.heap.size := by rw [← hA]; simp
  have hcA : ∀ j u, ([.int .u32 1090519040, .int .u32 16777216] : List Value)[j]? = some u → wA.cell? ((⟨w1.heap.size + 1 + 1 + 1, 0, none⟩ : Addr).add j) = some u := by
    rw [← hA]
    have e := heap_alloc_last (((w1.alloc (.cells #[.int .u32 201392128, .int .u32 0] 25)).alloc (.cells #[.int .u32 0] 25)).alloc (.cells #[.int .u32 234946560, .int .u32 1, .int .u32 654376960, .int .u32 1090519040, .int .u32 16777216] 25)) (.cells #[.int .u32 1090519040, .int .u32 16777216] 25)
    rw [show (((w1.alloc (.cells #[.int .u32 201392128, .int .u32 0] 25)).alloc (.cells #[.int .u32 0] 25)).alloc (.cells #[.int .u32 234946560, .int .u32 1, .int .u32 654376960, .int .u32 1090519040, .int .u32 16777216] 25)).heap.size = w1.heap.size + 1 + 1 + 1 by simp] at e
    exact World.news_of_block (cs := #[.int .u32 1090519040, .int .u32 16777216]) (t := 25) (fr := (0, 0)) ((heap_alloc_old _ _ (by simp <;> omega)).trans (e))
  have HcA : Hid (∀ j u, ([.int .u32 1090519040, .int .u32 16777216] : List Value)[j]? = some u → (wA.alloc (.cells #[] 25)).cell? ((⟨w1.heap.size + 1 + 1 + 1, 0, none⟩ : Addr).add j) = some u) := hid (fun j u hu => (World.cell?_alloc_lt wA _ _ (by rw [Addr.add_lit]; exact hgl)).trans (hcA j u hu))
  rw [hA]
  clear hA hcA hgl HG1
  go_wp2_with (first
    | (refine wpList_append_lies _ rfl _ _ 24 rfl W.heap.size 25 i _ 1 4 Tryz.underlying24 Hi.out Hz0.out Hz1.out Hz2.out rfl (by decide) (.slice (some ⟨wA.heap.size, 0, none⟩) 0 0) 0 [] rfl (own_empty HGA.out) ⟨w1.heap.size + 1 + 1 + 1, 0, none⟩ 2 2 [.int .u32 1090519040, .int .u32 16777216] rfl rfl HcA.out (by simp [Value.oneCell']) (by decide) (by decide) (by decide) (Nat.le_trans HGA.out.size (by simp)) _ rfl ?_; intro ga capa wB hown hgrow hat hlt; have HOB := hid hown; have HGB := hid (grown_own (grown_alloc HGA.out _) (own_empty HGA.out) hgrow); clear hown hgrow hat hlt)
    | (obtain ⟨vz, wz, hr, ho, hgz⟩ := run_zeros_own HOB.out (k := 18) (by decide) (by decide) HGB.out.size 24; refine Go.Lib.wpList_append_run _ rfl _ _ _ _ rfl _ _ rfl rfl _ _ hr ?_; have HZ := hid (cb_of (l := [1090519040, 16777216] ++ List.replicate 18 0) (grown_own HGB.out HOB.out hgz) ho rfl rfl); clear hr ho hgz)
    | (refine cb_append HZ.out rfl _ _ rfl rfl [722010112, 587792384, 536870912] 3 rfl (by decide) rfl rfl (by decide) ?_; intro vc wc hC; have HC2 : Hid (CB2 W vc (codeT 3) _ [] wc) := hid hC; clear hC)
    | fail)
  refine (memory8_any 24 (by decide) (by decide) (.slice none 0 0) vc [] (codeT 3) _ (sl_nil _) HC2.out.sl (by decide) (by decide)).mono ?_; rintro e x3 ⟨m, b, m', b', rfl, hm, hb, hb', hM, hR, hg⟩
  have HM := hid hM
  have HG3 := hid (HC2.out.keep hg).hg
  clear hM hR hm hb hb' hg HC2 HZ HOB HGB HcA HGA
  go_upto_region 13 with fail
  go_upto_region 14 with (first
    | (refine wpList_build_pc rfl _ rfl rfl ?_)
    | (refine wpList_store_cpu_new (z := zeroP) rfl _ _ rfl rfl rfl rfl rfl ?_)
    | fail)
  have HG4 := hid (World.grownBy_alloc x3 (.cells (cpuC (pcP 2048 0)) 39) (some x3.heap.size))
  have HCp : Hid (CpuAt (x3.alloc (.cells (cpuC (pcP 2048 0)) 39)) x3.heap.size (pcP 2048 0)) := hid (CpuAt.new x3 rfl)
  have hcs : W.heap.size ≤ x3.heap.size := HG3.out.size
  generalize hx4 : x3.alloc (.cells (cpuC (pcP 2048 0)) 39) = x4 at HG4 HCp ⊢
  clear hx4
  obtain ⟨cB, hcB⟩ : ∃ cB, x3.heap.size = cB := ⟨_, rfl⟩
  rw [hcB] at HG4 HCp hcs ⊢
  have hcB2 : x3.heap.size ≤ cB := by omega
  have Hcs := hid hcs
  clear hcs
  have HCf := HCp
  have HGf := hid (grown_new HG4.out hcB2)
  go_wp2_with (first
    | (refine wpList_load_cpu rfl _ rfl rfl HCf.out ?_)
    | fail)
  refine (mb_new (W := W) (HM.out.kept0 HGf.out) (grown_trans HG3.out HGf.out) (c := pcP 2048 0) (pcP_ok (pc := 2048) (tv := 0) (by decide) (by decide) (by decide) (by decide)) HU.out (q := 24) (by decide) (by decide)).mono ?_; rintro e x7 ⟨pb, rfl, hB⟩
  rw [show initM (memW8 24 [] (codeT 3)) (pcP 2048 0) = M0 from HM0.out] at hB
  have HB := hid hB
  clear hB HM HU HG3 HG4 HCp HCf HGf
  go_wp2_with fail
  refine (mb_press HB.out 5 (by decide) (by decide) true (by rw [HQ0.out]; decide)).mono ?_; rintro e x77 ⟨rfl, hB, _⟩
  rw [← H01.out] at hB
  replace HB := hid hB
  clear hB
  go_wp2
  go_loopw [13] (fun i wr => ∃ k : Nat, k ≤ 12 ∧ i = .int .i64 k ∧ Hid (MBox W pb (24 + 16) 24 (iterP (24 + 16) 24 k M1) wr)) (fun i _ => 12 - (intOf i).toNat)
  case atStart => exact ⟨0, Nat.zero_le _, rfl, HB⟩
  case round =>
    clear HB
    obtain ⟨k, hk, rfl, HB⟩ := hrel
    have hk0 : (0 : Int) ≤ (k : Int) := by omega
    have hnk : (iterP (24 + 16) 24 k M1).now ≤ 1000 := by have h1 := iter_now (n := 24 + 16) (Q := 24) k M1; have h2 := Hn0.out; omega
    have Hnk := hid hnk
    clear hnk
    by_cases hlt : k < 12
    · have hk1 : (k : Int) < 12 := by omega
      go_wp2_with fail
      refine (mb_step HB.out (by have := Hnk.out; omega) _ rfl _ (iter_snoc (24 + 16) 24 k M1).symm).mono ?_; rintro e x8 ⟨rfl, hB, hO⟩
      have HB6 := hid hB
      clear hB hO HB
      go_wp2
      go_roundw
      case rel => exact ⟨k + 1, by omega, by go_num, HB6⟩
      case measure => simp [intOf]; omega
    · have hge : ¬ (k : Int) < 12 := by omega
      have ek : k = 12 := by omega
      subst ek
      rw [HMF.out] at HB
      clear hlt Hnk
      go_wp2_with fail
      refine (mb_over HB.out true HF1.out).mono ?_; rintro e x9 ⟨rfl, rfl⟩
      go_wp2_with fail
      refine (mb_seen (HB.out.keep (World.grownBy_alloc _ _ none)) (by rw [HF2.out]; decide) _ HF2.out).mono ?_; rintro e x10 ⟨v1, rfl, hA, hg⟩
      have HA : Hid (SnAt x10 v1 [(4, 3, 0)]) := hid (SnAt.own hA)
      have HB7 := hid ((HB.out.keep (World.grownBy_alloc _ _ none)).keep hg)
      clear hA hg HB
      obtain ⟨bs, cs, rfl, hbs, hcs⟩ : ∃ bs cs, v1 = .slice (some ⟨bs, 0, none⟩) 1 cs ∧ bs < x10.heap.size ∧ ∀ j u, (snCells [(4, 3, 0)])[j]? = some u → x10.cell? ⟨bs, j, none⟩ = some u := by
        rcases HA.out with ⟨_, h0⟩ | ⟨b, c, h1, h2, h3⟩
        · cases h0
        · exact ⟨b, c, h1, h2, h3⟩
      have d0 := hcs 0 _ rfl
      have d1 := hcs 1 _ rfl
      clear HA hcs hbs
      go_wp2
      go_ret
      exact ⟨rfl, grown_below HB7.out.old⟩
set_option maxRecDepth 100000 in
set_option maxHeartbeats 4000000 in
theorem traps_walk3y (kk : Int) (W : World) (n0 : -9223372036854775808 ≤ kk) (n1 : kk ≤ 9223372036854775807) (hK : ((numB kk 4 : Nat) : Int) = 3) :
    Calls Tryz.prog 7 #[.int .i64 kk, .bool true] W fun e w' => e = .returned (.bool true) ∧ Below W.heap.size W w' := by
  have Hz := zero_cpu
  have HK := hid hK
  clear hK
  obtain ⟨i, hi, hz0, hz1, hz2⟩ := u32_info
  have Hi := hid hi
  have Hz0 := hid hz0
  have Hz1 := hid hz1
  have Hz2 := hid hz2
  clear hi hz0 hz1 hz2
  obtain ⟨M0, hM0⟩ : ∃ M0, startT 3 true = M0 := ⟨_, rfl⟩
  obtain ⟨M1, hM1⟩ : ∃ M1, machT 3 true = M1 := ⟨_, rfl⟩
  obtain ⟨MF, hMF⟩ : ∃ MF, iterP (24 + 16) 24 12 M1 = MF := ⟨_, rfl⟩
  obtain ⟨hF1, hF2⟩ := t3y
  rw [hM1, hMF] at hF1 hF2
  have HM0 := hid hM0
  have HM1 := hid hM1
  have HMF := hid hMF
  have HF1 := hid hF1
  have HF2 := hid hF2
  have Hn0 : Hid (M1.now = 0) := hid (by rw [← hM1]; rfl)
  have HQ0 : Hid (M0.d.Q = []) := hid (by rw [← hM0]; rfl)
  have H01 : Hid (M1 = pressM M0 5) := hid (by rw [← hM1, ← hM0]; rfl)
  have HU := hid (memW8_u32 24 (data := []) (code := codeT 3) (fun x hx => by cases hx) (show ∀ x ∈ codeT 3, 0 ≤ x ∧ x < 4294967296 by decide))
  clear hF1 hF2 hMF hM0 hM1
  go_enter Tryz.func7, Tryz.ntmps7
  go_wp2_with fail
  refine (first8_any _).mono ?_; rintro e w1 ⟨rfl, hg⟩
  have HG1 := hid hg
  clear hg
  go_wp2_with fail
  refine (number_any kk 4 (by decide) (by decide) n0 n1 _).mono ?_; rintro e w2 ⟨rfl, rfl⟩
  rw [HK.out]
  go_upto_region 8 with fail
  obtain ⟨wA, hA⟩ : ∃ wA, (((((w1.alloc (.cells #[.int .u32 201392128, .int .u32 0] 25)).alloc (.cells #[.int .u32 0] 25)).alloc (.cells #[.int .u32 234946560, .int .u32 1, .int .u32 654376960, .int .u32 1090519040, .int .u32 16777216] 25)).alloc (.cells #[.int .u32 1090519040, .int .u32 16777216] 25)).alloc (.cells #[.slice (some ⟨w1.heap.size, 0, none⟩) 2 2, .slice (some ⟨w1.heap.size + 1, 0, none⟩) 1 1, .slice (some ⟨w1.heap.size + 1 + 1, 0, none⟩) 5 5, .slice (some ⟨w1.heap.size + 1 + 1 + 1, 0, none⟩) 2 2] 24)) = wA := ⟨_, rfl⟩
  have HGA : Hid (W.grownBy wA none) := hid (by rw [← hA]; exact grown_alloc (grown_alloc (grown_alloc (grown_alloc (grown_alloc HG1.out _) _) _) _) _)
  have hgl : w1.heap.size + 1 + 1 + 1 < wA.heap.size := by rw [← hA]; simp
  have hcA : ∀ j u, ([.int .u32 1090519040, .int .u32 16777216] : List Value)[j]? = some u → wA.cell? ((⟨w1.heap.size + 1 + 1 + 1, 0, none⟩ : Addr).add j) = some u := by
    rw [← hA]
    have e := heap_alloc_last (((w1.alloc (.cells #[.int .u32 201392128, .int .u32 0] 25)).alloc (.cells #[.int .u32 0] 25)).alloc (.cells #[.int .u32 234946560, .int .u32 1, .int .u32 654376960, .int .u32 1090519040, .int .u32 16777216] 25)) (.cells #[.int .u32 1090519040, .int .u32 16777216] 25)
    rw [show (((w1.alloc (.cells #[.int .u32 201392128, .int .u32 0] 25)).alloc (.cells #[.int .u32 0] 25)).alloc (.cells #[.int .u32 234946560, .int .u32 1, .int .u32 654376960, .int .u32 1090519040, .int .u32 16777216] 25)).heap.size = w1.heap.size + 1 + 1 + 1 by simp] at e
    exact World.news_of_block (cs := #[.int .u32 1090519040, .int .u32 16777216]) (t := 25) (fr := (0, 0)) ((heap_alloc_old _ _ (by simp <;> omega)).trans (e))
  have HcA : Hid (∀ j u, ([.int .u32 1090519040, .int .u32 16777216] : List Value)[j]? = some u → (wA.alloc (.cells #[] 25)).cell? ((⟨w1.heap.size + 1 + 1 + 1, 0, none⟩ : Addr).add j) = some u) := hid (fun j u hu => (World.cell?_alloc_lt wA _ _ (by rw [Addr.add_lit]; exact hgl)).trans (hcA j u hu))
  rw [hA]
  clear hA hcA hgl HG1
  go_wp2_with (first
    | (refine wpList_append_lies _ rfl _ _ 24 rfl W.heap.size 25 i _ 1 4 Tryz.underlying24 Hi.out Hz0.out Hz1.out Hz2.out rfl (by decide) (.slice (some ⟨wA.heap.size, 0, none⟩) 0 0) 0 [] rfl (own_empty HGA.out) ⟨w1.heap.size + 1 + 1 + 1, 0, none⟩ 2 2 [.int .u32 1090519040, .int .u32 16777216] rfl rfl HcA.out (by simp [Value.oneCell']) (by decide) (by decide) (by decide) (Nat.le_trans HGA.out.size (by simp)) _ rfl ?_; intro ga capa wB hown hgrow hat hlt; have HOB := hid hown; have HGB := hid (grown_own (grown_alloc HGA.out _) (own_empty HGA.out) hgrow); clear hown hgrow hat hlt)
    | (obtain ⟨vz, wz, hr, ho, hgz⟩ := run_zeros_own HOB.out (k := 18) (by decide) (by decide) HGB.out.size 24; refine Go.Lib.wpList_append_run _ rfl _ _ _ _ rfl _ _ rfl rfl _ _ hr ?_; have HZ := hid (cb_of (l := [1090519040, 16777216] ++ List.replicate 18 0) (grown_own HGB.out HOB.out hgz) ho rfl rfl); clear hr ho hgz)
    | (refine cb_append HZ.out rfl _ _ rfl rfl [722010112, 587792384, 536870912] 3 rfl (by decide) rfl rfl (by decide) ?_; intro vc wc hC; have HC2 : Hid (CB2 W vc (codeT 3) _ [] wc) := hid hC; clear hC)
    | fail)
  refine (memory8_any 24 (by decide) (by decide) (.slice none 0 0) vc [] (codeT 3) _ (sl_nil _) HC2.out.sl (by decide) (by decide)).mono ?_; rintro e x3 ⟨m, b, m', b', rfl, hm, hb, hb', hM, hR, hg⟩
  have HM := hid hM
  have HG3 := hid (HC2.out.keep hg).hg
  clear hM hR hm hb hb' hg HC2 HZ HOB HGB HcA HGA
  go_upto_region 13 with fail
  go_upto_region 14 with (first
    | (refine wpList_build_pc rfl _ rfl rfl ?_)
    | (refine wpList_store_cpu_new (z := zeroP) rfl _ _ rfl rfl rfl rfl rfl ?_)
    | fail)
  have HG4 := hid (World.grownBy_alloc x3 (.cells (cpuC (pcP 2048 0)) 39) (some x3.heap.size))
  have HCp : Hid (CpuAt (x3.alloc (.cells (cpuC (pcP 2048 0)) 39)) x3.heap.size (pcP 2048 0)) := hid (CpuAt.new x3 rfl)
  have hcs : W.heap.size ≤ x3.heap.size := HG3.out.size
  generalize hx4 : x3.alloc (.cells (cpuC (pcP 2048 0)) 39) = x4 at HG4 HCp ⊢
  clear hx4
  obtain ⟨cB, hcB⟩ : ∃ cB, x3.heap.size = cB := ⟨_, rfl⟩
  rw [hcB] at HG4 HCp hcs ⊢
  have hcB2 : x3.heap.size ≤ cB := by omega
  have Hcs := hid hcs
  clear hcs
  have hct := HCp.out.tv
  have hft := HCp.out.free 20
  go_upto_region 16 with fail
  have HCf : Hid (CpuAt (x4.setCell ⟨cB, 20, none⟩ (.int .u32 2068)) cB (pcP 2048 2068)) := hid (HCp.out.sTv 2068)
  have HGf : Hid (x3.grownBy (x4.setCell ⟨cB, 20, none⟩ (.int .u32 2068)) none) := hid (grown_new (grown_setCell HG4.out 20 _) hcB2)
  clear hct hft
  go_wp2_with (first
    | (refine wpList_load_cpu rfl _ rfl rfl HCf.out ?_)
    | fail)
  refine (mb_new (W := W) (HM.out.kept0 HGf.out) (grown_trans HG3.out HGf.out) (c := pcP 2048 2068) (pcP_ok (pc := 2048) (tv := 2068) (by decide) (by decide) (by decide) (by decide)) HU.out (q := 24) (by decide) (by decide)).mono ?_; rintro e x7 ⟨pb, rfl, hB⟩
  rw [show initM (memW8 24 [] (codeT 3)) (pcP 2048 2068) = M0 from HM0.out] at hB
  have HB := hid hB
  clear hB HM HU HG3 HG4 HCp HCf HGf
  go_wp2_with fail
  refine (mb_press HB.out 5 (by decide) (by decide) true (by rw [HQ0.out]; decide)).mono ?_; rintro e x77 ⟨rfl, hB, _⟩
  rw [← H01.out] at hB
  replace HB := hid hB
  clear hB
  go_wp2
  go_loopw [13] (fun i wr => ∃ k : Nat, k ≤ 12 ∧ i = .int .i64 k ∧ Hid (MBox W pb (24 + 16) 24 (iterP (24 + 16) 24 k M1) wr)) (fun i _ => 12 - (intOf i).toNat)
  case atStart => exact ⟨0, Nat.zero_le _, rfl, HB⟩
  case round =>
    clear HB
    obtain ⟨k, hk, rfl, HB⟩ := hrel
    have hk0 : (0 : Int) ≤ (k : Int) := by omega
    have hnk : (iterP (24 + 16) 24 k M1).now ≤ 1000 := by have h1 := iter_now (n := 24 + 16) (Q := 24) k M1; have h2 := Hn0.out; omega
    have Hnk := hid hnk
    clear hnk
    by_cases hlt : k < 12
    · have hk1 : (k : Int) < 12 := by omega
      go_wp2_with fail
      refine (mb_step HB.out (by have := Hnk.out; omega) _ rfl _ (iter_snoc (24 + 16) 24 k M1).symm).mono ?_; rintro e x8 ⟨rfl, hB, hO⟩
      have HB6 := hid hB
      clear hB hO HB
      go_wp2
      go_roundw
      case rel => exact ⟨k + 1, by omega, by go_num, HB6⟩
      case measure => simp [intOf]; omega
    · have hge : ¬ (k : Int) < 12 := by omega
      have ek : k = 12 := by omega
      subst ek
      rw [HMF.out] at HB
      clear hlt Hnk
      go_wp2_with fail
      refine (mb_over HB.out true HF1.out).mono ?_; rintro e x9 ⟨rfl, rfl⟩
      go_wp2_with fail
      refine (mb_seen (HB.out.keep (World.grownBy_alloc _ _ none)) (by rw [HF2.out]; decide) _ HF2.out).mono ?_; rintro e x10 ⟨v1, rfl, hA, hg⟩
      have HA : Hid (SnAt x10 v1 [(1, 0, 3), (3, 0, 0)]) := hid (SnAt.own hA)
      have HB7 := hid ((HB.out.keep (World.grownBy_alloc _ _ none)).keep hg)
      clear hA hg HB
      obtain ⟨bs, cs, rfl, hbs, hcs⟩ : ∃ bs cs, v1 = .slice (some ⟨bs, 0, none⟩) 2 cs ∧ bs < x10.heap.size ∧ ∀ j u, (snCells [(1, 0, 3), (3, 0, 0)])[j]? = some u → x10.cell? ⟨bs, j, none⟩ = some u := by
        rcases HA.out with ⟨_, h0⟩ | ⟨b, c, h1, h2, h3⟩
        · cases h0
        · exact ⟨b, c, h1, h2, h3⟩
      have d0 := hcs 0 _ rfl
      have d2 := hcs 2 _ rfl
      have d3 := hcs 3 _ rfl
      clear HA hcs hbs
      go_wp2
      go_ret
      exact ⟨rfl, grown_below HB7.out.old⟩
end Go.Proofs.YtkkbhifplbleiaaGreatDoor
