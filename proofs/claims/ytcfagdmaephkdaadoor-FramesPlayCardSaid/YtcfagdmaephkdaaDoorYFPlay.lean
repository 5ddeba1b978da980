/- The walk of the law FramesPlay. -/
import Derived.Test.YtcfagdmaephkdaaDoorYFr9
import Derived.BigQuiet
import Derived.Test.YtcfagdmaephkdaaDoorYFr4
import Derived.Test.YtcfagdmaephkdaaDoorYBase
import Derived.WalkKit
import Derived.WalkSpells
import Derived.WalkLawsBesides
import Derived.Handy
import Derived.RegionTactic
import Derived.Deep.QuietTactic
import Derived.Deep.WholeRow
import Derived.Deep.Draws
import Derived.IntWalk
import Derived.Outline
import Derived.Laws.AppendOwn
import Derived.Carry
import Derived.ChangeSlices
import Derived.WideKeyArgs
import Derived.Lib.SmallJoins
import Derived.OpenShut
import Derived.Deep.AppendLies
import Derived.Laws.BitsLemmas
import Derived.LoopTactic
import Derived.StillTailTactics
import Derived.Deep.Cut
namespace Go.Proofs.YtcfagdmaephkdaaDoor
open Go.RowKit
set_option maxRecDepth 100000 in
set_option maxHeartbeats 16000000 in
theorem play_walk (n : Int) (p : Option Addr) (c0 N : Nat) (ds : List FDo) (who : Int) (w : World) (A : Nat → Addr) (hs : Sents w A) (_ : -9223372036854775808 ≤ n) (_ : n ≤ 9223372036854775807) (hd : FDosAt w p N ds) (hN : N ≤ maxLen) (_ : -9223372036854775808 ≤ who) (_ : who ≤ 9223372036854775807) :
    Calls Tryd.prog 3 #[.int .i64 n, .slice p N c0, .int .i64 who] w fun e w' => e = .returned (.bool true) ∧ Below w.heap.size w w' := by
  have HS := hid hs
  have HDo := hid hd
  clear hs hd
  have Nn0 : (0 : Int) ≤ (N : Int) := by omega
  unfold maxLen at hN
  have Nn1 : (N : Int) ≤ 9223372036854775807 := by omega
  by_cases hr : n < 1 ∨ 1024 < n
  · have Hr := hid hr
    have hno : ∀ w1, w.grownBy w1 none → Calls Tryd.prog 8 #[.int .i64 n] w1 fun e w' => e = .returned (.tuple #[.pointer none, errV (A 2)]) ∧ w1.grownBy w' none := fun w1 hg => new_noF (HS.out.kept0 hg) n Hr.out
    have Hno := hid hno
    clear hno
    have fin : ∀ (b1 : Bool) (b2 : Bool), decide (n < 1) = b1 → (b1 = false → decide (n > 1024) = true) → Calls Tryd.prog 3 #[.int .i64 n, .slice p N c0, .int .i64 who] w fun e w' => e = .returned (.bool true) ∧ Below w.heap.size w w' := by
      intro b1 b2 h1 h2
      clear hr
      cases b1 with
      | true =>
        clear h2
        go_enter Tryd.func3, Tryd.ntmps3
        go_wp2_with fail
        refine (first16_any HS.out).mono ?_; rintro e w1 ⟨rfl, hg⟩
        have HG1 := hid hg; clear hg
        go_wp2_with fail
        refine (Hno.out w1 HG1.out).mono ?_; rintro e w2 ⟨rfl, hg⟩
        have HG2 := hid (grown_trans HG1.out hg); clear hg
        go_wp2_with fail
        refine (is_sent (HS.out.kept0 HG2.out) 2 (by decide) 103 true rfl).mono ?_; rintro e w3 ⟨rfl, hg⟩
        have HG3 := hid (grown_trans HG2.out hg); clear hg
        go_wp2
        go_ret
        exact ⟨rfl, grown_below HG3.out⟩
      | false =>
        have h3 := h2 rfl
        clear h2
        go_enter Tryd.func3, Tryd.ntmps3
        go_wp2_with fail
        refine (first16_any HS.out).mono ?_; rintro e w1 ⟨rfl, hg⟩
        have HG1 := hid hg; clear hg
        go_wp2_with fail
        refine (Hno.out w1 HG1.out).mono ?_; rintro e w2 ⟨rfl, hg⟩
        have HG2 := hid (grown_trans HG1.out hg); clear hg
        go_wp2_with fail
        refine (is_sent (HS.out.kept0 HG2.out) 2 (by decide) 103 true rfl).mono ?_; rintro e w3 ⟨rfl, hg⟩
        have HG3 := hid (grown_trans HG2.out hg); clear hg
        go_wp2
        go_ret
        exact ⟨rfl, grown_below HG3.out⟩
    by_cases h1 : n < 1
    · exact fin true true (by simpa using h1) (fun h => by cases h)
    · exact fin false true (by simpa using h1) (fun _ => by simp; omega)
  · obtain ⟨G, rfl⟩ : ∃ G : Nat, n = G := ⟨n.toNat, by omega⟩
    have HG12 := hid (show 1 ≤ G ∧ G ≤ 1024 by omega)
    have g1 : ¬ (G : Int) < 1 := by omega
    have g2 : ¬ (G : Int) > 1024 := by omega
    have g0 : (0 : Int) ≤ (G : Int) := by omega
    clear hr
    go_enter Tryd.func3, Tryd.ntmps3
    go_wp2_with fail
    refine (first16_any HS.out).mono ?_; rintro e w1 ⟨rfl, hg⟩
    have HG1 := hid hg; clear hg
    go_wp2_with fail
    refine (new_fr G HG12.out.1 HG12.out.2 w1).mono ?_
    intro e w2 hN2
    obtain ⟨m, b, c, rfl, hF2⟩ := FQ.new HS.out HG1.out G hN2
    have HF2 := hid hF2
    clear hF2 hN2 HG1
    by_cases hG20 : (G : Int) > 20
    · go_wp2
      go_ret
      exact ⟨rfl, grown_below HF2.out.gr⟩
    by_cases hbig : (N : Int) > 80
    · go_wp2
      go_ret
      exact ⟨rfl, grown_below HF2.out.gr⟩
    have hN80 : (N : Int) ≤ 80 := by omega
    have HN80 := hid hN80
    have HG20 := hid (show G ≤ 20 by omega)
    go_wp2_with fail
    refine (rnew_rf G HG12.out.1 HG12.out.2 w2).mono ?_
    intro e w3 hM
    obtain ⟨mx, bx, cx, rfl, hD⟩ := DQ.new HF2.out HS.out hM
    have HD := hid hD
    clear hD hM HF2 hbig hN80 hG20 g1 g2
    go_wp2
    go_loopw [11] (fun i wr => ∃ k : Nat, k ≤ N ∧ i = .int .i64 k ∧ Hid (∃ L, DQ w A wr m b G c mx bx cx L L (k : Int))) (fun i _ => N - (intOf i).toNat)
    case atStart => exact ⟨0, Nat.zero_le _, rfl, hid ⟨_, HD.out⟩⟩
    case round =>
      obtain ⟨k, hk, rfl, HR⟩ := hrel
      obtain ⟨L, hR⟩ := HR.out
      have HR := hid hR
      clear hR HD
      by_cases hlt : k < N
      · obtain ⟨dd, hdd⟩ : ∃ dd, ds[k]? = some dd := ⟨_, List.getElem?_eq_getElem (by rw [HDo.out.len]; exact hlt)⟩
        have Hw := hid (HDo.out.wide dd (List.mem_of_getElem? hdd))
        have Hrg := hid (fun W => HDo.out.range (w := W) (hk := hdd))
        obtain ⟨bl, o, hp, _⟩ := HDo.out.range HR.out.fq.gr hdd
        subst hp
        have Hrg : Hid (∀ W : World, w.grownBy W none → W.rangeAt bl (o + k * 4) [.int .i64 dd.kind, .int .i64 dd.a, .int .i64 dd.b, .int .i64 dd.c]) := hid (fun W hg => by
          obtain ⟨bl', o', hp', h'⟩ := HDo.out.range hg hdd
          simp only [Option.some.injEq, Addr.mk.injEq, and_true] at hp'
          obtain ⟨rfl, rfl⟩ := hp'
          exact h')
        obtain ⟨kd, da, db, dc⟩ := dd
        have k0 : (0 : Int) ≤ (k : Int) := by omega
        have k1 : (k : Int) < (N : Int) := by omega
        have Hk := hid (show k < N ∧ (k : Int) < 1000 by have := HN80.out; omega)
        obtain ⟨wo, hwo⟩ : ∃ x, x = wr := ⟨_, rfl⟩
        clear hdd hlt
        go_wp2_with fail
        refine (clone_fr HR.out.fq.fr).mono ?_
        rintro e wc ⟨mo, bo, co, rfl, h1, h2, hC, hg⟩
        have HC := hid hC
        have HAp : Hid (mo ≠ b ∧ mo ≠ bx ∧ bo ≠ b ∧ bo ≠ bx) := hid (by have := HR.out.fq.fr.blt; have := HR.out.fd.blt; omega)
        have HR1 := hid (HR.out.kept0 hg)
        clear hC h1 h2 hg HR
        try simp only [id]
        go_wp2_with fail
        refine (of_fr HC.out (-1)).mono ?_
        rintro e wd ⟨v, rfl, ⟨pv, cv, rfl⟩, _, hg⟩
        have HC1 := hid (HC.out.kept0 hg)
        have HR2 := hid (HR1.out.kept0 hg)
        have Hrg2 := hid (Hrg.out wd HR2.out.fq.gr)
        clear hg HC HR1
        go_wp2_with (first
          | (refine wpList_load_mid rfl 37 _ rfl bl (o + k * 4) rfl _ _ Hrg2.out Tryd.underlying37 rfl fdo_info ?_)
          | fail)
        refine (does_any HR2.out HS.out Hk.out.2 kd da db dc Hw.out.1).mono ?_
        rintro e w4 ⟨rfl, hD, hT⟩
        obtain ⟨L', hL'⟩ : ∃ L', doL L kd da db dc = L' := ⟨_, rfl⟩
        rw [hL'] at hD
        have HD2 : Hid (DQ w A w4 m b G c mx bx cx L' L' ((k + 1 : Nat) : Int)) := hid hD
        have HC2 := hid (HC1.out.two hT HAp.out.1 HAp.out.2.1 HAp.out.2.2.1 HAp.out.2.2.2)
        clear hD HR2 hL' hwo Hrg2 Hrg hT HC1
        go_wp2_with fail
        refine (of_fr HC2.out (-1)).mono ?_
        rintro e w5 ⟨v, rfl, ⟨pv2, cv2, rfl⟩, _, hg⟩
        have HD3 := hid (HD2.out.kept0 hg)
        clear hg HD2 HC2 HAp
        go_wp2
        go_loopw [14] (fun i wr => ∃ v : Int, -1 ≤ v ∧ v ≤ (G : Int) + 1 ∧ i = .int .i64 v ∧ Hid (DQ w A wr m b G c mx bx cx L' L' ((k + 1 : Nat) : Int))) (fun i _ => ((G : Int) + 1 - intOf i).toNat)
        case atStart => exact ⟨-1, by omega, by omega, rfl, HD3⟩
        case round =>
          obtain ⟨v, hv0, hv1, rfl, HR⟩ := hrel
          clear HD3
          by_cases hlt : v ≤ (G : Int)
          · by_cases hin : 0 ≤ v ∧ v < (G : Int)
            · obtain ⟨j, rfl⟩ : ∃ j : Nat, v = j := ⟨v.toNat, by omega⟩
              obtain ⟨f, hf⟩ : ∃ f, L'[j]? = some f := ⟨_, List.getElem?_eq_getElem (by rw [HR.out.fq.fr.len]; omega)⟩
              have j0 : (0 : Int) ≤ (j : Int) := by omega
              have j1 : (j : Int) < (G : Int) := by omega
              have Hv := hid (show (j : Int) < (G : Int) from j1)
              obtain ⟨fo, ft, fw, fu⟩ := f
              have Hf := hid hf
              clear hf hin hv0 hv1
              go_wp2_with fail
              refine (get_q HR.out.fq _ j rfl ⟨fo, ft, fw, fu⟩ Hf.out).mono ?_
              rintro e w6 ⟨rfl, _, hg⟩
              have al := World.grownBy_alloc w6 (.cells #[.int .i64 fo, .int .i64 ft, .int .i64 fw, .int .i64 fu] 39) none
              have HR2 := hid ((HR.out.kept0 hg).kept0 al)
              have hm := HR2.out.fd.mcell
              have co := HR2.out.fd.cO Hf.out
              have ct := HR2.out.fd.cT Hf.out
              have cw := HR2.out.fd.cW Hf.out
              have cu := HR2.out.fd.cU Hf.out
              clear al hg HR
              go_wp2
              go_quiet (fail)
              go_wp2
              go_roundw
              case rel => exact ⟨(j : Int) + 1, by omega, by have := Hv.out; omega, by go_num, hid (HR2.out.kept0 (grown_drewN (grown_refl _ none) _))⟩
              case measure => simp [intOf]; have := Hv.out; omega
            · have hq : decide (0 ≤ v ∧ v < (G : Int)) = false := by simpa using hin
              have Hq := hid hq
              have Hv := hid (And.intro hv0 hlt)
              have hh : v = -1 ∨ v = (G : Int) := by omega
              clear hq hin hv0 hv1
              go_wp2_with fail
              refine (get_fr_no HR.out.fq.fr v Hq.out).mono ?_
              rintro e w6 ⟨rfl, hg⟩
              have al := World.grownBy_alloc w6 (.cells #[.int .i64 0, .int .i64 0, .int .i64 0, .int .i64 0] 39) none
              have HR2 := hid ((HR.out.kept0 hg).kept0 al)
              clear al hg HR
              rcases hh with rfl | rfl
              · go_wp2
                go_quiet (fail)
                go_wp2
                go_roundw
                case rel => exact ⟨0, by omega, by omega, by go_num, hid (HR2.out.kept0 (grown_drewN (grown_refl _ none) _))⟩
                case measure => (simp [intOf]) <;> omega
              · have z1 : ¬ (G : Int) < (G : Int) := by omega
                go_wp2
                go_quiet (fail)
                go_wp2
                go_roundw
                case rel => exact ⟨(G : Int) + 1, by omega, by omega, by go_num, hid (HR2.out.kept0 (grown_drewN (grown_refl _ none) _))⟩
                case measure => (simp [intOf]) <;> omega
          · have hvG : v = (G : Int) + 1 := by omega
            go_wp2
            go_roundw
            case rel => exact ⟨k + 1, Hk.out.1, by go_num, hid ⟨_, HR.out⟩⟩
            case measure => simp [intOf]; have := Hk.out; omega
      · obtain rfl : k = N := by omega
        have k1 : ¬ ((k : Int) < (k : Int)) := by omega
        go_wp2_with fail
        refine (of_q HR.out.fq who _ rfl).mono ?_
        rintro e w4 ⟨p1, q1, rfl, hs1, _, hg⟩
        have Hs1 := hid hs1
        have HR2 := hid (HR.out.kept0 hg)
        clear hs1 hg HR
        go_wp2_with fail
        refine (rof_rf HR2.out.fd who).mono ?_
        rintro e w5 ⟨v, rfl, ⟨p2, q2, rfl⟩, hs2, hg⟩
        have Hs2 := hid hs2
        have Hs3 := hid (Hs1.out.kept0 hg)
        have HR3 := hid (HR2.out.kept0 hg)
        have Hln : Hid ((ofF L who G).length ≤ 4611686018427387904) := hid (by have := ofF_length L who G; have := HG20.out; omega)
        clear hs2 hg HR2
        go_wp2_with fail
        refine (si_any Hs3.out Hs2.out Hln.out Hln.out true (by simp)).mono ?_
        rintro e w6 ⟨rfl, hg⟩
        have HG6 := hid (grown_trans HR3.out.fq.gr hg)
        clear hg
        go_wp2
        go_ret
        exact ⟨rfl, grown_below HG6.out⟩
end Go.Proofs.YtcfagdmaephkdaaDoor
namespace Go.Proofs.YtcfagdmaephkdaaDoor
open Go.RowKit
/-- n frames, of which the first is this one -/
def LT (n : Nat) (f : Fm) : List Fm := f :: List.replicate (n - 1) noFm
theorem LT_zero {n : Nat} (h : 1 ≤ n) : List.replicate n noFm = LT n noFm := by
  obtain ⟨k, rfl⟩ : ∃ k, n = k + 1 := ⟨n - 1, by omega⟩
  rfl
theorem LT_at {n : Nat} {f : Fm} (h : f.o ≠ -1) : atF (LT n f) 0 = some f := by
  have := atF_of (L := LT n f) (k := 0) (f := f) rfl h
  simpa using this
theorem LT_none (n : Nat) : atF (LT n noFm) 0 = none := by rfl
section
variable {n : Nat} {W t x y : Int}
theorem t_alloc (h0 : 0 ≤ W) (h1 : W < 8) : allocF (LT n noFm) W = (none, 0, LT n ⟨W, 0, 0, 0⟩) := by
  have hx : freeIx (LT n noFm) = some 0 := freeIx_found (f := noFm) rfl rfl (fun j g hj _ => absurd hj (Nat.not_lt_zero _))
  have hm : mayB W = true := by unfold mayB; simp; omega
  unfold allocF
  rw [if_neg (by rw [hm]; decide), hx]
  rfl
theorem t_write (h : 0 ≤ W) {x' : Int} (hx : x' = x + 1) : writeF (LT n ⟨W, 0, x, y⟩) 0 = (none, LT n ⟨W, 0, x', y⟩) := by
  unfold writeF; rw [LT_at (by simp only; omega), hx]; simp [LT]
theorem t_write_no (h : 0 ≤ W) (ht : t ≠ 0) : writeF (LT n ⟨W, t, x, y⟩) 0 = (some 10, LT n ⟨W, t, x, y⟩) := by
  unfold writeF; rw [LT_at (by simp only; omega)]; simp [ht]
theorem t_use (h : 0 ≤ W) {y' : Int} (hy : y' = y + 1) : useF (LT n ⟨W, t, x, y⟩) 0 = (none, LT n ⟨W, t, x, y'⟩) := by
  unfold useF; rw [LT_at (by simp only; omega), hy]; simp [LT]
theorem t_unwrite (h : 0 ≤ W) {x' : Int} (h0 : x ≠ 0) (hx : x' = x - 1) : unwriteF (LT n ⟨W, t, x, y⟩) 0 = (none, LT n ⟨W, t, x', y⟩) := by
  unfold unwriteF; rw [LT_at (by simp only; omega), hx]; simp [LT, h0]
theorem t_unwrite_no (h : 0 ≤ W) (h0 : x = 0) : unwriteF (LT n ⟨W, t, x, y⟩) 0 = (some 11, LT n ⟨W, t, x, y⟩) := by
  unfold unwriteF; rw [LT_at (by simp only; omega)]; simp [h0]
theorem t_unuse (h : 0 ≤ W) {y' : Int} (h0 : y ≠ 0) (hy : y' = y - 1) : unuseF (LT n ⟨W, t, x, y⟩) 0 = (none, LT n ⟨W, t, x, y'⟩) := by
  unfold unuseF; rw [LT_at (by simp only; omega), hy]; simp [LT, h0]
theorem t_unuse_no (h : 0 ≤ W) (h0 : y = 0) : unuseF (LT n ⟨W, t, x, y⟩) 0 = (some 11, LT n ⟨W, t, x, y⟩) := by
  unfold unuseF; rw [LT_at (by simp only; omega)]; simp [h0]
theorem t_make_busy {kd : Int} (h : 0 ≤ W) (hk : kd = 1 ∨ kd = 2) (hb : 0 < x ∨ 0 < y) : makeF (LT n ⟨W, 0, x, y⟩) 0 W kd = (some 11, LT n ⟨W, 0, x, y⟩) := by
  unfold makeF; rw [if_neg (by omega), LT_at (by simp only; omega)]; simp [bsy, hb]
theorem t_make_other {kd W' : Int} (h : 0 ≤ W) (hk : kd = 1 ∨ kd = 2) (hw : W ≠ W') : makeF (LT n ⟨W, t, x, y⟩) 0 W' kd = (some 9, LT n ⟨W, t, x, y⟩) := by
  unfold makeF; rw [if_neg (by omega), LT_at (by simp only; omega)]; simp [hw]
theorem t_make {kd : Int} (h : 0 ≤ W) (hk : kd = 1 ∨ kd = 2) : makeF (LT n ⟨W, 0, 0, 0⟩) 0 W kd = (none, LT n ⟨W, kd, 0, 0⟩) := by
  unfold makeF; rw [if_neg (by omega), LT_at (by simp only; omega)]; simp [bsy, LT]
theorem t_make_no {kd : Int} (h : 0 ≤ W) (hk : kd = 1 ∨ kd = 2) (ht : t ≠ 0) : makeF (LT n ⟨W, t, x, y⟩) 0 W kd = (some 10, LT n ⟨W, t, x, y⟩) := by
  unfold makeF; rw [if_neg (by omega), LT_at (by simp only; omega)]; simp [ht]
theorem t_plain_busy (h : 0 ≤ W) (ht : t ≠ 0) (hy : 0 < y) : plainF (LT n ⟨W, t, x, y⟩) 0 W = (some 11, LT n ⟨W, t, x, y⟩) := by
  unfold plainF; rw [LT_at (by simp only; omega)]; simp [ht, hy]
theorem t_plain (h : 0 ≤ W) (ht : t ≠ 0) : plainF (LT n ⟨W, t, 0, 0⟩) 0 W = (none, LT n ⟨W, 0, 0, 0⟩) := by
  unfold plainF; rw [LT_at (by simp only; omega)]; simp [ht, LT]
theorem t_free_busy (h : 0 ≤ W) (hb : 0 < x ∨ 0 < y) : freeF (LT n ⟨W, t, x, y⟩) 0 W = (some 11, LT n ⟨W, t, x, y⟩) := by
  unfold freeF; rw [LT_at (by simp only; omega)]; simp [bsy, hb]
theorem t_free (h : 0 ≤ W) (hx : x = 0) (hy : y = 0) : freeF (LT n ⟨W, t, x, y⟩) 0 W = (none, LT n noFm) := by
  unfold freeF; rw [LT_at (by simp only; omega)]; simp [bsy, LT, hx, hy]
theorem t_free_no : freeF (LT n noFm) 0 W = (some 6, LT n noFm) := by
  unfold freeF; rw [LT_none]
theorem t_end (h : 0 ≤ W) : ∀ k, k ≤ (LT n noFm).length → ofF (LT n noFm) W k = []
  | 0, _ => rfl
  | k + 1, hk => by
    have hg : (LT n noFm)[k]? = some noFm := by
      have := List.getElem?_eq_getElem (show k < (LT n noFm).length by omega)
      rw [this]
      have hm : (LT n noFm)[k] ∈ LT n noFm := List.getElem_mem _
      simp only [LT, List.mem_cons, List.mem_replicate] at hm
      rcases hm with h | h
      · exact congrArg some h
      · exact congrArg some h.2
    rw [ofF_no hg (by simp only [noFm]; omega), t_end h k (by omega)]
end
set_option maxRecDepth 100000 in
set_option maxHeartbeats 16000000 in
theorem turn_walk (n who kind writers uses : Int) (w : World) (A : Nat → Addr) (hs : Sents w A) (n0 : -9223372036854775808 ≤ n) (n1 : n ≤ 9223372036854775807) (a0 : -9223372036854775808 ≤ who) (a1 : who ≤ 9223372036854775807) (b0 : -9223372036854775808 ≤ kind) (b1 : kind ≤ 9223372036854775807) (c0 : -9223372036854775808 ≤ writers) (c1 : writers ≤ 9223372036854775807) (d0 : -9223372036854775808 ≤ uses) (d1 : uses ≤ 9223372036854775807) :
    Calls Tryd.prog 5 #[.int .i64 n, .int .i64 who, .int .i64 kind, .int .i64 writers, .int .i64 uses] w fun e w' => e = .returned (.bool true) ∧ Below w.heap.size w w' := by
  have HS := hid hs
  clear hs
  obtain ⟨F, HF, hF⟩ : ∃ F, Hid (numB n 10 = F) ∧ F < 10 := ⟨_, hid rfl, numB_lt _ (by omega)⟩
  obtain ⟨G, hG, hGe⟩ : ∃ G : Nat, (F : Int) + 1 = (G : Int) ∧ Hid (G = F + 1) := ⟨F + 1, by omega, hid rfl⟩
  obtain ⟨W, HW, hW⟩ : ∃ W, Hid (numB who 8 = W) ∧ W < 8 := ⟨_, hid rfl, numB_lt _ (by omega)⟩
  obtain ⟨W1, hW1, HW1⟩ : ∃ W1 : Nat, (W : Int) + 1 = (W1 : Int) ∧ Hid (W1 = W + 1) := ⟨W + 1, by omega, hid rfl⟩
  obtain ⟨D, HD, hD⟩ : ∃ D, Hid (numB kind 2 = D) ∧ D < 2 := ⟨_, hid rfl, numB_lt _ (by omega)⟩
  obtain ⟨D1, hD1, HD1⟩ : ∃ D1 : Nat, (D : Int) + 1 = (D1 : Int) ∧ Hid (((D1 : Int) = 1 ∨ (D1 : Int) = 2) ∧ (D1 : Int) ≠ 0) := ⟨D + 1, by omega, hid (by omega)⟩
  obtain ⟨X, HX, hX⟩ : ∃ X, Hid (numB writers 4 = X) ∧ X < 4 := ⟨_, hid rfl, numB_lt _ (by omega)⟩
  obtain ⟨Y, HY, hY⟩ : ∃ Y, Hid (numB uses 4 = Y) ∧ Y < 4 := ⟨_, hid rfl, numB_lt _ (by omega)⟩
  obtain ⟨S, hS, HSe⟩ : ∃ S : Nat, (X : Int) + (Y : Int) = (S : Int) ∧ Hid (S = X + Y) := ⟨X + Y, by omega, hid rfl⟩
  have hG1 : 1 ≤ G := by have := hGe.out; omega
  have hG2 : G ≤ 10 := by have := hGe.out; omega
  have HG12 := hid (And.intro hG1 hG2)
  have g0 : (0 : Int) ≤ (G : Int) := by omega
  have w0 : (0 : Int) ≤ (W : Int) := by omega
  have HWb : Hid ((0 : Int) ≤ (W : Int) ∧ (W : Int) < 8 ∧ (W : Int) ≠ (W1 : Int)) := hid (by have := HW1.out; omega)
  have HXY := hid (And.intro hX hY)
  go_enter Tryd.func5, Tryd.ntmps5
  go_wp2_with fail
  refine (first16_any HS.out).mono ?_; rintro e w1 ⟨rfl, hg⟩
  have HG1 := hid hg; clear hg
  go_wp2_with fail
  refine (number_of n 10 10 F rfl HF.out (by omega) (by omega) n0 n1).mono ?_; rintro e w' ⟨rfl, rfl⟩
  go_wp2_with fail
  refine (number_of who 8 8 W rfl HW.out (by omega) (by omega) a0 a1).mono ?_; rintro e w' ⟨rfl, rfl⟩
  go_wp2_with fail
  refine (number_of kind 2 2 D rfl HD.out (by omega) (by omega) b0 b1).mono ?_; rintro e w' ⟨rfl, rfl⟩
  go_wp2_with fail
  refine (number_of writers 4 4 X rfl HX.out (by omega) (by omega) c0 c1).mono ?_; rintro e w' ⟨rfl, rfl⟩
  go_wp2_with fail
  refine (number_of uses 4 4 Y rfl HY.out (by omega) (by omega) d0 d1).mono ?_; rintro e w' ⟨rfl, rfl⟩
  go_wp2_with fail
  refine (new_fr G hG1 (by omega) w1).mono ?_
  intro e w2 hN
  obtain ⟨m, b, c, rfl, hF2⟩ := FQ.new HS.out HG1.out G hN
  rw [LT_zero HG12.out.1] at hF2
  have HQ0 := hid hF2
  clear hF2 hN HG1
  go_wp2_with fail
  refine (alloc_q HQ0.out HS.out _ 0 _ (t_alloc HWb.out.1 HWb.out.2.1)).mono ?_
  rintro e wq1 ⟨rfl, hQ⟩
  have HQ1 := hid hQ
  clear hQ HQ0
  go_wp2
  have HQa : Hid (FQ w A wq1 m b G c (LT G ⟨W, 0, ((0 : Nat) : Int), 0⟩) ((0 : Nat) : Int)) := HQ1
  clear HQ1
  go_loopw [16] (fun i wr => ∃ k : Nat, k ≤ X ∧ i = .int .i64 k ∧ Hid (FQ w A wr m b G c (LT G ⟨W, 0, (k : Int), 0⟩) (k : Int))) (fun i _ => X - (intOf i).toNat)
  case atStart => exact ⟨0, Nat.zero_le _, rfl, HQa⟩
  case round =>
    clear HQa
    obtain ⟨k, hk, rfl, HR⟩ := hrel
    by_cases hlt : k < X
    · have k0 : (0 : Int) ≤ (k : Int) := by omega
      have k1 : (k : Int) < (X : Int) := by omega
      have Hk4 := hid (show (k : Int) < 1000 by omega)
      go_wp2_with fail
      refine (write_q HR.out HS.out Hk4.out 0 _ (t_write (x' := ((k + 1 : Nat) : Int)) HWb.out.1 rfl)).mono ?_
      rintro e w3 ⟨rfl, hQ⟩
      have HR2 := hid hQ
      clear hQ HR
      go_wp2
      go_roundw
      case rel => exact ⟨k + 1, by omega, by go_num, HR2⟩
      case measure => simp [intOf]; omega
    · obtain rfl : k = X := by omega
      have k1 : ¬ ((k : Int) < (k : Int)) := by omega
      go_wp2
      clear k1 hlt hk
      have HQb := hid (show FQ w A wr m b G c (LT G ⟨W, 0, (k : Int), ((0 : Nat) : Int)⟩) (((10 + 0 : Nat)) : Int) from HR.out.up (by have := HXY.out; omega) (by omega))
      clear HR
      go_loopw [17] (fun i wr => ∃ j : Nat, j ≤ Y ∧ i = .int .i64 j ∧ Hid (FQ w A wr m b G c (LT G ⟨W, 0, (k : Int), (j : Int)⟩) ((10 + j : Nat) : Int))) (fun i _ => Y - (intOf i).toNat)
      case atStart => exact ⟨0, Nat.zero_le _, rfl, HQb⟩
      case round =>
        clear HQb
        obtain ⟨j, hj, rfl, HR⟩ := hrel
        by_cases hlt : j < Y
        · have k0 : (0 : Int) ≤ (j : Int) := by omega
          have k1 : (j : Int) < (Y : Int) := by omega
          have Hk4 := hid (show ((10 + j : Nat) : Int) < 1000 by omega)
          go_wp2_with fail
          refine (use_q HR.out HS.out Hk4.out 0 _ (t_use (y' := ((j + 1 : Nat) : Int)) HWb.out.1 rfl)).mono ?_
          rintro e w3 ⟨rfl, hQ⟩
          have HR2 := hid hQ
          clear hQ HR
          go_wp2
          go_roundw
          case rel => exact ⟨j + 1, by omega, by go_num, HR2⟩
          case measure => simp [intOf]; omega
        · obtain rfl : j = Y := by omega
          have k1 : ¬ ((j : Int) < (j : Int)) := by omega
          by_cases hz : S = 0
          · obtain ⟨rfl, rfl⟩ : k = 0 ∧ j = 0 := by have := HSe.out; omega
            subst hz
            have HQ100 := hid (show FQ w A wr m b G c (LT G ⟨W, 0, 0, 0⟩) 10 from HR.out)
            clear HR hlt hj hS hX hY
            go_wp2_with fail
            refine (make_q HQ100.out HS.out 0 _ _ _ (t_make HWb.out.1 HD1.out.1)).mono ?_
            rintro e wq101 ⟨rfl, hQ⟩
            have HQ101 := hid hQ
            clear hQ HQ100
            go_wp2_with fail
            refine (isN_q HQ101.out 112 false rfl).mono ?_
            rintro e wq102 ⟨rfl, hQ, _⟩
            have HQ102 := hid hQ
            clear hQ HQ101
            go_wp2_with fail
            refine (make_qno HQ102.out HS.out 0 _ _ 9 (t_make_other HWb.out.1 HD1.out.1 HWb.out.2.2)).mono ?_
            rintro e wq103 ⟨rfl, hQ⟩
            have HQ103 := hid hQ
            clear hQ HQ102
            go_wp2_with fail
            refine (isE_q HQ103.out 9 (by decide) 110 true rfl).mono ?_
            rintro e wq104 ⟨rfl, hQ, _⟩
            have HQ104 := hid hQ
            clear hQ HQ103
            go_wp2_with fail
            refine (write_qno HQ104.out HS.out 0 10 (t_write_no HWb.out.1 HD1.out.2)).mono ?_
            rintro e wq105 ⟨rfl, hQ⟩
            have HQ105 := hid hQ
            clear hQ HQ104
            go_wp2_with fail
            refine (isE_q HQ105.out 10 (by decide) 111 true rfl).mono ?_
            rintro e wq106 ⟨rfl, hQ, _⟩
            have HQ106 := hid hQ
            clear hQ HQ105
            go_wp2_with fail
            refine (make_qno HQ106.out HS.out 0 _ _ 10 (t_make_no HWb.out.1 HD1.out.1 HD1.out.2)).mono ?_
            rintro e wq107 ⟨rfl, hQ⟩
            have HQ107 := hid hQ
            clear hQ HQ106
            go_wp2_with fail
            refine (isE_q HQ107.out 10 (by decide) 111 true rfl).mono ?_
            rintro e wq108 ⟨rfl, hQ, _⟩
            have HQ108 := hid hQ
            clear hQ HQ107
            go_wp2_with fail
            refine (use_q HQ108.out HS.out (by decide) 0 _ (t_use (y' := 1) HWb.out.1 rfl)).mono ?_
            rintro e wq109 ⟨rfl, hQ⟩
            have HQ109 := hid hQ
            clear hQ HQ108
            go_wp2_with fail
            refine (plain_qno HQ109.out HS.out 0 _ 11 (t_plain_busy HWb.out.1 HD1.out.2 (by decide))).mono ?_
            rintro e wq110 ⟨rfl, hQ⟩
            have HQ110 := hid hQ
            clear hQ HQ109
            go_wp2_with fail
            refine (isE_q HQ110.out 11 (by decide) 112 true rfl).mono ?_
            rintro e wq111 ⟨rfl, hQ, _⟩
            have HQ111 := hid hQ
            clear hQ HQ110
            go_wp2_with fail
            refine (unuse_q HQ111.out HS.out 0 _ (t_unuse (y' := 0) HWb.out.1 (by decide) rfl)).mono ?_
            rintro e wq112 ⟨rfl, hQ⟩
            have HQ112 := hid hQ
            clear hQ HQ111
            go_wp2_with fail
            refine (plain_q HQ112.out HS.out 0 _ _ (t_plain HWb.out.1 HD1.out.2)).mono ?_
            rintro e wq113 ⟨rfl, hQ⟩
            have HQ113 := hid hQ
            clear hQ HQ112
            go_wp2_with fail
            refine (free_q HQ113.out HS.out 0 _ _ (t_free HWb.out.1 rfl rfl)).mono ?_
            rintro e wq114 ⟨rfl, hQ⟩
            have HQ114 := hid hQ
            clear hQ HQ113
            go_wp2_with fail
            refine (free_qno HQ114.out HS.out 0 _ 6 t_free_no).mono ?_
            rintro e wq115 ⟨rfl, hQ⟩
            have HQ115 := hid hQ
            clear hQ HQ114
            go_wp2_with fail
            refine (isE_q HQ115.out 6 (by decide) 107 true rfl).mono ?_
            rintro e wq116 ⟨rfl, hQ, _⟩
            have HQ116 := hid hQ
            clear hQ HQ115
            go_wp2
            go_ret
            exact ⟨rfl, grown_below HQ116.out.gr⟩
          · have hz1 : (S : Int) > 0 := by omega
            have Hb : Hid ((0 : Int) < (k : Int) ∨ (0 : Int) < (j : Int)) := hid (by have := HSe.out; omega)
            have HQ200 := HR
            clear HR hlt hj hz
            go_wp2_with fail
            refine (make_qno HQ200.out HS.out 0 _ _ 11 (t_make_busy HWb.out.1 HD1.out.1 Hb.out)).mono ?_
            rintro e wq201 ⟨rfl, hQ⟩
            have HQ201 := hid hQ
            clear hQ HQ200
            go_wp2_with fail
            refine (isE_q HQ201.out 11 (by decide) 112 true rfl).mono ?_
            rintro e wq202 ⟨rfl, hQ, _⟩
            have HQ202 := hid hQ
            clear hQ HQ201
            go_wp2_with fail
            refine (make_qno HQ202.out HS.out 0 _ _ 9 (t_make_other HWb.out.1 HD1.out.1 HWb.out.2.2)).mono ?_
            rintro e wq203 ⟨rfl, hQ⟩
            have HQ203 := hid hQ
            clear hQ HQ202
            go_wp2_with fail
            refine (isE_q HQ203.out 9 (by decide) 110 true rfl).mono ?_
            rintro e wq204 ⟨rfl, hQ, _⟩
            have HQ204 := hid hQ
            clear hQ HQ203
            go_wp2_with fail
            refine (free_qno HQ204.out HS.out 0 _ 11 (t_free_busy HWb.out.1 Hb.out)).mono ?_
            rintro e wq205 ⟨rfl, hQ⟩
            have HQ205 := hid hQ
            clear hQ HQ204
            go_wp2_with fail
            refine (isE_q HQ205.out 11 (by decide) 112 true rfl).mono ?_
            rintro e wq206 ⟨rfl, hQ, _⟩
            have HQ206 := hid hQ
            clear hQ HQ205
            go_wp2
            clear hz1 Hb k1
            have HQc := hid (show FQ w A wq206 m b G c (LT G ⟨W, 0, ((k - 0 : Nat) : Int), (j : Int)⟩) ((10 + j : Nat) : Int) from HQ206.out)
            clear HQ206
            go_loopw [20] (fun i wr => ∃ p : Nat, p ≤ k ∧ i = .int .i64 p ∧ Hid (FQ w A wr m b G c (LT G ⟨W, 0, ((k - p : Nat) : Int), (j : Int)⟩) ((10 + j : Nat) : Int))) (fun i _ => k - (intOf i).toNat)
            case atStart => exact ⟨0, Nat.zero_le _, rfl, HQc⟩
            case round =>
              clear HQc
              obtain ⟨p, hp, rfl, HR⟩ := hrel
              by_cases hlt : p < k
              · have k0 : (0 : Int) ≤ (p : Int) := by omega
                have k1 : (p : Int) < (k : Int) := by omega
                have Hlt := hid hlt
                go_wp2_with fail
                refine (unwrite_q HR.out HS.out 0 _ (t_unwrite (x' := ((k - (p + 1) : Nat) : Int)) HWb.out.1 (by have := Hlt.out; omega) (by have := Hlt.out; omega))).mono ?_
                rintro e w3 ⟨rfl, hQ⟩
                have HR2 := hid hQ
                clear hQ HR
                go_wp2
                go_roundw
                case rel => exact ⟨p + 1, by omega, by go_num, HR2⟩
                case measure => simp [intOf]; omega
              · obtain rfl : p = k := by omega
                have k1 : ¬ ((p : Int) < (p : Int)) := by omega
                go_wp2
                clear k1 hlt hp
                have HQd := hid (show FQ w A wr m b G c (LT G ⟨W, 0, 0, ((j - 0 : Nat) : Int)⟩) ((10 + j : Nat) : Int) by have := HR.out; rw [Nat.sub_self] at this; exact this)
                clear HR
                go_loopw [21] (fun i wr => ∃ q : Nat, q ≤ j ∧ i = .int .i64 q ∧ Hid (FQ w A wr m b G c (LT G ⟨W, 0, 0, ((j - q : Nat) : Int)⟩) ((10 + j : Nat) : Int))) (fun i _ => j - (intOf i).toNat)
                case atStart => exact ⟨0, Nat.zero_le _, rfl, HQd⟩
                case round =>
                  clear HQd
                  obtain ⟨q, hq, rfl, HR⟩ := hrel
                  by_cases hlt : q < j
                  · have k0 : (0 : Int) ≤ (q : Int) := by omega
                    have k1 : (q : Int) < (j : Int) := by omega
                    have Hlt := hid hlt
                    go_wp2_with fail
                    refine (unuse_q HR.out HS.out 0 _ (t_unuse (y' := ((j - (q + 1) : Nat) : Int)) HWb.out.1 (by have := Hlt.out; omega) (by have := Hlt.out; omega))).mono ?_
                    rintro e w3 ⟨rfl, hQ⟩
                    have HR2 := hid hQ
                    clear hQ HR
                    go_wp2
                    go_roundw
                    case rel => exact ⟨q + 1, by omega, by go_num, HR2⟩
                    case measure => simp [intOf]; omega
                  · obtain rfl : q = j := by omega
                    have k1 : ¬ ((q : Int) < (q : Int)) := by omega
                    have HQ300 := hid (show FQ w A wr m b G c (LT G ⟨W, 0, 0, 0⟩) ((10 + q : Nat) : Int) by have := HR.out; rw [Nat.sub_self] at this; exact this)
                    clear HR
                    go_wp2_with fail
                    refine (unwrite_qno HQ300.out HS.out 0 11 (t_unwrite_no HWb.out.1 rfl)).mono ?_
                    rintro e wq301 ⟨rfl, hQ⟩
                    have HQ301 := hid hQ
                    clear hQ HQ300
                    go_wp2_with fail
                    refine (isE_q HQ301.out 11 (by decide) 112 true rfl).mono ?_
                    rintro e wq302 ⟨rfl, hQ, _⟩
                    have HQ302 := hid hQ
                    clear hQ HQ301
                    go_wp2_with fail
                    refine (unuse_qno HQ302.out HS.out 0 11 (t_unuse_no HWb.out.1 rfl)).mono ?_
                    rintro e wq303 ⟨rfl, hQ⟩
                    have HQ303 := hid hQ
                    clear hQ HQ302
                    go_wp2_with fail
                    refine (isE_q HQ303.out 11 (by decide) 112 true rfl).mono ?_
                    rintro e wq304 ⟨rfl, hQ, _⟩
                    have HQ304 := hid hQ
                    clear hQ HQ303
                    go_wp2_with fail
                    refine (free_q HQ304.out HS.out 0 _ _ (t_free HWb.out.1 rfl rfl)).mono ?_
                    rintro e wq305 ⟨rfl, hQ⟩
                    have HQ305 := hid hQ
                    clear hQ HQ304
                    go_wp2_with fail
                    refine (of_q HQ305.out _ [] (t_end HWb.out.1 G (by simp [LT]; have := HG12.out; omega))).mono ?_
                    rintro e wq306 ⟨p0, q0, rfl, _, hQ, _⟩
                    have HQ306 := hid hQ
                    clear hQ HQ305
                    go_wp2
                    go_ret
                    exact ⟨rfl, grown_below HQ306.out.gr⟩
end Go.Proofs.YtcfagdmaephkdaaDoor
namespace Go.Proofs.YtcfagdmaephkdaaDoor
open Go.RowKit
theorem ofF_nil {L : List Fm} {who : Int} : ∀ n, (∀ (j : Nat) (f : Fm), L[j]? = some f → f.o ≠ who) → n ≤ L.length → ofF L who n = []
  | 0, _, _ => rfl
  | n + 1, h, hn => by rw [ofF_no (List.getElem?_eq_getElem (show n < L.length by omega)) (h n _ (List.getElem?_eq_getElem (by omega))), ofF_nil n h (by omega)]
/-- n frames, of which the first i are given out -/
def LF (n i : Nat) : List Fm := (List.range n).map (fun j => if j < i then ⟨((j % 8 : Nat) : Int), 0, 0, 0⟩ else noFm)
theorem LF_length (n i : Nat) : (LF n i).length = n := by simp [LF]
theorem LF_get {n i j : Nat} (h : j < n) : (LF n i)[j]? = some (if j < i then ⟨((j % 8 : Nat) : Int), 0, 0, 0⟩ else noFm) := by simp [LF, h]
theorem LF_zero (n : Nat) : LF n 0 = List.replicate n noFm := by
  apply List.ext_getElem?
  intro j
  by_cases h : j < n
  · rw [LF_get h, if_neg (by omega), List.getElem?_replicate, if_pos h]
  · rw [List.getElem?_eq_none (by rw [LF_length]; omega), List.getElem?_eq_none (by simp; omega)]
theorem LF_o {n i j : Nat} {f : Fm} (hj : j < i) (h : (LF n i)[j]? = some f) : f.o ≠ -1 := by
  have hn := (List.getElem?_eq_some_iff.1 h).1
  rw [LF_length] at hn
  rw [LF_get hn, if_pos hj] at h
  cases h
  simp only
  omega
theorem mayB_mod (k : Nat) (h : k < 8) : mayB (k : Int) = true := by unfold mayB; simp; omega
theorem LF_step {n i : Nat} (h : i < n) (r : Int) (hr : r = ((i % 8 : Nat) : Int)) : allocF (LF n i) r = (none, i, LF n (i + 1)) := by
  subst hr
  have hx : freeIx (LF n i) = some i := freeIx_found (f := noFm) (by rw [LF_get h, if_neg (Nat.lt_irrefl _)]) rfl (fun j g hj hg => LF_o hj hg)
  have hm := mayB_mod (i % 8) (Nat.mod_lt _ (by decide))
  unfold allocF
  rw [if_neg (by rw [hm]; decide), hx]
  simp only
  refine congrArg (fun z => (none, i, z)) ?_
  apply List.ext_getElem?
  intro j
  rw [List.getElem?_set]
  by_cases hj : j < n
  · rw [LF_get hj, LF_get hj, LF_length]
    by_cases e : i = j
    · subst e
      rw [if_pos rfl, if_pos h, if_pos (Nat.lt_succ_self _)]
    · rw [if_neg e]
      by_cases e2 : j < i
      · rw [if_pos e2, if_pos (by omega)]
      · rw [if_neg e2, if_neg (by omega)]
  · rw [if_neg (by omega), List.getElem?_eq_none (by rw [LF_length]; omega), List.getElem?_eq_none (by rw [LF_length]; omega)]
theorem LF_full (n : Nat) : allocF (LF n n) 0 = (some 12, 0, LF n n) := by
  have hx : freeIx (LF n n) = none := freeIx_none (fun j g hg => LF_o (i := n) (by have := (List.getElem?_eq_some_iff.1 hg).1; rw [LF_length] at this; exact this) hg)
  unfold allocF
  rw [if_neg (by decide), hx]
theorem LF_back {n B : Nat} (h : B < n) (r : Int) (hr : r = ((B % 8 : Nat) : Int)) : freeF (LF n n) B r = (none, (LF n n).set B noFm) := by
  subst hr
  have hg := LF_get (n := n) (i := n) h
  rw [if_pos h] at hg
  unfold freeF
  rw [atF_of hg (by simp only; omega)]
  simp [bsy]
theorem LF_again {n B : Nat} (h : B < n) : allocF ((LF n n).set B noFm) 100 = (none, B, (LF n n).set B ⟨100, 0, 0, 0⟩) := by
  have hx : freeIx ((LF n n).set B noFm) = some B := freeIx_found (f := noFm) (by simp [LF_length, h]) rfl (fun j g hj hg => by
    rw [List.getElem?_set_ne (by omega)] at hg
    exact LF_o (i := n) (by omega) hg)
  unfold allocF
  rw [if_neg (by decide), hx]
  simp
theorem LF_end {n B : Nat} (_h : B < n) : ofF ((LF n n).set B ⟨100, 0, 0, 0⟩) (-1) n = [] := by
  refine ofF_nil n (fun j f hf => ?_) (by simp [LF_length])
  rw [List.getElem?_set] at hf
  split at hf
  · split at hf
    · cases hf; decide
    · cases hf
  · exact LF_o (i := n) (by have := (List.getElem?_eq_some_iff.1 hf).1; rw [LF_length] at this; exact this) hf
set_option maxRecDepth 100000 in
set_option maxHeartbeats 8000000 in
theorem full_walk (n back : Int) (w : World) (A : Nat → Addr) (hs : Sents w A) (f0 : -9223372036854775808 ≤ n) (f1 : n ≤ 9223372036854775807) (a0 : -9223372036854775808 ≤ back) (a1 : back ≤ 9223372036854775807) :
    Calls Tryd.prog 6 #[.int .i64 n, .int .i64 back] w fun e w' => e = .returned (.bool true) ∧ Below w.heap.size w w' := by
  have HS := hid hs
  clear hs
  obtain ⟨F, HF, hF⟩ : ∃ F, Hid (numB n 30 = F) ∧ F < 30 := ⟨_, hid rfl, numB_lt _ (by omega)⟩
  obtain ⟨G, hG, hGe⟩ : ∃ G : Nat, (F : Int) + 1 = (G : Int) ∧ Hid (G = F + 1) := ⟨F + 1, by omega, hid rfl⟩
  obtain ⟨B, HB, hB⟩ : ∃ B, Hid (numB back G = B) ∧ B < G := ⟨_, hid rfl, numB_lt _ (by have := hGe.out; omega)⟩
  obtain ⟨R, hR, HR⟩ : ∃ R : Nat, (B : Int) % 8 = (R : Int) ∧ Hid (R = B % 8) := ⟨B % 8, by omega, hid rfl⟩
  have hG1 : 1 ≤ G := by have := hGe.out; omega
  have hG2 : G ≤ 30 := by have := hGe.out; omega
  have g0 : (0 : Int) ≤ (G : Int) := by omega
  have b0 : (0 : Int) ≤ (B : Int) := by omega
  have HBG := hid hB
  go_enter Tryd.func6, Tryd.ntmps6
  go_wp2_with fail
  refine (first16_any HS.out).mono ?_; rintro e w1 ⟨rfl, hg⟩
  have HG1 := hid hg; clear hg
  go_wp2_with fail
  refine (number_of n 30 30 F rfl HF.out (by omega) (by omega) f0 f1).mono ?_; rintro e w' ⟨rfl, rfl⟩
  go_wp2_with fail
  refine (new_fr G hG1 (by omega) w1).mono ?_
  intro e w2 hN
  obtain ⟨m, b, c, rfl, hF2⟩ := FQ.new HS.out HG1.out G hN
  rw [← LF_zero] at hF2
  have HF2 := hid hF2
  clear hF2 hN HG1
  go_wp2
  go_loopw [8] (fun i wr => ∃ k : Nat, k ≤ G ∧ i = .int .i64 k ∧ Hid (FQ w A wr m b G c (LF G k) 0)) (fun i _ => G - (intOf i).toNat)
  case atStart => exact ⟨0, Nat.zero_le _, rfl, HF2⟩
  case round =>
    obtain ⟨k, hk, rfl, HQ⟩ := hrel
    by_cases hlt : k < G
    · have k0 : (0 : Int) ≤ (k : Int) := by omega
      have k1 : (k : Int) < (G : Int) := by omega
      obtain ⟨r, hr, Hr⟩ : ∃ r : Nat, (k : Int) % 8 = (r : Int) ∧ Hid (r = k % 8) := ⟨k % 8, by omega, hid rfl⟩
      have Hlt := hid hlt
      clear HF2
      go_wp2_with fail
      refine (alloc_q HQ.out HS.out _ k (LF G (k + 1)) (LF_step Hlt.out _ (by rw [Hr.out]))).mono ?_
      rintro e w3 ⟨rfl, hQ⟩
      have HQ2 := hid hQ
      clear hQ
      go_wp2
      go_roundw
      case rel => exact ⟨k + 1, by omega, by go_num, HQ2⟩
      case measure => simp [intOf]; omega
    · obtain rfl : k = G := by omega
      have k1 : ¬ ((k : Int) < (k : Int)) := by omega
      clear HF2
      go_wp2_with fail
      refine (alloc_qno HQ.out HS.out 0 12 (LF_full k)).mono ?_
      rintro e w3 ⟨rfl, hQ⟩
      have HQ2 := hid hQ
      clear hQ HQ
      go_wp2_with fail
      refine (number_of back _ k B rfl HB.out (by omega) (by omega) a0 a1).mono ?_; rintro e w' ⟨rfl, rfl⟩
      go_wp2_with fail
      refine (free_q HQ2.out HS.out _ _ _ (LF_back HBG.out _ (by rw [HR.out]))).mono ?_
      rintro e w4 ⟨rfl, hQ⟩
      have HQ3 := hid hQ
      clear hQ HQ2
      go_wp2_with fail
      refine (alloc_q HQ3.out HS.out 100 B _ (LF_again HBG.out)).mono ?_
      rintro e w5 ⟨rfl, hQ⟩
      have HQ4 := hid hQ
      clear hQ HQ3
      go_wp2_with fail
      refine (get_q HQ4.out _ B rfl ⟨100, 0, 0, 0⟩ (by have := HBG.out; simp [LF_length, this])).mono ?_
      rintro e w6 ⟨rfl, hQ, hg⟩
      have al := World.grownBy_alloc w6 (.cells #[.int .i64 100, .int .i64 0, .int .i64 0, .int .i64 0] 39) none
      have HQ5 := hid (hQ.kept0 al)
      have Hx := hid (heap_alloc_last w6 (.cells #[.int .i64 100, .int .i64 0, .int .i64 0, .int .i64 0] 39))
      have Hxs : Hid (w6.heap.size < (w6.alloc (.cells #[.int .i64 100, .int .i64 0, .int .i64 0, .int .i64 0] 39)).heap.size) := hid (by simp)
      clear hQ HQ4 hg al
      go_wp2_with fail
      refine (isE_q HQ5.out 12 (by decide) 113 true rfl).mono ?_
      rintro e w7 ⟨rfl, hQ, hg⟩
      have HQ6 := hid hQ
      have cx : w7.cell? ⟨w6.heap.size, 0, none⟩ = some (.int .i64 100) := by
        rw [grown_cell hg Hxs.out (by simp), cell_of_row _ _ _ _ _ _ Hx.out]; rfl
      clear hQ HQ5 hg
      go_wp2_with fail
      refine (of_q HQ6.out (-1) [] (LF_end HBG.out)).mono ?_
      rintro e w8 ⟨p, q, rfl, _, hQ, _⟩
      have HQ7 := hid hQ.gr
      clear hQ HQ6
      go_wp2
      go_ret
      exact ⟨rfl, grown_below HQ7.out⟩
end Go.Proofs.YtcfagdmaephkdaaDoor
namespace Go.Proofs.YtcfagdmaephkdaaDoor
/-- a relocation: where, its kind, its symbol, so many words more -/
structure Rl where
  a : Int
  k : Int
  s : Int
  d : Int
deriving DecidableEq
structure Sy where
  n : ByteArray
  i : Int
  v : Int
  g : Bool
deriving DecidableEq
structure PO where
  D : List Int
  C : List Int
  M : List Int
  R : List Rl
  Q : List Rl
  S : List Sy
deriving DecidableEq
/-! ### which may be -/
end Go.Proofs.YtcfagdmaephkdaaDoor
namespace Go.Proofs.YtcfagdmaephkdaaDoor
open Go.RowKit
/-! ### registers -/
/-- sixteen words -/
structure Regs (l : List Int) : Prop where
  len : l.length = 16
  bd : ∀ x ∈ l, 0 ≤ x ∧ x < 4294967296
section
variable {l : List Int}
theorem Regs.set (h : Regs l) (k : Nat) {x : Int} (h0 : 0 ≤ x) (h1 : x < 4294967296) : Regs (l.set k x) :=
  ⟨by rw [List.length_set]; exact h.len, fun y hy => by
    rcases List.mem_or_eq_of_mem_set hy with h2 | rfl
    · exact h.bd y h2
    · exact ⟨h0, h1⟩⟩
end
/-! ### a step -/
section
variable {w w1 : World} {B : Nat} {op a b c imm : Int} {l : List Int}
end
end Go.Proofs.YtcfagdmaephkdaaDoor
namespace Go.Proofs.YtcfagdmaephkdaaDoor
open Go.RowKit Go.WideShapes Go.ChangeShapes
theorem u64_bd {n : Int} (h : (Lit.int .u64 n).wf = true) : 0 ≤ n ∧ n ≤ 18446744073709551615 := by
  have h' := (Bool.and_eq_true _ _).mp h
  exact ⟨of_decide_eq_true h'.1, of_decide_eq_true h'.2⟩
section
variable {H : Type} {enc : TypeId × Value → H} {P : Program} {W W' : World}
theorem args_again (hl : laidOutB P = true) {sp : Nat → Bool} : ∀ (ts : List TypeId) (vs : List Value) (ds : List (DataW H)) (ps : List MemPlace), (∀ t ∈ ts, P.readableRec t = true ∧ t < P.types.size) →
    DataW.TrodAll enc P W 0 (fun _ => true) true ts vs ds ps → (∀ p ∈ ps, W.sameAt W' p) → (∀ p ∈ ps, sp p.block = true) → DataW.TrodAll enc P W' 0 sp true ts vs ds ps
  | [], [], [], _, _, h, _, _ => h
  | [], [], _ :: _, _, _, h, _, _ => h
  | [], _ :: _, _, _, _, h, _, _ => h
  | _ :: _, [], _, _, _, h, _, _ => h
  | _ :: _, _ :: _, [], _, _, h, _, _ => h
  | t :: ts, v :: vs, d :: ds, _, ht, ⟨p, q, h, hs, rfl⟩, hsame, hsp =>
    ⟨p, q, Go.WideElems.Trod_stays hl (ht t (by simp)).1 (ht t (by simp)).2 h (fun x hx => hsame x (by simp [hx])) (fun x hx => hsp x (by simp [hx])),
      args_again hl ts vs ds q (fun u hu => ht u (by simp [hu])) hs (fun x hx => hsame x (by simp [hx])) (fun x hx => hsp x (by simp [hx])), rfl⟩
theorem slat_of_cells {t e : TypeId} {k : IntKind} {fuel : Nat} {p : Option Addr} {len cap : Nat} {x : DataW H × List MemPlace} (ht : P.underlying t = some (.slice e)) (he : P.underlying e = some (.int k)) (hc : P.cellsOf e = 1)
    (h : DataW.trod enc P W 0 (fun _ => true) true fuel t [.slice p len cap] = some x) :
    ∃ xs : List Int, SlAt W k (.slice p len cap) xs ∧ (∀ n ∈ xs, (Lit.int k n).wf = true) ∧ xs.length ≤ maxLen := by
  rcases open_ints ht he hc h with ⟨hcs, hx⟩ | ⟨a, len', cap', zs, hcs, _, hl, hm, hz, hx, hcell, hw⟩
  · simp at hcs
    obtain ⟨rfl, rfl, rfl⟩ := hcs
    exact ⟨[], .inl ⟨⟨_, _, rfl⟩, rfl⟩, by simp, by simp⟩
  · simp only [List.cons.injEq, Value.slice.injEq, and_true] at hcs
    obtain ⟨rfl, rfl, rfl⟩ := hcs
    simp only [if_true] at hz
    have hlen : (zs.take len).length = len := by simp; omega
    refine ⟨zs.take len, ?_, fun n hn => hw n (List.mem_of_mem_take hn), by rw [hlen]; omega⟩
    by_cases h0 : len = 0
    · subst h0
      exact .inl ⟨⟨_, _, rfl⟩, by simp⟩
    · obtain ⟨b, off, spot⟩ := a
      have hspot : spot = none := by simpa [Addr.add] using World.cell?_spot (hcell 0 (by omega))
      subst hspot
      have h00 := hcell 0 (by omega)
      refine .inr ⟨b, off, cap, by rw [hlen], ?_, fun j x hx => ?_⟩
      · exact World.block_lt_of_cell? W _ h00
      · have hj : j < len := by have := (List.getElem?_eq_some_iff.1 hx).1; omega
        rw [List.getElem?_take, if_pos hj] at hx
        have := hcell j (by omega)
        rw [Addr.add_mid] at this
        rw [this]
        simp [List.getD, hx]
/-- a slice of numbers that came in -/
theorem slat_of {t e : TypeId} {k : IntKind} {base : Nat} {v : Value} {d : DataW H} {ps : List MemPlace} (ht : P.underlying t = some (.slice e)) (he : P.underlying e = some (.int k)) (hc : P.cellsOf e = 1)
    (hv : Value.okWide P W .any base t v) (h : DataW.Trod enc P W 0 (fun _ => true) true t v d ps) :
    ∃ xs : List Int, SlAt W k v xs ∧ (∀ n ∈ xs, (Lit.int k n).wf = true) ∧ xs.length ≤ maxLen := by
  obtain ⟨p, len, cap, rfl⟩ := okWide_slice ht hv
  obtain ⟨fuel, hf⟩ := h
  exact slat_of_cells (fuel := fuel) ht he hc (by simpa [Value.cells] using hf)
end
end Go.Proofs.YtcfagdmaephkdaaDoor
namespace Go.Proofs.YtcfagdmaephkdaaDoor
open Go.RowKit
/-! ### what a step leaves alone, but for some blocks -/
structure Lv (w w' : World) (R : List Nat) : Prop where
  os : w'.os = w.os
  tape : w'.tape = w.tape
  output : w'.output = w.output
  size : w.heap.size ≤ w'.heap.size
  block : ∀ k, k < w.heap.size → k ∉ R → w'.heap[k]? = w.heap[k]?
section
variable {w w0 w1 w2 : World} {R R' : List Nat}
theorem Lv.refl (w : World) (R : List Nat) : Lv w w R := ⟨rfl, rfl, rfl, Nat.le_refl _, fun _ _ _ => rfl⟩
theorem Lv.trans (h : Lv w w1 R) (k : Lv w1 w2 R) : Lv w w2 R :=
  ⟨k.os.trans h.os, k.tape.trans h.tape, k.output.trans h.output, Nat.le_trans h.size k.size, fun i hi hr => (k.block i (Nat.lt_of_lt_of_le hi h.size) hr).trans (h.block i hi hr)⟩
theorem Lv.mono (h : Lv w w1 R) (k : ∀ i ∈ R, i ∈ R') : Lv w w1 R' := ⟨h.os, h.tape, h.output, h.size, fun i hi hr => h.block i hi (fun e => hr (k i e))⟩
theorem Lv.of_none (h : w.grownBy w1 none) (R : List Nat) : Lv w w1 R := ⟨h.os, h.tape, h.output, h.size, fun i hi _ => h.block i hi (by simp)⟩
theorem Lv.old (h : Lv w w1 R) (hR : ∀ i ∈ R, w.heap.size ≤ i) : w.grownBy w1 none :=
  ⟨h.os, h.tape, h.output, h.size, fun i hi _ => h.block i hi (fun e => by have := hR i e; omega)⟩
theorem Lv.cell (h : Lv w w1 R) {p : Addr} (hp : p.block < w.heap.size) (hr : p.block ∉ R) : w1.cell? p = w.cell? p := World.cell?_of_block (h.block _ hp hr)
theorem Lv.drew (h : Lv w w1 R) : Lv w w1.drew R := ⟨h.os, h.tape, h.output, h.size, h.block⟩
theorem Lv.drewN (h : Lv w w1 R) (n : Nat) : Lv w (w1.drewN n) R := ⟨h.os, h.tape, h.output, h.size, h.block⟩
theorem Lv.alloc (h : Lv w w1 R) (o : Obj) : Lv w (w1.alloc o) R := h.trans (Lv.of_none (World.grownBy_alloc _ _ _) _)
theorem Lv.set (h : Lv w w1 R) {b : Nat} (hb : b ∈ R) (k : Nat) (v : Value) : Lv w (w1.setCell ⟨b, k, none⟩ v) R :=
  h.trans ⟨rfl, rfl, rfl, by simp, fun i _ hi => heap_setCell_other _ _ _ _ (fun e => hi (by rw [e]; exact hb))⟩
end
/-! ### what is seen -/
abbrev Sn := Int × Int × Int
def snCells : List Sn → List Value
  | [] => []
  | s :: r => .int .i64 s.1 :: .int .u32 s.2.1 :: .int .u32 s.2.2 :: snCells r
/-- the slice value v reads as what is seen -/
def SnAt (w : World) (v : Value) (l : List Sn) : Prop :=
  ((∃ p c, v = .slice p 0 c) ∧ l = []) ∨
  ∃ b c, v = .slice (some ⟨b, 0, none⟩) l.length c ∧ b < w.heap.size ∧ ∀ j u, (snCells l)[j]? = some u → w.cell? ⟨b, j, none⟩ = some u
theorem SnAt.keptL {w w1 : World} {v : Value} {l : List Sn} {R : List Nat} (h : SnAt w v l) (hg : Lv w w1 R) (hr : ∀ g, v.ownBlock = some g → g ∉ R) : SnAt w1 v l := by
  rcases h with h | ⟨b, c, rfl, hb, hc⟩
  · exact .inl h
  · refine .inr ⟨b, c, rfl, Nat.lt_of_lt_of_le hb hg.size, fun j x hx => ?_⟩
    rw [hg.cell hb (hr b rfl)]
    exact hc j x hx
theorem SnAt.kept0 {w w1 : World} {v : Value} {l : List Sn} (h : SnAt w v l) (hg : w.grownBy w1 none) : SnAt w1 v l := h.keptL (Lv.of_none hg []) (by simp)
theorem SnAt.own {w : World} {B : Nat} {t : TypeId} {v : Value} {l : List Sn} (h : w.ownsRow B t 3 v l.length (snCells l)) : SnAt w v l := by
  obtain ⟨hl, h⟩ := h
  rcases h with ⟨rfl, h0⟩ | ⟨g, cap, cur, rfl, _, hg, _, _, _, ht⟩
  · exact .inl ⟨⟨_, _, rfl⟩, List.eq_nil_of_length_eq_zero h0⟩
  · refine .inr ⟨g, cap, rfl, (Array.getElem?_eq_some_iff.1 hg).1, fun j u hu => ?_⟩
    rw [cell_of_row w g _ _ t _ hg]
    have := congrArg (·[j]?) ht
    simp only [List.getElem?_take, hu] at this
    have hj : j < (snCells l).length := (List.getElem?_eq_some_iff.1 hu).1
    rw [hl] at hj
    rw [if_pos hj] at this
    simpa using this
theorem SnAt.len {w : World} {v : Value} {l : List Sn} (h : SnAt w v l) : ∃ p c, v = .slice p l.length c := by
  rcases h with ⟨⟨p, c, rfl⟩, rfl⟩ | ⟨b, c, rfl, _⟩
  · exact ⟨_, _, rfl⟩
  · exact ⟨_, _, rfl⟩
/-! ### devices -/
structure DvS where
  Q : List Int
  S : List Int
  fr : Int
  af : Int
  sn : List Sn
structure DevIs (cur : Array Value) (f : Nat) (x : DvS) (v : Value) : Prop where
  size : cur.size = 85
  one : ∀ (k : Nat) (u : Value), cur[k]? = some u → u.oneCell' = true
  f64 : f < 64
  first : cur[64]? = some (.int .i64 f)
  ring : ∀ (j : Nat) (y : Int), x.Q[j]? = some y → cur[(f + j) % 64]? = some (.int .u32 y)
  count : cur[65]? = some (.int .i64 x.Q.length)
  q64 : x.Q.length ≤ 64
  sec : ∀ (k : Nat) (y : Int), x.S[k]? = some y → cur[66 + k]? = some (.int .u32 y)
  s16 : x.S.length = 16
  frm : cur[82]? = some (.int .i64 x.fr)
  aft : cur[83]? = some (.int .u32 x.af)
  seen : cur[84]? = some v
theorem set_ne {cur : Array Value} {k j : Nat} (u : Value) (h : k ≠ j) : (cur.setIfInBounds k u)[j]? = cur[j]? := by
  rw [Array.getElem?_setIfInBounds, if_neg h]
theorem set_eq {cur : Array Value} {k : Nat} (u : Value) (h : k < cur.size) : (cur.setIfInBounds k u)[k]? = some u := by
  rw [Array.getElem?_setIfInBounds, if_pos rfl, if_pos h]
theorem set_one {cur : Array Value} (h : ∀ (k : Nat) (u : Value), cur[k]? = some u → u.oneCell' = true) (k : Nat) {v : Value} (hv : v.oneCell' = true) : ∀ (j : Nat) (u : Value), (cur.setIfInBounds k v)[j]? = some u → u.oneCell' = true := by
  intro j u hu
  rw [Array.getElem?_setIfInBounds] at hu
  split at hu
  · split at hu
    · obtain rfl := Option.some.inj hu; exact hv
    · cases hu
  · exact h j u hu
section
variable {cur : Array Value} {f : Nat} {x : DvS} {v : Value}
theorem DevIs.put (h : DevIs cur f x v) {k : Nat} (hk : k < 16) (y : Int) : DevIs (cur.setIfInBounds (66 + k) (.int .u32 y)) f { x with S := x.S.set k y } v := by
  have hs := h.size
  have hf := h.f64
  refine ⟨by simp [hs], set_one h.one _ rfl, h.f64, ?_, ?_, ?_, h.q64, ?_, by simpa using h.s16, ?_, ?_, ?_⟩
  · rw [set_ne _ (by omega)]; exact h.first
  · intro j z hz
    rw [set_ne _ (by omega)]; exact h.ring j z hz
  · rw [set_ne _ (by omega)]; exact h.count
  · intro j z hz
    rw [List.getElem?_set] at hz
    by_cases e : k = j
    · subst e
      rw [if_pos rfl, if_pos (by rw [h.s16]; exact hk)] at hz
      rw [set_eq _ (by omega), Option.some.inj hz]
    · rw [if_neg e] at hz
      rw [set_ne _ (by omega)]; exact h.sec j z hz
  · rw [set_ne _ (by omega)]; exact h.frm
  · rw [set_ne _ (by omega)]; exact h.aft
  · rw [set_ne _ (by omega)]; exact h.seen
theorem DevIs.show (h : DevIs cur f x v) {u : Value} (hu : u.oneCell' = true) (l : List Sn) : DevIs (cur.setIfInBounds 84 u) f { x with sn := l } u := by
  have hs := h.size
  have hf := h.f64
  refine ⟨by simp [hs], set_one h.one _ hu, h.f64, ?_, ?_, ?_, h.q64, ?_, h.s16, ?_, ?_, ?_⟩
  · rw [set_ne _ (by omega)]; exact h.first
  · intro j z hz
    rw [set_ne _ (by omega)]; exact h.ring j z hz
  · rw [set_ne _ (by omega)]; exact h.count
  · intro j z hz
    have hk : j < x.S.length := (List.getElem?_eq_some_iff.1 hz).1
    have := h.s16
    rw [set_ne _ (by omega)]; exact h.sec j z hz
  · rw [set_ne _ (by omega)]; exact h.frm
  · rw [set_ne _ (by omega)]; exact h.aft
  · rw [set_eq _ (by omega)]
end
section
variable {w w1 : World} {B B' d : Nat} {x : DvS} {v : Value} {R : List Nat}
end
/-- two that share nothing -/
def Apart (R R' : List Nat) : Prop := ∀ i ∈ R, i ∉ R'
theorem Apart.symm {R R' : List Nat} (h : Apart R R') : Apart R' R := fun i hi k => h i k hi
end Go.Proofs.YtcfagdmaephkdaaDoor
namespace Go.Proofs.YtcfagdmaephkdaaDoor
open Go.RowKit
/-- a processor -/
structure Cp where
  l : List Int
  pc : Int
  ie : Bool
  eie : Bool
  epc : Int
  tv : Int
  ca : Int
  ad : Int
section
variable {x : Cp} (h : x.l.length = 16)
include h
end
section
variable {w w1 : World} {B : Nat} {x : Cp}
end
/-! ### whole processors, loaded and stored -/
section
variable {ops : Array Oper} {rest : List Oper} {o : Oper} {a : Act} {w : World} {Q : Exit → Act → World → Prop} {g : Nat} {y : Cp}
end
/-! ### what the calls make of a processor -/
end Go.Proofs.YtcfagdmaephkdaaDoor
namespace Go.Proofs.YtcfagdmaephkdaaDoor
open Go.RowKit
/-- a block holds these cells -/
structure RwAt (w : World) (B : Nat) (t : TypeId) (cs : Array Value) : Prop where
  blk : w.heap[B]? = some (.cells cs t (0, 0))
section
variable {w w1 : World} {B : Nat} {t : TypeId} {cs : Array Value}
theorem RwAt.lt (h : RwAt w B t cs) : B < w.heap.size := (Array.getElem?_eq_some_iff.1 h.blk).1
theorem RwAt.kept {r : Option Nat} (h : RwAt w B t cs) (hg : w.grownBy w1 r) (hr : some B ≠ r) : RwAt w1 B t cs := ⟨(hg.block _ h.lt hr).trans h.blk⟩
theorem RwAt.kept0 (h : RwAt w B t cs) (hg : w.grownBy w1 none) : RwAt w1 B t cs := h.kept hg (by simp)
theorem RwAt.keptL {R : List Nat} (h : RwAt w B t cs) (hg : Lv w w1 R) (hr : B ∉ R) : RwAt w1 B t cs := ⟨(hg.block _ h.lt hr).trans h.blk⟩
theorem RwAt.alloc (h : RwAt w B t cs) (o : Obj) : RwAt (w.alloc o) B t cs := ⟨(heap_alloc_old _ _ h.lt).trans h.blk⟩
theorem RwAt.new (w : World) (t : TypeId) (cs : Array Value) : RwAt (w.alloc (.cells cs t)) w.heap.size t cs := ⟨heap_alloc_last w _⟩
theorem RwAt.set (h : RwAt w B t cs) (k : Nat) (v : Value) : RwAt (w.setCell ⟨B, k, none⟩ v) B t (cs.setIfInBounds k v) := ⟨heap_setCell_same w B k _ _ _ h.blk⟩
theorem RwAt.row (h : RwAt w B t cs) (c : Array Value) : RwAt (w.setRow B c) B t c := ⟨setRow_heap _ _ _ _ _ _ h.blk⟩
theorem RwAt.cell (h : RwAt w B t cs) (k : Nat) {v : Value} (hv : cs[k]? = some v) : w.cell? ⟨B, k, none⟩ = some v := by
  rw [cell_of_row w B k _ _ _ h.blk, hv]
theorem RwAt.free (h : RwAt w B t cs) (k : Nat) : w.frozen? ⟨B, k, none⟩ = false := frozen_of_row w B k _ _ h.blk
end
/-! ### regions that load whole structs first -/
section
variable {P : Program} {ops : Array Oper} {rest : List Oper} {o : Oper} {a : Act} {w : World} {Q : Act → Prop}
end
section
variable {ops : Array Oper} {rest : List Oper} {o : Oper} {a : Act} {w : World}
end
/-! ### stops and instructions -/
section
variable {w : World} {B : Nat} {t : TypeId} {ca ad op a b c im ln : Int}
end
/-! ### registers of a processor in a block, written -/
section
variable {w : World} {B : Nat}
end
end Go.Proofs.YtcfagdmaephkdaaDoor
