/- The walk of the law MemWords. -/
import Derived.Test.YtepgnnnkhjnbjaaDoorMemF
namespace Go.Proofs.YtepgnnnkhjnbjaaDoor
open Go.RowKit
/-- the words of a memory of n frames with one word written -/
def oneW (n A : Nat) (x : Int) : List Int := (List.replicate (n * 16) (0 : Int)).set A x
theorem oneW_get {n A k : Nat} {x : Int} (hk : k < n * 16) : (oneW n A x)[k]? = some (if k = A then x else 0) := by
  unfold oneW
  by_cases e : A = k
  · subst e; rw [List.getElem?_set_self (by simp; omega)]; simp
  · rw [List.getElem?_set_ne e, List.getElem?_replicate, if_pos hk, if_neg (fun h => e h.symm)]
theorem oneW_frame {n n' A f : Nat} {x : Int} (h : f < n) (h' : f < n') : frameOf (oneW n A x) f = frameOf (oneW n' A x) f :=
  frame_ext fun j hj => by rw [oneW_get (by omega), oneW_get (by omega)]
theorem diffs_up {n A : Nat} {x : Int} : diffs n (n + 2) (oneW n A x) (oneW (n + 2) A x) (n + 2) = [(n : Int), (n : Int) + 1] := by
  rw [diffs_yes (by simp [diffB]), diffs_yes (by simp [diffB]), diffs_none]
  · rfl
  · intro f hf
    unfold diffB
    rw [oneW_frame hf (show f < n + 2 by omega)]
    simp [hf]; omega
theorem diffs_down {n A : Nat} {x : Int} : diffs (n + 2) n (oneW (n + 2) A x) (oneW n A x) (n + 2) = [(n : Int), (n : Int) + 1] := by
  rw [diffs_yes (by simp [diffB]), diffs_yes (by simp [diffB]), diffs_none]
  · rfl
  · intro f hf
    unfold diffB
    rw [oneW_frame (show f < n + 2 by omega) hf]
    simp [hf]; omega
theorem two_new (W : World) (x y : Int) (t : TypeId) : SlAt (W.alloc (.cells #[.int .i64 x, .int .i64 y] t)) .i64 (.slice (some ⟨W.heap.size, 0, none⟩) 2 2) [x, y] :=
  SlAt.whole (xs := [x, y]) (heap_alloc_last W _)
set_option maxHeartbeats 4000000 in
theorem words_walk (frames at_ x : Int) (w : World) (f0 : -9223372036854775808 ≤ frames) (f1 : frames ≤ 9223372036854775807) (a0 : -9223372036854775808 ≤ at_) (a1 : at_ ≤ 9223372036854775807) (_ : 0 ≤ x) (_ : x ≤ 4294967295) :
    Calls Tryd.prog 5 #[.int .i64 frames, .int .i64 at_, .int .u32 x] w fun e w' => e = .returned (.bool true) ∧ Below w.heap.size w w' := by
  obtain ⟨F, HF, hF⟩ : ∃ F, Hid (numB frames 20 = F) ∧ F < 20 := ⟨_, hid rfl, numB_lt _ (by omega)⟩
  obtain ⟨G, hG, hGe⟩ : ∃ G : Nat, (F : Int) + 1 = (G : Int) ∧ Hid (G = F + 1) := ⟨F + 1, by omega, hid rfl⟩
  obtain ⟨N, hN, HN⟩ : ∃ N : Nat, 16 * (G : Int) = (N : Int) ∧ Hid (N = G * 16) := ⟨G * 16, by omega, hid rfl⟩
  obtain ⟨A, HA, hA⟩ : ∃ A, Hid (numB at_ N = A) ∧ A < N := ⟨_, hid rfl, numB_lt _ (by have := HN.out; have := hGe.out; omega)⟩
  have hG1 : 1 ≤ G := by have := hGe.out; omega
  have hG2 : G ≤ 20 := by have := hGe.out; omega
  have HA' : Hid (A < G * 16) := hid (by have := HN.out; omega)
  have hN2 : N ≤ 320 := by have := HN.out; omega
  have q0 : (0 : Int) ≤ (A : Int) := by omega
  have q1 : (A : Int) / 16 = ((A / 16 : Nat) : Int) := by omega
  have q2 : (A : Int) % 16 = ((A % 16 : Nat) : Int) := by omega
  have q3 : A % 16 < 16 := by omega
  have q4 : A / 16 < G := by have := HA'.out; omega
  have Q5 : Hid (A / 16 * 16 + A % 16 = A) := hid (by omega)
  obtain ⟨D, hD⟩ : ∃ D, D = A / 16 := ⟨_, rfl⟩
  obtain ⟨R, hR⟩ : ∃ R, R = A % 16 := ⟨_, rfl⟩
  rw [← hD] at q1 q4 Q5
  rw [← hR] at q2 q3 Q5
  clear hD hR hA hF
  go_enter Tryd.func5, Tryd.ntmps5
  go_wp2_with fail
  refine (first_any _).mono ?_; rintro e w1 ⟨rfl, hg⟩
  have HG1 := hid hg; clear hg
  go_wp2_with fail
  refine (number_of frames 20 20 F rfl HF.out (by omega) (by omega) f0 f1).mono ?_; rintro e w' ⟨rfl, rfl⟩
  go_wp2_with fail
  refine (number_of at_ _ N A (by rfl) HA.out (by omega) (by omega) a0 a1).mono ?_; rintro e w' ⟨rfl, rfl⟩
  go_wp2_with fail
  refine (new_of _ G (by rfl) hG1 (by omega)).mono ?_; rintro e w2 ⟨m, b, rfl, hm, hb, hM, hg⟩
  have HM := hid hM
  have HG2 := hid (grown_trans HG1.out hg)
  have Hb := hid (Nat.le_trans HG1.out.size hb)
  clear hM hg hb hm HG1
  go_wp2_with fail
  refine (new_of _ (G + 2) (by omega) (by omega) (by omega)).mono ?_; rintro e w3 ⟨m', b', rfl, hm, hb, hM, hg⟩
  have HM' := hid hM
  have HM3 := hid (HM.out.kept0 hg)
  have HG3 := hid (grown_trans HG2.out hg)
  have Hne1 : Hid (m ≠ b') := hid (by have := HM.out.mlt; omega)
  have Hne2 : Hid (b ≠ b') := hid (by have := HM.out.blt; omega)
  have Hne3 : Hid (m' ≠ b) := hid (by have := HM.out.blt; omega)
  have Hb' := hid (Nat.le_trans HG2.out.size hb)
  clear hM hg hb hm HG2 HM
  go_wp2_with fail
  refine (write_of HM3.out _ x A rfl HA'.out).mono ?_; rintro e w4 ⟨rfl, hM, hg⟩
  have HM4 := hid hM
  have HM4' := hid (HM'.out.kept hg (by simpa using Hne3.out) (by simpa using Hne2.out.symm))
  have HG4 := hid (grown_new' (grown_trans (grown_none HG3.out) hg) (fun k hk => by obtain rfl := Option.some.inj hk; exact Hb.out))
  clear hM hg HM3 HM' HG3
  go_wp2_with fail
  refine (write_of HM4'.out _ x A rfl (by have := HA'.out; omega)).mono ?_; rintro e w5 ⟨rfl, hM, hg⟩
  have HM5' : Hid (MemAt w5 m' b' (G + 2) (G + 2) (oneW (G + 2) A x)) := hid hM
  have HM5 : Hid (MemAt w5 m b G G (oneW G A x)) := hid (HM4.out.kept hg (by simpa using Hne1.out) (by simpa using Hne2.out))
  have HG5 := hid (grown_new' (grown_trans (grown_none HG4.out) hg) (fun k hk => by obtain rfl := Option.some.inj hk; exact Hb'.out))
  clear hM hg HM4 HM4' HG4 Hne1 Hne2 Hne3
  go_wp2
  go_loop [6, 12, 13, 14, 15] (fun _ i _ _ _ => ∃ k : Nat, k ≤ N ∧ i = .int .i64 k) (fun _ i _ _ _ => N - (intOf i).toNat)
  case atStart => exact ⟨0, Nat.zero_le _, rfl⟩
  case round =>
    obtain ⟨k, hk, rfl⟩ := hrel
    by_cases hlt : k < N
    · have hlt2 : (k : Int) < (N : Int) := by omega
      have Hget := hid (oneW_get (n := G) (A := A) (x := x) (show k < G * 16 by have := HN.out; omega))
      by_cases hkA : k = A
      · have hkB : ((k : Int) == (A : Int)) = true := by simp [hkA]
        rw [if_pos hkA] at Hget
        clear hkA
        go_wp2_with fail
        with_reducible refine (read_of HM5.out _ k x rfl Hget.out).mono ?_; rintro e w' ⟨rfl, rfl⟩
        go_wp2
        go_round
        case rel => exact ⟨k + 1, by omega, by go_num⟩
        case measure => simp [intOf]; omega
      · have hkB : ((k : Int) == (A : Int)) = false := by simp; omega
        rw [if_neg hkA] at Hget
        clear hkA
        go_wp2_with fail
        with_reducible refine (read_of HM5.out _ k 0 rfl Hget.out).mono ?_; rintro e w' ⟨rfl, rfl⟩
        go_wp2
        go_round
        case rel => exact ⟨k + 1, by omega, by go_num⟩
        case measure => simp [intOf]; omega
    · have hge : (N : Int) ≤ (k : Int) := by omega
      go_wp2_with fail
      refine (frame_of HM5.out _ D (by rfl) q4).mono ?_; rintro e w6 ⟨g, rfl, hgn, hgh, hg⟩
      have Hlen := hid (frameOf_length HM5.out.len q4)
      obtain ⟨y, Hy⟩ : ∃ y, Hid ((frameOf (oneW G A x) D)[R]? = some y) := ⟨_, hid (List.getElem?_eq_getElem (by rw [Hlen.out]; exact q3))⟩
      have hc : w6.cell? ⟨g, R, none⟩ = some (.int .u32 y) := by rw [cell_of_row w6 g R _ _ _ hgh, wA_get, Hy.out]; rfl
      have hf : w6.frozen? ⟨g, R, none⟩ = false := frozen_of_row w6 g R _ _ hgh
      have r0 : (0 : Int) ≤ (R : Int) := by omega
      have r1 : (R : Int) < 16 := by omega
      have HM6 := hid (HM5.out.kept0 hg)
      have HM6' := hid (HM5'.out.kept0 hg)
      have HG6 := hid (grown_trans HG5.out hg)
      have Hgn := hid (Nat.le_trans HG5.out.size hgn)
      have Hg1 : Hid (m ≠ g ∧ b ≠ g ∧ m' ≠ g ∧ b' ≠ g) := hid (by have := HM5.out.mlt; have := HM5.out.blt; have := HM5'.out.mlt; have := HM5'.out.blt; omega)
      clear hgn hgh hg HM5 HM5' HG5
      go_wp2_with fail
      have HgA := hid (oneW_get (n := G) (A := A) (x := x) HA'.out)
      rw [if_pos rfl] at HgA
      refine (read_of (HM6.out.kept (r := some g) (grown_setCell (grown_refl _ _) _ _) (by simpa using Hg1.out.1) (by simpa using Hg1.out.2.1)) _ A x rfl HgA.out).mono ?_; rintro e w7 ⟨rfl, hw7⟩
      have hg7 : w6.grownBy w7 (some g) := by rw [← hw7]; exact grown_setCell (grown_refl _ _) _ _
      have HM7 := hid (HM6.out.kept hg7 (by simpa using Hg1.out.1) (by simpa using Hg1.out.2.1))
      have HM7' := hid (HM6'.out.kept hg7 (by simpa using Hg1.out.2.2.1) (by simpa using Hg1.out.2.2.2))
      have HG7 := hid (grown_new' (grown_trans (grown_none HG6.out) hg7) (fun k hk => by obtain rfl := Option.some.inj hk; exact Hgn.out))
      clear hw7 hg7 hc hf HM6 HM6' HG6
      go_wp2_with fail
      refine (differ_any HM7.out HM7'.out).mono ?_; rintro e w8 ⟨v8, rfl, hs8, hg⟩
      rw [Nat.max_eq_right (by omega), diffs_up] at hs8
      have HS8 := hid hs8
      have HM8 := hid (HM7.out.kept0 hg)
      have HM8' := hid (HM7'.out.kept0 hg)
      have HG8 := hid (grown_trans HG7.out hg)
      clear hs8 hg HM7 HM7' HG7
      go_wp2_with fail
      refine (si_any (HS8.out.kept0 (World.grownBy_alloc _ _ _)) (two_new _ _ _ _) (by simp) (by simp) true (by simp)).mono ?_; rintro e w9 ⟨rfl, hg⟩
      have HM9 := hid (HM8.out.kept0 (grown_trans (World.grownBy_alloc _ _ _) hg))
      have HM9' := hid (HM8'.out.kept0 (grown_trans (World.grownBy_alloc _ _ _) hg))
      have HG9 := hid (grown_trans (grown_alloc HG8.out _) hg)
      clear hg HM8 HM8' HG8 HS8
      go_wp2_with fail
      refine (differ_any HM9'.out HM9.out).mono ?_; rintro e w10 ⟨v10, rfl, hs, hg⟩
      rw [Nat.max_eq_left (by omega), diffs_down] at hs
      have HS10 := hid hs
      have HM10 := hid (HM9.out.kept0 hg)
      have HG10 := hid (grown_trans HG9.out hg)
      clear hs hg HM9 HM9' HG9
      go_wp2_with fail
      refine (si_any (HS10.out.kept0 (World.grownBy_alloc _ _ _)) (two_new _ _ _ _) (by simp) (by simp) true (by simp)).mono ?_; rintro e w11 ⟨rfl, hg⟩
      have HM11 := hid (HM10.out.kept0 (grown_trans (World.grownBy_alloc _ _ _) hg))
      have HG11 := hid (grown_trans (grown_alloc HG10.out _) hg)
      clear hg HM10 HG10 HS10
      go_wp2_with fail
      refine (clone_any HM11.out).mono ?_; rintro e w12 ⟨m2, b2, c2, rfl, _, _, hM, hg⟩
      have HM12 := hid (HM11.out.kept0 hg)
      have HC12 := hid hM
      have HG12 := hid (grown_trans HG11.out hg)
      clear hM hg HM11 HG11
      go_wp2_with fail
      refine (differ_any HM12.out HC12.out).mono ?_; rintro e w13 ⟨v13, rfl, hs, hg⟩
      rw [Nat.max_self, diffs_none _ (fun f hf => diffB_same hf)] at hs
      obtain ⟨p, c3, rfl⟩ := hs.len
      have HG13 := hid (grown_trans HG12.out hg)
      clear hs hg HM12 HG12 HC12
      go_wp2
      go_ret
      exact ⟨rfl, grown_below HG13.out⟩
end Go.Proofs.YtepgnnnkhjnbjaaDoor
