/- The walk of the law MemFills. -/
import Derived.Test.YtepgnnnkhjnbjaaDoorMemF
namespace Go.Proofs.YtepgnnnkhjnbjaaDoor
open Go.RowKit
theorem frameOf_same {xs l : List Int} {f : Nat} (hl : l.length = 16) (hx : f * 16 + 16 ≤ xs.length) : frameOf (setMany xs (f * 16) l) f = l := by
  apply List.ext_getElem?
  intro j
  by_cases hj : j < 16
  · rw [frame_get hj, setMany_get _ _ _ _ (by omega), if_pos (by omega)]
    congr 1; omega
  · have h1 : (frameOf (setMany xs (f * 16) l) f).length ≤ 16 := by unfold frameOf; simp only [List.length_take]; omega
    rw [List.getElem?_eq_none (by omega), List.getElem?_eq_none (by omega)]
theorem frameOf_other {xs l : List Int} {f g : Nat} (hl : l.length = 16) (hx : f * 16 + 16 ≤ xs.length) (hg : g ≠ f) : frameOf (setMany xs (f * 16) l) g = frameOf xs g :=
  frame_ext fun j hj => by rw [setMany_get _ _ _ _ (by omega), if_neg (by omega)]
theorem diffs_one {n n' A : Nat} {xs ys : List Int} : ∀ k, (∀ f, f < k → f ≠ A → diffB n n' xs ys f = false) → (diffs n n' xs ys k).length ≤ if A < k then 1 else 0
  | 0, _ => by simp [diffs]
  | k + 1, h => by
    have ih := diffs_one k (fun f hf hne => h f (by omega) hne)
    by_cases hk : k = A
    · subst hk
      rw [if_neg (by omega)] at ih
      rw [if_pos (by omega)]
      cases hd : diffB n n' xs ys k
      · rw [diffs_no hd]; omega
      · rw [diffs_yes hd, List.length_append, List.length_singleton]; omega
    · rw [diffs_no (h k (by omega) hk)]
      by_cases hA : A < k
      · rw [if_pos hA] at ih; rw [if_pos (by omega)]; exact ih
      · rw [if_neg hA] at ih; omega
set_option maxHeartbeats 4000000 in
theorem fills_walk (frames f_ : Int) (v : Value) (ls : List Int) (w : World) (f0 : -9223372036854775808 ≤ frames) (f1 : frames ≤ 9223372036854775807) (a0 : -9223372036854775808 ≤ f_) (a1 : f_ ≤ 9223372036854775807) (hs : SlAt w .u32 v ls) (_ : ∀ n ∈ ls, (Lit.int .u32 n).wf = true) (hl0 : ls.length ≤ maxLen) :
    Calls Tryd.prog 6 #[.int .i64 frames, .int .i64 f_, v] w fun e w' => e = .returned (.bool true) ∧ Below w.heap.size w w' := by
  obtain ⟨p, c0, rfl⟩ := hs.len
  have Hs := hid hs
  clear hs
  obtain ⟨F, HF, hF⟩ : ∃ F, Hid (numB frames 10 = F) ∧ F < 10 := ⟨_, hid rfl, numB_lt _ (by omega)⟩
  obtain ⟨G, hG, hGe⟩ : ∃ G : Nat, (F : Int) + 2 = (G : Int) ∧ Hid (G = F + 2) := ⟨F + 2, by omega, hid rfl⟩
  obtain ⟨N, hN, HN⟩ : ∃ N : Nat, 16 * (G : Int) = (N : Int) ∧ Hid (N = G * 16) := ⟨G * 16, by omega, hid rfl⟩
  obtain ⟨A, HA, hA⟩ : ∃ A, Hid (numB f_ G = A) ∧ A < G := ⟨_, hid rfl, numB_lt _ (by have := hGe.out; omega)⟩
  have hG1 : 2 ≤ G := by have := hGe.out; omega
  have hG2 : G ≤ 11 := by have := hGe.out; omega
  have hN2 : N ≤ 176 := by have := HN.out; omega
  obtain ⟨B, hB, HB⟩ : ∃ B : Nat, ((A : Int) + 1) % (G : Int) = (B : Int) ∧ Hid (B < G ∧ B ≠ A) := by
    refine ⟨(A + 1) % G, by rw [Int.natCast_emod]; rfl, hid ⟨Nat.mod_lt _ (by omega), ?_⟩⟩
    by_cases h : A + 1 = G
    · rw [h, Nat.mod_self]; omega
    · rw [Nat.mod_eq_of_lt (by omega)]; omega
  clear hF
  unfold maxLen at hl0
  by_cases hl : ls.length ≤ 20
  · have hl2 : (ls.length : Int) ≤ 20 := by omega
    go_enter Tryd.func6, Tryd.ntmps6
    go_wp2_with fail
    refine (first_any _).mono ?_; rintro e w1 ⟨rfl, hg⟩
    have HG1 := hid hg; clear hg
    go_wp2_with fail
    refine (number_of frames 10 10 F rfl HF.out (by omega) (by omega) f0 f1).mono ?_; rintro e w' ⟨rfl, rfl⟩
    go_wp2_with fail
    refine (number_of f_ _ G A (by rfl) HA.out (by omega) (by omega) a0 a1).mono ?_; rintro e w' ⟨rfl, rfl⟩
    go_wp2_with fail
    refine (new_of _ G (by rfl) (by omega) (by omega)).mono ?_; rintro e w2 ⟨m, b, rfl, hm, hb, hM, hg⟩
    have HM2 := hid hM
    have HG2 := hid (grown_trans HG1.out hg)
    have Hb := hid (Nat.le_trans HG1.out.size hb)
    clear hM hg hb hm HG1
    go_wp2
    go_loopw [10] (fun i wr => ∃ k : Nat, k ≤ N ∧ i = .int .i64 k ∧ Hid (∃ xs, MemAt wr m b G G xs) ∧ Hid (w.grownBy wr none)) (fun i _ => N - (intOf i).toNat)
    case atStart => exact ⟨0, Nat.zero_le _, rfl, hid ⟨_, HM2.out⟩, HG2⟩
    case round =>
      obtain ⟨k, hk, rfl, HMx, HGr⟩ := hrel
      obtain ⟨xs, hM⟩ := HMx.out
      have HM := hid hM
      clear hM HMx
      by_cases hlt : k < N
      · have hlt2 : (k : Int) < (N : Int) := by omega
        have hk0 : (0 : Int) ≤ (k : Int) := by omega
        go_wp2_with fail
        refine (write_of HM.out _ _ k rfl (by have := HN.out; omega)).mono ?_; rintro e w' ⟨rfl, hM, hg⟩
        have HM' := hid hM
        have HG' := hid (grown_new' (grown_trans (grown_none HGr.out) hg) (fun k hk => by obtain rfl := Option.some.inj hk; exact Hb.out))
        clear hM hg
        go_wp2
        go_roundw
        case rel => exact ⟨k + 1, by omega, by go_num, hid ⟨_, HM'.out⟩, HG'⟩
        case measure => simp [intOf]; omega
      · have hge : (N : Int) ≤ (k : Int) := by omega
        go_wp2_with fail
        refine (clone_any HM.out).mono ?_; rintro e w3 ⟨m2, b2, c2, rfl, hm2, hb2, hM, hg⟩
        have HC3 := hid hM
        have HM3 := hid (HM.out.kept0 hg)
        have HG3 := hid (grown_trans HGr.out hg)
        have Hne : Hid (m2 ≠ b ∧ b2 ≠ b) := hid (by have := HM.out.blt; omega)
        clear hM hg hm2 hb2 HM HGr
        by_cases hf : ls.length ≤ 16
        · have hf2 : (ls.length : Int) ≤ 16 := by omega
          go_wp2_with fail
          refine (fill_yes HM3.out A _ ls hA (Hs.out.kept0 HG3.out) hf).mono ?_; rintro e w4 ⟨rfl, hM, hg⟩
          have HM4 := hid hM
          have HC4 := hid (HC3.out.kept hg (by simpa using Hne.out.1) (by simpa using Hne.out.2))
          have HG4 := hid (grown_new' (grown_trans (grown_none HG3.out) hg) (fun k hk => by obtain rfl := Option.some.inj hk; exact Hb.out))
          have Hxl := hid HM3.out.len
          clear hM hg HM3 HC3 HG3
          go_wp2_with fail
          refine (frame_of HM4.out _ A (by rfl) hA).mono ?_; rintro e w5 ⟨g, rfl, hgn, hgh, hg⟩
          rw [frameOf_same (padded_length hf) (by have := Hxl.out; omega)] at hgh
          have Hgh := hid hgh
          have HM5 := hid (HM4.out.kept0 hg)
          have HC5 := hid (HC4.out.kept0 hg)
          have HG5 := hid (grown_trans HG4.out hg)
          have Hs5 := hid (Hs.out.kept0 (grown_trans HG4.out hg))
          clear hgn hgh hg HM4 HC4 HG4
          go_wp2
          go_loop [6, 15, 16] (fun _ i _ => ∃ k : Nat, k ≤ 16 ∧ i = .int .i64 k) (fun _ i _ => 16 - (intOf i).toNat)
          case atStart => exact ⟨0, by omega, rfl⟩
          case round =>
            obtain ⟨k, hk, rfl⟩ := hrel
            have Hps := hid (padded_length hf)
            by_cases hlt : k < 16
            · have hk0 : (0 : Int) ≤ (k : Int) := by omega
              have hk1 : (k : Int) < 16 := by omega
              obtain ⟨y, Hy⟩ : ∃ y, Hid ((padded ls)[k]? = some y) := ⟨_, hid (List.getElem?_eq_getElem (by rw [Hps.out]; exact hlt))⟩
              have hc : w5.cell? ⟨g, k, none⟩ = some (.int .u32 y) := by rw [cell_of_row w5 g k _ _ _ Hgh.out, wA_get, Hy.out]; rfl
              by_cases hkl : k < ls.length
              · have hkl2 : (k : Int) < (ls.length : Int) := by omega
                rcases Hs5.out with ⟨_, rfl⟩ | ⟨bl, o, c', he, _, hcl⟩
                · simp at hkl
                · have hp : p = some ⟨bl, o, none⟩ := by injection he
                  have hyl : ls[k]? = some y := by
                    have := Hy.out
                    unfold padded at this
                    rwa [List.getElem?_append_left hkl] at this
                  have hcl2 := hcl k y hyl
                  clear he hyl hcl
                  subst hp
                  go_wp2
                  go_round
                  case rel => exact ⟨k + 1, by omega, by go_num⟩
                  case measure => simp [intOf]; omega
              · have hkl2 : ¬ (k : Int) < (ls.length : Int) := by omega
                have hy0 : y = 0 := by
                  have := Hy.out
                  unfold padded at this
                  rw [List.getElem?_append_right (by omega), List.getElem?_replicate] at this
                  split at this
                  · exact (Option.some.inj this).symm
                  · cases this
                subst hy0
                go_wp2
                go_round
                case rel => exact ⟨k + 1, by omega, by go_num⟩
                case measure => simp [intOf]; omega
            · have hge : 16 ≤ (k : Int) := by omega
              go_wp2_with fail
              refine (differ_any HC5.out HM5.out).mono ?_; rintro e w6 ⟨v6, rfl, hs6, hg⟩
              have Hd1 : Hid ((diffs G G xs (setMany xs (A * 16) (padded ls)) (max G G)).length ≤ 1) := hid (by
                rw [Nat.max_self]
                refine Nat.le_trans (diffs_one (A := A) G (fun f hf' hne => ?_)) (by split <;> omega)
                unfold diffB
                rw [frameOf_other (padded_length hf) (by have := Hxl.out; omega) hne]
                simp [hf'])
              obtain ⟨p6, c6, hv6⟩ := hs6.len
              obtain ⟨D, hD, HD⟩ : ∃ D : Nat, (diffs G G xs (setMany xs (A * 16) (padded ls)) (max G G)).length = D ∧ D ≤ 1 := ⟨_, rfl, Hd1.out⟩
              rw [hD] at hv6
              subst hv6
              have HM6 := hid (HM5.out.kept0 hg)
              have HC6 := hid (HC5.out.kept0 hg)
              have HG6 := hid (grown_trans HG5.out hg)
              have hD2 : (D : Int) ≤ 1 := by omega
              clear hs6 hg HM5 HC5 HG5 hD Hd1 HD
              go_wp2_with fail
              refine (frame_of HM6.out _ B (by rfl) HB.out.1).mono ?_; rintro e w7 ⟨g7, rfl, hgn, hgh, hg⟩
              have HM7 := hid (HM6.out.kept0 hg)
              have HC7 := hid (HC6.out.kept0 hg)
              have HG7 := hid (grown_trans HG6.out hg)
              rw [frameOf_other (padded_length hf) (by have := Hxl.out; omega) HB.out.2] at hgh
              have HS7 := hid (SlAt.frame (frameOf_length Hxl.out HB.out.1) hgh 16)
              clear hgn hgh hg HM6 HC6 HG6
              go_wp2_with fail
              refine (frame_of HC7.out _ B (by rfl) HB.out.1).mono ?_; rintro e w8 ⟨g8, rfl, hgn, hgh, hg⟩
              have HM8 := hid (HM7.out.kept0 hg)
              have HG8 := hid (grown_trans HG7.out hg)
              have HS8 := hid (SlAt.frame (frameOf_length Hxl.out HB.out.1) hgh 16)
              have HS8' := hid (HS7.out.kept0 hg)
              clear hgn hgh hg HM7 HC7 HG7 HS7
              go_wp2_with fail
              refine (sw_any HS8'.out HS8.out (by rw [frameOf_length Hxl.out HB.out.1]; omega) (by rw [frameOf_length Hxl.out HB.out.1]; omega) true (by simp)).mono ?_; rintro e w9 ⟨rfl, hg⟩
              have HM9 := hid (HM8.out.kept0 hg)
              have HG9 := hid (grown_trans HG8.out hg)
              clear hg HM8 HG8 HS8 HS8'
              go_wp2_with fail
              refine (fill_no HM9.out _ _ (by omega)).mono ?_; rintro e w' ⟨rfl, rfl⟩
              go_wp2_with fail
              refine (fill_no HM9.out _ _ (by omega)).mono ?_; rintro e w' ⟨rfl, rfl⟩
              go_wp2
              go_ret
              exact ⟨rfl, grown_below HG9.out⟩
        · have hf2 : ¬ (ls.length : Int) ≤ 16 := by omega
          go_wp2_with fail
          refine (fill_many HM3.out A _ ls hA (Hs.out.kept0 HG3.out) (by omega)).mono ?_; rintro e w4 ⟨rfl, rfl⟩
          go_wp2_with fail
          refine (differ_any HC3.out HM3.out).mono ?_; rintro e w6 ⟨v6, rfl, hs6, hg⟩
          rw [Nat.max_self, diffs_none _ (fun f hf => diffB_same hf)] at hs6
          obtain ⟨p6, c6, rfl⟩ := hs6.len
          have HG6 := hid (grown_trans HG3.out hg)
          clear hs6 hg
          go_wp2
          go_ret
          exact ⟨rfl, grown_below HG6.out⟩
  · have hl2 : ¬ (ls.length : Int) ≤ 20 := by omega
    go_enter Tryd.func6, Tryd.ntmps6
    go_wp2_with fail
    refine (first_any _).mono ?_; rintro e w1 ⟨rfl, hg⟩
    have HG1 := hid hg; clear hg
    go_wp2
    go_ret
    exact ⟨rfl, grown_below HG1.out⟩
end Go.Proofs.YtepgnnnkhjnbjaaDoor
