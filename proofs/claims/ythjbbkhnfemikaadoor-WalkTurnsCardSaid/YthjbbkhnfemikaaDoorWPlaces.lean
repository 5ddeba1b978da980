/- The walk of the law WalkPlaces. -/
import Derived.Test.YthjbbkhnfemikaaDoorWLaw0
namespace Go.Proofs.YthjbbkhnfemikaaDoor
open Go.RowKit
/-- the tables of one page: entry D of the first, entry Q of the second -/
def oneT (D Q : Nat) (L : Int) : List Int := ((List.replicate 320 (0 : Int)).set D 257).set (16 + Q) L
theorem oneT_u32 {D Q : Nat} {L : Int} (h0 : 0 ≤ L) (h1 : L < 4294967296) : U32s (oneT D Q L) := (zeros_u32.set D (by omega) (by omega)).set _ h0 h1
theorem oneT_first {D Q j : Nat} {L : Int} (hD : D < 16) (hj : j < 16) : (oneT D Q L)[j]? = some (if j = D then 257 else 0) := by
  unfold oneT
  by_cases e : j = D
  · subst e
    rw [if_pos rfl]
    exact set_miss (by omega) (set_hit (by rw [List.length_replicate]; omega))
  · rw [if_neg e]
    exact set_miss (by omega) (set_miss (fun h => e h.symm) (zeros_get (by omega)))
theorem oneT_second {D Q j : Nat} {L : Int} (hD : D < 16) (hQ : Q < 16) (hj : j < 16) : (oneT D Q L)[16 + j]? = some (if j = Q then L else 0) := by
  unfold oneT
  by_cases e : j = Q
  · subst e
    rw [if_pos rfl]
    exact set_hit (by rw [List.length_set, List.length_replicate]; omega)
  · rw [if_neg e]
    exact set_miss (by omega) (set_miss (by omega) (zeros_get (by omega)))
theorem oneT_page {D Q : Nat} {L p : Int} (hD : D < 16) (hQ : Q < 16) (h0 : 0 ≤ p) : pageO (oneT D Q L) 20 0 p = if p = ((16 * D + Q : Nat) : Int) then liveO L else none := by
  obtain ⟨P, rfl⟩ := Int.eq_ofNat_of_zero_le h0
  by_cases hP : P < 256
  · by_cases hd : P / 16 = D
    · have hx : (oneT D Q L)[P / 16]? = some 257 := by rw [oneT_first hD (by omega), if_pos hd]
      have hy := oneT_second (L := L) hD hQ (show P % 16 < 16 by omega)
      rw [pageO_hit hP hx hy]
      by_cases hq : P % 16 = Q
      · rw [if_pos hq, if_pos (by omega)]
      · rw [if_neg hq, if_neg (by omega)]; rfl
    · have hx : (oneT D Q L)[P / 16]? = some 0 := by rw [oneT_first hD (by omega), if_neg hd]
      rw [pageO_miss hx, if_neg (by omega)]
  · rw [pageO_out (by omega), if_neg (by omega)]
theorem live_of {v : Int} (h : ofB v = true) (ht : tB v = true) : liveB v = true := by
  unfold ofB at h
  simp only [Bool.or_eq_true, decide_eq_true_eq] at h
  rcases h with rfl | h
  · exact absurd ht (by decide)
  · exact h
/-- what is known of an entry's word -/
structure LowAt (L : Int) (K : Int) (x u : Bool) : Prop where
  live : liveO L = some L
  frame : L / 256 = K
  w : wB L = x
  u : uB L = u
  lo : 0 ≤ L
  hi : L < 262144
theorem low_at {K : Int} {x u : Bool} (h0 : 0 ≤ K) (h1 : K < 1024) : LowAt (bitV K true x u) K x u := by
  have hb : bitB K true x u = true := by unfold bitB; simp [h0, h1]
  obtain ⟨a, b, c, d, e⟩ := of_bitV hb
  have hd := bitV_bd K true x u
  exact ⟨liveO_yes (live_of a c), b, d, e, hd.1, hd.2⟩
set_option maxRecDepth 100000 in
set_option maxHeartbeats 8000000 in
theorem places_walk (page frame : Int) (x u : Bool) (addr : Int) (w : World) (p0 : -9223372036854775808 ≤ page) (p1 : page ≤ 9223372036854775807) (f0 : -9223372036854775808 ≤ frame) (f1 : frame ≤ 9223372036854775807) (d0 : 0 ≤ addr) (d1 : addr ≤ 4294967295) :
    Calls Tryd.prog 5 #[.int .i64 page, .int .i64 frame, .bool x, .bool u, .int .u32 addr] w fun e w' => e = .returned (.bool true) ∧ Below w.heap.size w w' := by
  obtain ⟨P, HP, hP⟩ : ∃ P, Hid (numB page 256 = P) ∧ P < 256 := ⟨_, hid rfl, numB_lt _ (by omega)⟩
  obtain ⟨F, HF, hF⟩ : ∃ F, Hid (numB frame 18 = F) ∧ F < 18 := ⟨_, hid rfl, numB_lt _ (by omega)⟩
  obtain ⟨K, hK, hK2⟩ : ∃ K : Nat, (F : Int) + 2 = (K : Int) ∧ K < 20 := ⟨F + 2, by omega, by omega⟩
  obtain ⟨A, hA, hA0, hA1⟩ : ∃ A, addr % 5000 = A ∧ 0 ≤ A ∧ A < 5000 := ⟨_, rfl, by omega, by omega⟩
  obtain ⟨D, hD, hD2⟩ : ∃ D : Nat, (P : Int) / 16 = (D : Int) ∧ D < 16 := ⟨P / 16, by omega, by omega⟩
  obtain ⟨Q, hQ, hQ2⟩ : ∃ Q : Nat, (P : Int) % 16 = (Q : Int) ∧ Q < 16 := ⟨P % 16, by omega, by omega⟩
  obtain ⟨L, HL⟩ : ∃ L, Hid (bitV (K : Int) true x u = L) := ⟨_, hid rfl⟩
  have HB : Hid (bitB (K : Int) true x u = true) := hid (by unfold bitB; simp; omega)
  have hlow := low_at (K := (K : Int)) (x := x) (u := u) (by omega) (by omega)
  rw [HL.out] at hlow
  have Hlow := hid hlow
  have hpg := oneT_page (L := L) (p := A / 16) hD2 hQ2 (by omega)
  have Hu : Hid (U32s (oneT D Q L)) := hid (oneT_u32 hlow.lo (by have := hlow.hi; omega))
  obtain ⟨I, hI⟩ : ∃ I, (A / 16 == (P : Int)) = I := ⟨_, rfl⟩
  have ways : ∃ V1 V2 V3 V4 B1 B2 B3 B4, (∃ _ : Hid (wayB (pageO (oneT D Q L) 20 0 (A / 16)) 20 false false = B1 ∧ wayV (pageO (oneT D Q L) 20 0 (A / 16)) 20 A false false = V1), ∃ _ : Hid (wayB (pageO (oneT D Q L) 20 0 (A / 16)) 20 true false = B2 ∧ wayV (pageO (oneT D Q L) 20 0 (A / 16)) 20 A true false = V2), ∃ _ : Hid (wayB (pageO (oneT D Q L) 20 0 (A / 16)) 20 false true = B3 ∧ wayV (pageO (oneT D Q L) 20 0 (A / 16)) 20 A false true = V3), ∃ _ : Hid (wayB (pageO (oneT D Q L) 20 0 (A / 16)) 20 true true = B4 ∧ wayV (pageO (oneT D Q L) 20 0 (A / 16)) 20 A true true = V4),
      (I = true ∧ x = true ∧ B1 = true ∧ B2 = true ∧ B3 = u ∧ B4 = u ∧ V1 = 16 * (K : Int) + A % 16) ∨ (I = true ∧ x = false ∧ B1 = true ∧ B2 = false ∧ B3 = u ∧ B4 = false ∧ V1 = 16 * (K : Int) + A % 16) ∨ (I = false ∧ B1 = false ∧ B2 = false ∧ B3 = false ∧ B4 = false ∧ V1 = 0)) := by
    refine ⟨_, _, _, _, _, _, _, _, hid ⟨rfl, rfl⟩, hid ⟨rfl, rfl⟩, hid ⟨rfl, rfl⟩, hid ⟨rfl, rfl⟩, ?_⟩
    rw [hpg]
    cases I
    · have hne : ¬ A / 16 = (P : Int) := by simpa using hI
      rw [if_neg (by omega)]
      exact .inr (.inr ⟨rfl, rfl, rfl, rfl, rfl, rfl⟩)
    · have he : A / 16 = (P : Int) := by simpa using hI
      rw [if_pos (by omega), hlow.live]
      have hfr := hlow.frame
      have hn : L / 256 < 20 := by omega
      unfold wayV
      rw [way_some hlow.w hlow.u hn, way_some hlow.w hlow.u hn, way_some hlow.w hlow.u hn, way_some hlow.w hlow.u hn]
      have hv : (if ((!false || x) && (!false || u)) = true then oF (some L) * 16 + A % 16 else 0) = 16 * (K : Int) + A % 16 := by
        rw [if_pos (by simp)]
        show L / 256 * 16 + A % 16 = _
        omega
      cases x
      · exact .inr (.inl ⟨rfl, rfl, rfl, rfl, by simp, rfl, hv⟩)
      · exact .inl ⟨rfl, rfl, rfl, rfl, by simp, by simp, hv⟩
  obtain ⟨V1, V2, V3, V4, B1, B2, B3, B4, H1, H2, H3, H4, hw⟩ := ways
  clear hpg hlow hP hF
  rcases hw with ⟨rfl, rfl, rfl, rfl, rfl, rfl, hV⟩ | ⟨rfl, rfl, rfl, rfl, rfl, rfl, hV⟩ | ⟨rfl, rfl, rfl, rfl, rfl, hV⟩
  all_goals
    have hVb : (V1 == 16 * (K : Int) + A % 16) = true ∨ V1 = 0 := by first | exact .inl (by simpa using hV) | exact .inr hV
    have HV := hid hV
    clear hV
    go_enter Tryd.func5, Tryd.ntmps5
    go_wp2_with fail
    refine (first3_any _).mono ?_; rintro e w1 ⟨rfl, hg⟩
    have HG1 := hid hg; clear hg
    go_wp2_with fail
    refine (number_of page 256 256 P rfl HP.out (by omega) (by omega) p0 p1).mono ?_; rintro e w' ⟨rfl, rfl⟩
    go_wp2_with fail
    refine (number_of frame 18 18 F rfl HF.out (by omega) (by omega) f0 f1).mono ?_; rintro e w' ⟨rfl, rfl⟩
    go_wp2_with fail
    refine (memory_nil _).mono ?_; rintro e w2 ⟨m, b, m', b', rfl, hm, hb, hM, hR, hg⟩
    have HM2 := hid hM
    have HG2 := hid (grown_trans HG1.out hg)
    have Hb := hid (Nat.le_trans HG1.out.size hb)
    clear hM hR hg hm hb HG1
    go_wp2_with fail
    refine (bits_of 1 true false false 257 true (by decide) (by decide) _).mono ?_; rintro e w3 ⟨rfl, hg⟩
    have HM3 := hid (HM2.out.kept0 hg)
    have HG3 := hid (grown_trans HG2.out hg)
    clear hg HM2 HG2
    go_wp2_with fail
    refine (bits_of _ _ _ _ L true HL.out HB.out _).mono ?_; rintro e w4 ⟨rfl, hg⟩
    have HM4 := hid (HM3.out.kept0 hg)
    have HG4 := hid (grown_trans HG3.out hg)
    clear hg HM3 HG3
    go_wp2_with fail
    refine (write_of HM4.out _ 257 D (by rfl) (by omega)).mono ?_; rintro e w5 ⟨rfl, hM, hg⟩
    have HM5 := hid hM
    have HG5 := hid (grown_new' (grown_trans (grown_none HG4.out) hg) (fun k hk => by obtain rfl := Option.some.inj hk; exact Hb.out))
    clear hM hg HM4 HG4
    go_wp2_with fail
    refine (write_of HM5.out _ L (16 + Q) (by omega) (by omega)).mono ?_; rintro e w6 ⟨rfl, hM, hg⟩
    have HM6 : Hid (MemAt w6 m b 20 20 (oneT D Q L)) := hid hM
    have HG6 := hid (grown_new' (grown_trans (grown_none HG5.out) hg) (fun k hk => by obtain rfl := Option.some.inj hk; exact Hb.out))
    clear hM hg HM5 HG5
    go_wp2_with fail
    refine (walk20 HM6.out Hu.out A hA0 (by omega) false false V1 _ H1.out.1 H1.out.2).mono ?_; rintro e w7 ⟨rfl, hg⟩
    have HM7 := hid (HM6.out.kept0 hg)
    have HG7 := hid (grown_trans HG6.out hg)
    clear hg HM6 HG6
    go_wp2_with fail
    refine (walk20 HM7.out Hu.out A hA0 (by omega) true false V2 _ H2.out.1 H2.out.2).mono ?_; rintro e w8 ⟨rfl, hg⟩
    have HM8 := hid (HM7.out.kept0 hg)
    have HG8 := hid (grown_trans HG7.out hg)
    clear hg HM7 HG7
    go_wp2_with fail
    refine (walk20 HM8.out Hu.out A hA0 (by omega) false true V3 _ H3.out.1 H3.out.2).mono ?_; rintro e w9 ⟨rfl, hg⟩
    have HM9 := hid (HM8.out.kept0 hg)
    have HG9 := hid (grown_trans HG8.out hg)
    clear hg HM8 HG8
    go_wp2_with fail
    refine (walk20 HM9.out Hu.out A hA0 (by omega) true true V4 _ H4.out.1 H4.out.2).mono ?_; rintro e w10 ⟨rfl, hg⟩
    have HG10 := hid (grown_trans HG9.out hg)
    clear hg HM9 HG9
    have hVc := HV.out
    go_wp2
    go_ret
    exact ⟨rfl, grown_below HG10.out⟩
end Go.Proofs.YthjbbkhnfemikaaDoor
