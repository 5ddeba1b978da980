/- The law RelaxSays: walked. -/
import Derived.Test.YtmhkghkfpkekbaaRelC
import Derived.Test.YtmhkghkfpkekbaaMem6
namespace Go.Proofs.Ytmhkghkfpkekbaa
open Go.RowKit
structure SaW (W w : World) (xv av bv : Value) (L : List RIt) (A : List Bool) : Prop where
  gr : W.grownBy w none
  x : RiAt w xv L
  a : BlAt w av A
  b : BlAt w bv A
theorem SaW.kept0 {W w w1 : World} {xv av bv : Value} {L : List RIt} {A : List Bool} (h : SaW W w xv av bv L A) (hg : w.grownBy w1 none) : SaW W w1 xv av bv L A :=
  ⟨grown_trans h.gr hg, h.x.kept0 hg, h.a.kept0 hg, h.b.kept0 hg⟩
theorem rnd_fits {L : List RIt} {K : Nat} (h : RndR L K) : decide (farR L (itR L K) L.length = []) = true := by simpa using h.1
set_option maxRecDepth 100000 in
set_option maxHeartbeats 8000000 in
theorem says_walk (v : Value) (L : List RIt) (vb : Value) (B : List Bool) (W : World) (h : RiAt W v L) (hl : L.length ≤ maxLen) (hb : BlAt W vb B) (hbl : B.length ≤ maxLen) :
    Calls Try.prog 4 #[v, vb] W fun e W' => e = .returned (.bool true) ∧ Below W.heap.size W W' := by
  have HA := hid h
  have HBl := hid hb
  obtain ⟨p, c, hv⟩ := h.len
  subst hv
  obtain ⟨pb, cb, hvb⟩ := hb.len
  subst hvb
  obtain ⟨n, hn⟩ : ∃ n, L.length = n := ⟨_, rfl⟩
  obtain ⟨m, hm⟩ : ∃ m, B.length = m := ⟨_, rfl⟩
  have HNe := hid hn
  have HMe := hid hm
  rw [hn] at hl ⊢
  rw [hm] at hbl ⊢
  have HAv : Hid (RiAt W (.slice p n c) L) := hid (by rw [← hn]; exact h)
  have HBv : Hid (BlAt W (.slice pb m cb) B) := hid (by rw [← hm]; exact hb)
  unfold maxLen at hl hbl
  have n0 : (0 : Int) ≤ (n : Int) := by omega
  have m0 : (0 : Int) ≤ (m : Int) := by omega
  have n9 : (n : Int) ≤ 9223372036854775807 := by omega
  have m9 : (m : Int) ≤ 9223372036854775807 := by omega
  clear h hb hl hbl hn hm HA HBl
  go_enter Try.func4, Try.ntmps4
  go_wp2_with fail
  refine (first12_any _).mono ?_
  rintro e w1 ⟨rfl, hg⟩
  have HG1 := hid hg
  clear hg
  by_cases hbig : 200 < n
  · have d1 : decide ((200 : Int) < (n : Int)) = true := by simp; omega
    go_wp2
    go_ret
    exact ⟨rfl, grown_below HG1.out⟩
  · have d1 : decide ((200 : Int) < (n : Int)) = false := by simp; omega
    have Hn : Hid (n ≤ 200) := hid (by omega)
    clear hbig
    by_cases hbig : 210 < m
    · have d2 : decide ((210 : Int) < (m : Int)) = true := by simp; omega
      go_wp2
      go_ret
      exact ⟨rfl, grown_below HG1.out⟩
    · have d2 : decide ((210 : Int) < (m : Int)) = false := by simp; omega
      have Hm : Hid (m ≤ 210) := hid (by omega)
      clear hbig
      go_wp2_with fail
      refine (other_any (HAv.out.kept0 HG1.out) (by rw [HNe.out]; have := Hn.out; omega)).mono ?_
      rintro e w2 ⟨xv, rfl, hox, hg⟩
      rw [HNe.out] at hox
      obtain ⟨xp, xc, rfl⟩ := own_slice hox
      have HX : Hid (RiAt w2 (.slice xp n xc) L) := hid (by have := CsAt.own hox; rw [← HNe.out] at this ⊢; exact this)
      have HG2 := hid (grown_trans HG1.out hg)
      clear hox hg
      cases hval : validR L
      · go_wp2_with fail
        refine (do_noR (HAv.out.kept0 HG2.out) (by rw [HNe.out]; have := Hn.out; omega) hval).mono ?_
        rintro e w3 ⟨rfl, hg⟩
        have HX3 := hid (HX.out.kept0 hg)
        have HG3 := hid (grown_trans HG2.out hg)
        clear hg
        have hvi := valid9_any HX3.out (by rw [HNe.out]; have := Hn.out; omega)
        rw [hval] at hvi
        have HVi := hid hvi
        clear hvi hval
        go_wp2_with fail
        refine HVi.out.mono ?_
        rintro e w4 ⟨rfl, hg⟩
        have HG4 := hid (grown_trans HG3.out hg)
        clear hg
        go_wp2
        go_ret
        exact ⟨rfl, grown_below HG4.out⟩
      · have hok : okR L = true := by unfold validR at hval; rw [Bool.and_eq_true] at hval; exact hval.2
        have HOk := hid hok
        obtain ⟨K, _, hK⟩ := rounds_ex L
        have HK : Hid (RndR L K) := hid hK
        have HKb : Hid (K ≤ 200) := hid (by have := rnd_bound HK.out; have := Hn.out; have := HNe.out; omega)
        have HIl : Hid ((itR L K).length = n) := hid (by rw [itR_length, HNe.out])
        have HVal := hid hval
        have HL5 : Hid (L.length ≤ 5000) := hid (by rw [HNe.out]; have := Hn.out; omega)
        clear hok hK hval
        go_wp2_with fail
        refine (do_yesR (HAv.out.kept0 HG2.out) HVal.out HK.out).mono ?_
        rintro e w3 ⟨ga, rfl, hoa, hg⟩
        rw [HNe.out] at hoa ⊢
        have HX3 := hid (HX.out.kept0 hg)
        have HG3 := hid (grown_trans HG2.out hg)
        have HAa : Hid (BlAt w3 (.slice (some ⟨ga, 0, none⟩) n n) (itR L K)) := hid (by have := CsAt.own hoa; unfold BlAt; rw [HIl.out]; exact this)
        have hvi := valid9_any HX3.out (by rw [HNe.out]; have := Hn.out; omega)
        rw [HVal.out] at hvi
        have HVi := hid hvi
        clear hvi hg hoa
        go_wp2_with fail
        refine HVi.out.mono ?_
        rintro e w4 ⟨rfl, hg⟩
        have HX4 := hid (HX3.out.kept0 hg)
        have HG4 := hid (grown_trans HG3.out hg)
        have HA4 := hid (HAa.out.kept0 hg)
        clear hg HX3 HAa HVi
        go_wp2_with fail
        refine (relax9_rel HX4.out HVal.out HK.out).mono ?_
        rintro e w5 ⟨bv, rfl, hob, hg⟩
        rw [HNe.out] at hob
        have HS : Hid (SaW W w5 (.slice xp n xc) (.slice (some ⟨ga, 0, none⟩) n n) bv L (itR L K)) := hid ⟨grown_trans HG4.out hg, HX4.out.kept0 hg, HA4.out.kept0 hg, by have := CsAt.own hob; unfold BlAt; rw [HIl.out]; exact this⟩
        obtain ⟨bp, bc, rfl⟩ := own_slice hob
        clear hg hob HX4 HG4 HA4 HX HG1 HG2 HG3
        have K0 : (0 : Int) ≤ (K : Int) := by omega
        go_wp2_with fail
        refine (sb_any HS.out.a HS.out.b (by rw [HIl.out]; have := Hn.out; omega) (by rw [HIl.out]; have := Hn.out; omega) true (by simp)).mono ?_
        rintro e w6 ⟨rfl, hg⟩
        have HS6 := hid (HS.out.kept0 hg)
        clear hg HS
        by_cases hmn : m = n
        · have HBn : Hid (B.length = L.length) := hid (by rw [HMe.out, HNe.out]; exact hmn)
          clear hmn
          go_wp2_with fail
          refine (places_rel (HAv.out.kept0 HS6.out.gr) (HBv.out.kept0 HS6.out.gr) HBn.out HOk.out HL5.out).mono ?_
          rintro e w7 ⟨g7, rfl, ho7, hg⟩
          have HS7 := hid (HS6.out.kept0 hg)
          have HP7 : Hid (SlAt w7 .i64 _ _) := hid (SlAt.own ho7)
          clear hg ho7 HS6
          go_wp2_with fail
          refine (places9_rel HS7.out.x (HBv.out.kept0 HS7.out.gr) HBn.out HOk.out HL5.out).mono ?_
          rintro e w8 ⟨v8, rfl, ho8, hg⟩
          have HS8 := hid (HS7.out.kept0 hg)
          have HP8 := hid (HP7.out.kept0 hg)
          have HQ8 : Hid (SlAt w8 .i64 _ _) := hid (SlAt.own ho8)
          clear hg ho8 HS7 HP7
          go_wp2_with fail
          refine (si_any HP8.out HQ8.out (by rw [plsR_length]; have := HL5.out; omega) (by rw [plsR_length]; have := HL5.out; omega) true (by simp)).mono ?_
          rintro e w9 ⟨rfl, hg⟩
          have HS9 := hid (HS8.out.kept0 hg)
          clear hg HS8 HP8 HQ8
          go_wp2_with fail
          refine (places_rel (HAv.out.kept0 HS9.out.gr) HS9.out.a (itR_length K) HOk.out HL5.out).mono ?_
          rintro e wa ⟨ga7, rfl, ho7, hg⟩
          have HSa := hid (HS9.out.kept0 hg)
          have HPa : Hid (SlAt wa .i64 _ _) := hid (SlAt.own ho7)
          clear hg ho7 HS9
          go_wp2_with fail
          refine (places9_rel HSa.out.x HSa.out.b (itR_length K) HOk.out HL5.out).mono ?_
          rintro e wb ⟨vb8, rfl, ho8, hg⟩
          have HSb := hid (HSa.out.kept0 hg)
          have HPb := hid (HPa.out.kept0 hg)
          have HQb : Hid (SlAt wb .i64 _ _) := hid (SlAt.own ho8)
          clear hg ho8 HSa HPa
          go_wp2_with fail
          refine (si_any HPb.out HQb.out (by rw [plsR_length]; have := HL5.out; omega) (by rw [plsR_length]; have := HL5.out; omega) true (by simp)).mono ?_
          rintro e wc ⟨rfl, hg⟩
          have HSc := hid (HSb.out.kept0 hg)
          clear hg HSb HPb HQb
          go_wp2_with fail
          refine (fits_rel (HAv.out.kept0 HSc.out.gr) HSc.out.a (itR_length K) HOk.out HL5.out (rnd_fits HK.out)).mono ?_
          rintro e wd ⟨rfl, hg⟩
          have HGd := hid (grown_trans HSc.out.gr hg)
          clear hg HSc
          go_wp2
          go_ret
          exact ⟨rfl, grown_below HGd.out⟩
        · have Hmn := hid hmn
          clear hmn
          go_wp2_with fail
          refine (places_nil Hmn.out (by have := Hn.out; omega) (by have := Hm.out; omega)).mono ?_
          rintro e w7 ⟨rfl, hg⟩
          have HS7 := hid (HS6.out.kept0 hg)
          clear hg HS6
          go_wp2_with fail
          refine (places9_nil Hmn.out (by have := Hn.out; omega) (by have := Hm.out; omega)).mono ?_
          rintro e w8 ⟨rfl, hg⟩
          have HS8 := hid (HS7.out.kept0 hg)
          clear hg HS7
          go_wp2_with fail
          refine (si_any (la := []) (lb := []) (.inl ⟨⟨_, _, rfl⟩, rfl⟩) (.inl ⟨⟨_, _, rfl⟩, rfl⟩) (by simp) (by simp) true (by simp)).mono ?_
          rintro e w9 ⟨rfl, hg⟩
          have HS9 := hid (HS8.out.kept0 hg)
          clear hg HS8
          go_wp2_with fail
          refine (places_rel (HAv.out.kept0 HS9.out.gr) HS9.out.a (itR_length K) HOk.out HL5.out).mono ?_
          rintro e wa ⟨ga7, rfl, ho7, hg⟩
          have HSa := hid (HS9.out.kept0 hg)
          have HPa : Hid (SlAt wa .i64 _ _) := hid (SlAt.own ho7)
          clear hg ho7 HS9
          go_wp2_with fail
          refine (places9_rel HSa.out.x HSa.out.b (itR_length K) HOk.out HL5.out).mono ?_
          rintro e wb ⟨vb8, rfl, ho8, hg⟩
          have HSb := hid (HSa.out.kept0 hg)
          have HPb := hid (HPa.out.kept0 hg)
          have HQb : Hid (SlAt wb .i64 _ _) := hid (SlAt.own ho8)
          clear hg ho8 HSa HPa
          go_wp2_with fail
          refine (si_any HPb.out HQb.out (by rw [plsR_length]; have := HL5.out; omega) (by rw [plsR_length]; have := HL5.out; omega) true (by simp)).mono ?_
          rintro e wc ⟨rfl, hg⟩
          have HSc := hid (HSb.out.kept0 hg)
          clear hg HSb HPb HQb
          go_wp2_with fail
          refine (fits_rel (HAv.out.kept0 HSc.out.gr) HSc.out.a (itR_length K) HOk.out HL5.out (rnd_fits HK.out)).mono ?_
          rintro e wd ⟨rfl, hg⟩
          have HGd := hid (grown_trans HSc.out.gr hg)
          clear hg HSc
          go_wp2
          go_ret
          exact ⟨rfl, grown_below HGd.out⟩
end Go.Proofs.Ytmhkghkfpkekbaa
