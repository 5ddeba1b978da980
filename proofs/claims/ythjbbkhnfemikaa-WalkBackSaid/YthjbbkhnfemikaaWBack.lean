/- The walk of the law WalkBack. -/
import Derived.Test.YthjbbkhnfemikaaWalk3
namespace Go.Proofs.Ythjbbkhnfemikaa
open Go.RowKit
set_option maxHeartbeats 4000000 in
theorem wback_walk (f : Int) (t w u : Bool) (f' : Int) (t' w' u' : Bool) (v : Int) (W : World) (v0 : 0 ≤ v) (v1 : v ≤ 4294967295) :
    Calls Try.prog 3 #[.agg #[.int .i64 f, .bool t, .bool w, .bool u], .agg #[.int .i64 f', .bool t', .bool w', .bool u'], .int .u32 v] W fun e w' => e = .returned (.bool true) ∧ Below W.heap.size W w' := by
  obtain ⟨A, HA⟩ : ∃ A, Hid (bitV f t w u = A) := ⟨_, hid rfl⟩
  obtain ⟨B, HB⟩ : ∃ B, Hid (bitV f' t' w' u' = B) := ⟨_, hid rfl⟩
  obtain ⟨R, HR⟩ : ∃ R, Hid ((f == f' && (t == t' && (w == w' && u == u'))) = R) := ⟨_, hid rfl⟩
  obtain ⟨C, HC⟩ : ∃ C, Hid (ofB v = C) := ⟨_, hid rfl⟩
  obtain ⟨F, HF⟩ : ∃ F, Hid (oF (ofO v) = F) := ⟨_, hid rfl⟩
  obtain ⟨T, HT⟩ : ∃ T, Hid (oT (ofO v) = T) := ⟨_, hid rfl⟩
  obtain ⟨X, HX⟩ : ∃ X, Hid (oW (ofO v) = X) := ⟨_, hid rfl⟩
  obtain ⟨U, HU⟩ : ∃ U, Hid (oU (ofO v) = U) := ⟨_, hid rfl⟩
  have HV : Hid (C = true → bitV F T X U = v ∧ bitB F T X U = true) := hid (by
    intro hc
    rw [← HC.out] at hc
    have h := bitV_of hc
    rw [← HF.out, ← HT.out, ← HX.out, ← HU.out, ofO_yes hc]
    exact ⟨h.2, h.1⟩)
  have HA0 : Hid (0 ≤ A ∧ A < 4294967296) := hid (by have := bitV_bd f t w u; rw [HA.out] at this; omega)
  have HO : Hid (bitB f t w u = true → ofB A = true ∧ oF (ofO A) = f ∧ oT (ofO A) = t ∧ oW (ofO A) = w ∧ oU (ofO A) = u) := hid (by
    intro h
    have h' := of_bitV h
    rw [HA.out] at h'
    rw [ofO_yes h'.1]
    exact h')
  have HZ : Hid (bitB f t w u = false → A = 0) := hid (fun h => by rw [← HA.out]; exact bitV_no h)
  have HQ : Hid (bitB f t w u = true → bitB f' t' w' u' = true → (A == B) = R) := hid (by
    intro h h'
    have hi := bitV_inj h h'
    rw [HA.out, HB.out] at hi
    rw [← HR.out, Bool.eq_iff_iff]
    simp [hi])
  have v2 : v < 4294967296 := by omega
  obtain ⟨I, HI⟩ : ∃ I, Hid (bitB f t w u = I) := ⟨_, hid rfl⟩
  obtain ⟨J, HJ⟩ : ∃ J, Hid (bitB f' t' w' u' = J) := ⟨_, hid rfl⟩
  rw [HI.out] at HO HZ HQ
  rw [HJ.out] at HQ
  cases I
  · have hz := HZ.out rfl
    subst hz
    cases C
    · clear HV
      clear HO HQ HZ
      go_enter Try.func3, Try.ntmps3
      go_wp2_with fail
      refine (first3_any _).mono ?_; rintro e W1 ⟨rfl, hg⟩
      have HG1 := hid (grown_trans (grown_alloc (grown_alloc (grown_refl W none) _) _) hg)
      have E1 := hid (((EntAt.new W f t w u).alloc _).kept0 hg)
      have G1 := hid ((EntAt.new (W.alloc (.cells #[.int .i64 f, .bool t, .bool w, .bool u] 23)) f' t' w' u').kept0 hg)
      simp only [World.size_alloc] at G1
      obtain ⟨e0, e1, e2, e3, ef, el⟩ := E1.out.all
      obtain ⟨g0, g1, g2, g3, gf, gl⟩ := G1.out.all
      clear hg
      go_wp2_with fail
      refine (bits_of f t w u 0 false HA.out HI.out _).mono ?_; rintro e W2 ⟨rfl, hg⟩
      have HG2 := hid (grown_trans HG1.out hg)
      have E2 := hid (E1.out.kept0 hg)
      have G2 := hid (G1.out.kept0 hg)
      obtain ⟨e0, e1, e2, e3, ef, el⟩ := E2.out.all
      obtain ⟨g0, g1, g2, g3, gf, gl⟩ := G2.out.all
      clear hg HG1 E1 G1
      go_wp2_with fail
      refine (bits_of f' t' w' u' B J HB.out HJ.out _).mono ?_; rintro e W3 ⟨rfl, hg⟩
      have HG3 := hid (grown_trans HG2.out hg)
      have E3 := hid (E2.out.kept0 hg)
      have G3 := hid (G2.out.kept0 hg)
      obtain ⟨e0, e1, e2, e3, ef, el⟩ := E3.out.all
      obtain ⟨g0, g1, g2, g3, gf, gl⟩ := G3.out.all
      clear hg HG2 E2 G2
      go_wp2_with fail
      refine (of_of v F T X U false v0 v2 HF.out HT.out HX.out HU.out HC.out _).mono ?_; rintro e W4 ⟨rfl, hg⟩
      have HG4 := hid (grown_trans HG3.out hg)
      have E4 := hid (E3.out.kept0 hg)
      have G4 := hid (G3.out.kept0 hg)
      obtain ⟨e0, e1, e2, e3, ef, el⟩ := E4.out.all
      obtain ⟨g0, g1, g2, g3, gf, gl⟩ := G4.out.all
      clear hg HG3 E3 G3
      go_wp2
      go_ret
      exact ⟨rfl, grown_below (grown_alloc HG4.out _)⟩
    · have HVy := hid (HV.out rfl)
      clear HV
      clear HO HQ HZ
      go_enter Try.func3, Try.ntmps3
      go_wp2_with fail
      refine (first3_any _).mono ?_; rintro e W1 ⟨rfl, hg⟩
      have HG1 := hid (grown_trans (grown_alloc (grown_alloc (grown_refl W none) _) _) hg)
      have E1 := hid (((EntAt.new W f t w u).alloc _).kept0 hg)
      have G1 := hid ((EntAt.new (W.alloc (.cells #[.int .i64 f, .bool t, .bool w, .bool u] 23)) f' t' w' u').kept0 hg)
      simp only [World.size_alloc] at G1
      obtain ⟨e0, e1, e2, e3, ef, el⟩ := E1.out.all
      obtain ⟨g0, g1, g2, g3, gf, gl⟩ := G1.out.all
      clear hg
      go_wp2_with fail
      refine (bits_of f t w u 0 false HA.out HI.out _).mono ?_; rintro e W2 ⟨rfl, hg⟩
      have HG2 := hid (grown_trans HG1.out hg)
      have E2 := hid (E1.out.kept0 hg)
      have G2 := hid (G1.out.kept0 hg)
      obtain ⟨e0, e1, e2, e3, ef, el⟩ := E2.out.all
      obtain ⟨g0, g1, g2, g3, gf, gl⟩ := G2.out.all
      clear hg HG1 E1 G1
      go_wp2_with fail
      refine (bits_of f' t' w' u' B J HB.out HJ.out _).mono ?_; rintro e W3 ⟨rfl, hg⟩
      have HG3 := hid (grown_trans HG2.out hg)
      have E3 := hid (E2.out.kept0 hg)
      have G3 := hid (G2.out.kept0 hg)
      obtain ⟨e0, e1, e2, e3, ef, el⟩ := E3.out.all
      obtain ⟨g0, g1, g2, g3, gf, gl⟩ := G3.out.all
      clear hg HG2 E2 G2
      go_wp2_with fail
      refine (of_of v F T X U true v0 v2 HF.out HT.out HX.out HU.out HC.out _).mono ?_; rintro e W4 ⟨rfl, hg⟩
      have HG4 := hid (grown_trans HG3.out hg)
      have E4 := hid (E3.out.kept0 hg)
      have G4 := hid (G3.out.kept0 hg)
      obtain ⟨e0, e1, e2, e3, ef, el⟩ := E4.out.all
      obtain ⟨g0, g1, g2, g3, gf, gl⟩ := G4.out.all
      clear hg HG3 E3 G3
      go_wp2_with fail
      refine (bits_of F T X U v true HVy.out.1 HVy.out.2 _).mono ?_; rintro e W5 ⟨rfl, hg⟩
      have HG5 := hid (grown_trans (grown_alloc HG4.out _) hg)
      have E5 := hid ((E4.out.alloc _).kept0 hg)
      have G5 := hid ((G4.out.alloc _).kept0 hg)
      obtain ⟨e0, e1, e2, e3, ef, el⟩ := E5.out.all
      obtain ⟨g0, g1, g2, g3, gf, gl⟩ := G5.out.all
      clear hg HG4 E4 G4
      go_wp2
      go_ret
      exact ⟨rfl, grown_below HG5.out⟩
  · cases J
    · cases C
      · clear HV
        have HOy := hid (HO.out rfl)
        clear HO HQ HZ
        go_enter Try.func3, Try.ntmps3
        go_wp2_with fail
        refine (first3_any _).mono ?_; rintro e W1 ⟨rfl, hg⟩
        have HG1 := hid (grown_trans (grown_alloc (grown_alloc (grown_refl W none) _) _) hg)
        have E1 := hid (((EntAt.new W f t w u).alloc _).kept0 hg)
        have G1 := hid ((EntAt.new (W.alloc (.cells #[.int .i64 f, .bool t, .bool w, .bool u] 23)) f' t' w' u').kept0 hg)
        simp only [World.size_alloc] at G1
        obtain ⟨e0, e1, e2, e3, ef, el⟩ := E1.out.all
        obtain ⟨g0, g1, g2, g3, gf, gl⟩ := G1.out.all
        clear hg
        go_wp2_with fail
        refine (bits_of f t w u A true HA.out HI.out _).mono ?_; rintro e W2 ⟨rfl, hg⟩
        have HG2 := hid (grown_trans HG1.out hg)
        have E2 := hid (E1.out.kept0 hg)
        have G2 := hid (G1.out.kept0 hg)
        obtain ⟨e0, e1, e2, e3, ef, el⟩ := E2.out.all
        obtain ⟨g0, g1, g2, g3, gf, gl⟩ := G2.out.all
        clear hg HG1 E1 G1
        go_wp2_with fail
        refine (bits_of f' t' w' u' B false HB.out HJ.out _).mono ?_; rintro e W3 ⟨rfl, hg⟩
        have HG3 := hid (grown_trans HG2.out hg)
        have E3 := hid (E2.out.kept0 hg)
        have G3 := hid (G2.out.kept0 hg)
        obtain ⟨e0, e1, e2, e3, ef, el⟩ := E3.out.all
        obtain ⟨g0, g1, g2, g3, gf, gl⟩ := G3.out.all
        clear hg HG2 E2 G2
        go_wp2_with fail
        refine (of_of v F T X U false v0 v2 HF.out HT.out HX.out HU.out HC.out _).mono ?_; rintro e W4 ⟨rfl, hg⟩
        have HG4 := hid (grown_trans HG3.out hg)
        have E4 := hid (E3.out.kept0 hg)
        have G4 := hid (G3.out.kept0 hg)
        obtain ⟨e0, e1, e2, e3, ef, el⟩ := E4.out.all
        obtain ⟨g0, g1, g2, g3, gf, gl⟩ := G4.out.all
        clear hg HG3 E3 G3
        go_wp2_with fail
        refine (of_of A f t w u true HA0.out.1 HA0.out.2 HOy.out.2.1 HOy.out.2.2.1 HOy.out.2.2.2.1 HOy.out.2.2.2.2 HOy.out.1 _).mono ?_; rintro e W5 ⟨rfl, hg⟩
        have HG5 := hid (grown_trans (grown_alloc HG4.out _) hg)
        have E5 := hid ((E4.out.alloc _).kept0 hg)
        have G5 := hid ((G4.out.alloc _).kept0 hg)
        obtain ⟨e0, e1, e2, e3, ef, el⟩ := E5.out.all
        obtain ⟨g0, g1, g2, g3, gf, gl⟩ := G5.out.all
        clear hg HG4 E4 G4
        go_wp2_with fail
        refine (same_self f t w u _).mono ?_; rintro e W6 ⟨rfl, hg⟩
        have HG6 := hid (grown_trans (grown_alloc HG5.out _) hg)
        have E6 := hid ((E5.out.alloc _).kept0 hg)
        have G6 := hid ((G5.out.alloc _).kept0 hg)
        obtain ⟨e0, e1, e2, e3, ef, el⟩ := E6.out.all
        obtain ⟨g0, g1, g2, g3, gf, gl⟩ := G6.out.all
        clear hg HG5 E5 G5
        go_wp2
        go_ret
        exact ⟨rfl, grown_below HG6.out⟩
      · have HVy := hid (HV.out rfl)
        clear HV
        have HOy := hid (HO.out rfl)
        clear HO HQ HZ
        go_enter Try.func3, Try.ntmps3
        go_wp2_with fail
        refine (first3_any _).mono ?_; rintro e W1 ⟨rfl, hg⟩
        have HG1 := hid (grown_trans (grown_alloc (grown_alloc (grown_refl W none) _) _) hg)
        have E1 := hid (((EntAt.new W f t w u).alloc _).kept0 hg)
        have G1 := hid ((EntAt.new (W.alloc (.cells #[.int .i64 f, .bool t, .bool w, .bool u] 23)) f' t' w' u').kept0 hg)
        simp only [World.size_alloc] at G1
        obtain ⟨e0, e1, e2, e3, ef, el⟩ := E1.out.all
        obtain ⟨g0, g1, g2, g3, gf, gl⟩ := G1.out.all
        clear hg
        go_wp2_with fail
        refine (bits_of f t w u A true HA.out HI.out _).mono ?_; rintro e W2 ⟨rfl, hg⟩
        have HG2 := hid (grown_trans HG1.out hg)
        have E2 := hid (E1.out.kept0 hg)
        have G2 := hid (G1.out.kept0 hg)
        obtain ⟨e0, e1, e2, e3, ef, el⟩ := E2.out.all
        obtain ⟨g0, g1, g2, g3, gf, gl⟩ := G2.out.all
        clear hg HG1 E1 G1
        go_wp2_with fail
        refine (bits_of f' t' w' u' B false HB.out HJ.out _).mono ?_; rintro e W3 ⟨rfl, hg⟩
        have HG3 := hid (grown_trans HG2.out hg)
        have E3 := hid (E2.out.kept0 hg)
        have G3 := hid (G2.out.kept0 hg)
        obtain ⟨e0, e1, e2, e3, ef, el⟩ := E3.out.all
        obtain ⟨g0, g1, g2, g3, gf, gl⟩ := G3.out.all
        clear hg HG2 E2 G2
        go_wp2_with fail
        refine (of_of v F T X U true v0 v2 HF.out HT.out HX.out HU.out HC.out _).mono ?_; rintro e W4 ⟨rfl, hg⟩
        have HG4 := hid (grown_trans HG3.out hg)
        have E4 := hid (E3.out.kept0 hg)
        have G4 := hid (G3.out.kept0 hg)
        obtain ⟨e0, e1, e2, e3, ef, el⟩ := E4.out.all
        obtain ⟨g0, g1, g2, g3, gf, gl⟩ := G4.out.all
        clear hg HG3 E3 G3
        go_wp2_with fail
        refine (bits_of F T X U v true HVy.out.1 HVy.out.2 _).mono ?_; rintro e W5 ⟨rfl, hg⟩
        have HG5 := hid (grown_trans (grown_alloc HG4.out _) hg)
        have E5 := hid ((E4.out.alloc _).kept0 hg)
        have G5 := hid ((G4.out.alloc _).kept0 hg)
        obtain ⟨e0, e1, e2, e3, ef, el⟩ := E5.out.all
        obtain ⟨g0, g1, g2, g3, gf, gl⟩ := G5.out.all
        clear hg HG4 E4 G4
        go_wp2_with fail
        refine (of_of A f t w u true HA0.out.1 HA0.out.2 HOy.out.2.1 HOy.out.2.2.1 HOy.out.2.2.2.1 HOy.out.2.2.2.2 HOy.out.1 _).mono ?_; rintro e W6 ⟨rfl, hg⟩
        have HG6 := hid (grown_trans HG5.out hg)
        have E6 := hid (E5.out.kept0 hg)
        have G6 := hid (G5.out.kept0 hg)
        obtain ⟨e0, e1, e2, e3, ef, el⟩ := E6.out.all
        obtain ⟨g0, g1, g2, g3, gf, gl⟩ := G6.out.all
        clear hg HG5 E5 G5
        go_wp2_with fail
        refine (same_self f t w u _).mono ?_; rintro e W7 ⟨rfl, hg⟩
        have HG7 := hid (grown_trans (grown_alloc HG6.out _) hg)
        have E7 := hid ((E6.out.alloc _).kept0 hg)
        have G7 := hid ((G6.out.alloc _).kept0 hg)
        obtain ⟨e0, e1, e2, e3, ef, el⟩ := E7.out.all
        obtain ⟨g0, g1, g2, g3, gf, gl⟩ := G7.out.all
        clear hg HG6 E6 G6
        go_wp2
        go_ret
        exact ⟨rfl, grown_below HG7.out⟩
    · cases C
      · clear HV
        have HOy := hid (HO.out rfl)
        have hq := HQ.out rfl rfl
        clear HO HQ HZ
        go_enter Try.func3, Try.ntmps3
        go_wp2_with fail
        refine (first3_any _).mono ?_; rintro e W1 ⟨rfl, hg⟩
        have HG1 := hid (grown_trans (grown_alloc (grown_alloc (grown_refl W none) _) _) hg)
        have E1 := hid (((EntAt.new W f t w u).alloc _).kept0 hg)
        have G1 := hid ((EntAt.new (W.alloc (.cells #[.int .i64 f, .bool t, .bool w, .bool u] 23)) f' t' w' u').kept0 hg)
        simp only [World.size_alloc] at G1
        obtain ⟨e0, e1, e2, e3, ef, el⟩ := E1.out.all
        obtain ⟨g0, g1, g2, g3, gf, gl⟩ := G1.out.all
        clear hg
        go_wp2_with fail
        refine (bits_of f t w u A true HA.out HI.out _).mono ?_; rintro e W2 ⟨rfl, hg⟩
        have HG2 := hid (grown_trans HG1.out hg)
        have E2 := hid (E1.out.kept0 hg)
        have G2 := hid (G1.out.kept0 hg)
        obtain ⟨e0, e1, e2, e3, ef, el⟩ := E2.out.all
        obtain ⟨g0, g1, g2, g3, gf, gl⟩ := G2.out.all
        clear hg HG1 E1 G1
        go_wp2_with fail
        refine (bits_of f' t' w' u' B true HB.out HJ.out _).mono ?_; rintro e W3 ⟨rfl, hg⟩
        have HG3 := hid (grown_trans HG2.out hg)
        have E3 := hid (E2.out.kept0 hg)
        have G3 := hid (G2.out.kept0 hg)
        obtain ⟨e0, e1, e2, e3, ef, el⟩ := E3.out.all
        obtain ⟨g0, g1, g2, g3, gf, gl⟩ := G3.out.all
        clear hg HG2 E2 G2
        go_wp2_with fail
        refine (of_of v F T X U false v0 v2 HF.out HT.out HX.out HU.out HC.out _).mono ?_; rintro e W4 ⟨rfl, hg⟩
        have HG4 := hid (grown_trans HG3.out hg)
        have E4 := hid (E3.out.kept0 hg)
        have G4 := hid (G3.out.kept0 hg)
        obtain ⟨e0, e1, e2, e3, ef, el⟩ := E4.out.all
        obtain ⟨g0, g1, g2, g3, gf, gl⟩ := G4.out.all
        clear hg HG3 E3 G3
        go_wp2_with fail
        refine (of_of A f t w u true HA0.out.1 HA0.out.2 HOy.out.2.1 HOy.out.2.2.1 HOy.out.2.2.2.1 HOy.out.2.2.2.2 HOy.out.1 _).mono ?_; rintro e W5 ⟨rfl, hg⟩
        have HG5 := hid (grown_trans (grown_alloc HG4.out _) hg)
        have E5 := hid ((E4.out.alloc _).kept0 hg)
        have G5 := hid ((G4.out.alloc _).kept0 hg)
        obtain ⟨e0, e1, e2, e3, ef, el⟩ := E5.out.all
        obtain ⟨g0, g1, g2, g3, gf, gl⟩ := G5.out.all
        clear hg HG4 E4 G4
        go_wp2_with fail
        refine (same_self f t w u _).mono ?_; rintro e W6 ⟨rfl, hg⟩
        have HG6 := hid (grown_trans (grown_alloc HG5.out _) hg)
        have E6 := hid ((E5.out.alloc _).kept0 hg)
        have G6 := hid ((G5.out.alloc _).kept0 hg)
        obtain ⟨e0, e1, e2, e3, ef, el⟩ := E6.out.all
        obtain ⟨g0, g1, g2, g3, gf, gl⟩ := G6.out.all
        clear hg HG5 E5 G5
        go_wp2_with fail
        refine (same_ent f f' t w u t' w' u' R HR.out _).mono ?_; rintro e W7 ⟨rfl, hg⟩
        have HG7 := hid (grown_trans HG6.out hg)
        have E7 := hid (E6.out.kept0 hg)
        have G7 := hid (G6.out.kept0 hg)
        obtain ⟨e0, e1, e2, e3, ef, el⟩ := E7.out.all
        obtain ⟨g0, g1, g2, g3, gf, gl⟩ := G7.out.all
        clear hg HG6 E6 G6
        go_wp2
        go_ret
        exact ⟨rfl, grown_below HG7.out⟩
      · have HVy := hid (HV.out rfl)
        clear HV
        have HOy := hid (HO.out rfl)
        have hq := HQ.out rfl rfl
        clear HO HQ HZ
        go_enter Try.func3, Try.ntmps3
        go_wp2_with fail
        refine (first3_any _).mono ?_; rintro e W1 ⟨rfl, hg⟩
        have HG1 := hid (grown_trans (grown_alloc (grown_alloc (grown_refl W none) _) _) hg)
        have E1 := hid (((EntAt.new W f t w u).alloc _).kept0 hg)
        have G1 := hid ((EntAt.new (W.alloc (.cells #[.int .i64 f, .bool t, .bool w, .bool u] 23)) f' t' w' u').kept0 hg)
        simp only [World.size_alloc] at G1
        obtain ⟨e0, e1, e2, e3, ef, el⟩ := E1.out.all
        obtain ⟨g0, g1, g2, g3, gf, gl⟩ := G1.out.all
        clear hg
        go_wp2_with fail
        refine (bits_of f t w u A true HA.out HI.out _).mono ?_; rintro e W2 ⟨rfl, hg⟩
        have HG2 := hid (grown_trans HG1.out hg)
        have E2 := hid (E1.out.kept0 hg)
        have G2 := hid (G1.out.kept0 hg)
        obtain ⟨e0, e1, e2, e3, ef, el⟩ := E2.out.all
        obtain ⟨g0, g1, g2, g3, gf, gl⟩ := G2.out.all
        clear hg HG1 E1 G1
        go_wp2_with fail
        refine (bits_of f' t' w' u' B true HB.out HJ.out _).mono ?_; rintro e W3 ⟨rfl, hg⟩
        have HG3 := hid (grown_trans HG2.out hg)
        have E3 := hid (E2.out.kept0 hg)
        have G3 := hid (G2.out.kept0 hg)
        obtain ⟨e0, e1, e2, e3, ef, el⟩ := E3.out.all
        obtain ⟨g0, g1, g2, g3, gf, gl⟩ := G3.out.all
        clear hg HG2 E2 G2
        go_wp2_with fail
        refine (of_of v F T X U true v0 v2 HF.out HT.out HX.out HU.out HC.out _).mono ?_; rintro e W4 ⟨rfl, hg⟩
        have HG4 := hid (grown_trans HG3.out hg)
        have E4 := hid (E3.out.kept0 hg)
        have G4 := hid (G3.out.kept0 hg)
        obtain ⟨e0, e1, e2, e3, ef, el⟩ := E4.out.all
        obtain ⟨g0, g1, g2, g3, gf, gl⟩ := G4.out.all
        clear hg HG3 E3 G3
        go_wp2_with fail
        refine (bits_of F T X U v true HVy.out.1 HVy.out.2 _).mono ?_; rintro e W5 ⟨rfl, hg⟩
        have HG5 := hid (grown_trans (grown_alloc HG4.out _) hg)
        have E5 := hid ((E4.out.alloc _).kept0 hg)
        have G5 := hid ((G4.out.alloc _).kept0 hg)
        obtain ⟨e0, e1, e2, e3, ef, el⟩ := E5.out.all
        obtain ⟨g0, g1, g2, g3, gf, gl⟩ := G5.out.all
        clear hg HG4 E4 G4
        go_wp2_with fail
        refine (of_of A f t w u true HA0.out.1 HA0.out.2 HOy.out.2.1 HOy.out.2.2.1 HOy.out.2.2.2.1 HOy.out.2.2.2.2 HOy.out.1 _).mono ?_; rintro e W6 ⟨rfl, hg⟩
        have HG6 := hid (grown_trans HG5.out hg)
        have E6 := hid (E5.out.kept0 hg)
        have G6 := hid (G5.out.kept0 hg)
        obtain ⟨e0, e1, e2, e3, ef, el⟩ := E6.out.all
        obtain ⟨g0, g1, g2, g3, gf, gl⟩ := G6.out.all
        clear hg HG5 E5 G5
        go_wp2_with fail
        refine (same_self f t w u _).mono ?_; rintro e W7 ⟨rfl, hg⟩
        have HG7 := hid (grown_trans (grown_alloc HG6.out _) hg)
        have E7 := hid ((E6.out.alloc _).kept0 hg)
        have G7 := hid ((G6.out.alloc _).kept0 hg)
        obtain ⟨e0, e1, e2, e3, ef, el⟩ := E7.out.all
        obtain ⟨g0, g1, g2, g3, gf, gl⟩ := G7.out.all
        clear hg HG6 E6 G6
        go_wp2_with fail
        refine (same_ent f f' t w u t' w' u' R HR.out _).mono ?_; rintro e W8 ⟨rfl, hg⟩
        have HG8 := hid (grown_trans HG7.out hg)
        have E8 := hid (E7.out.kept0 hg)
        have G8 := hid (G7.out.kept0 hg)
        obtain ⟨e0, e1, e2, e3, ef, el⟩ := E8.out.all
        obtain ⟨g0, g1, g2, g3, gf, gl⟩ := G8.out.all
        clear hg HG7 E7 G7
        go_wp2
        go_ret
        exact ⟨rfl, grown_below HG8.out⟩
end Go.Proofs.Ythjbbkhnfemikaa
