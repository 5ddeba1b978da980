/- The walk of the law WalkTurns. -/
import Derived.Test.YthjbbkhnfemikaaDoorWPlaces
import Derived.Test.YthjbbkhnfemikaaDoorRWalk1
namespace Go.Proofs.YthjbbkhnfemikaaDoor
open Go.RowKit
theorem oneT_bent {D Q : Nat} {L B : Int} : (oneT D Q L).set (16 + Q) B = oneT D Q B := by unfold oneT; rw [List.set_set]
theorem xor_bd {L S : Int} (h0 : 0 ≤ L) (h1 : L < 4294967296) (h2 : 0 ≤ S) (h3 : S < 4294967296) : 0 ≤ bits BinOp.xor IntKind.u32 L S ∧ bits BinOp.xor IntKind.u32 L S < 4294967296 := by
  rw [u32_xor L S h0 h1 h2 h3]
  have : L.toNat ^^^ S.toNat < 2 ^ 32 := Nat.xor_lt_two_pow (by omega) (by omega)
  omega
/-- what a way wants of an entry's word -/
theorem way_want (B n : Int) : wayB (liveO B) n true true = (ofB B && oT (ofO B) && oW (ofO B) && oU (ofO B) && decide (oF (ofO B) < n)) := by
  cases hl : liveB B
  · rw [liveO_no hl, (of_dead hl).2.1, Bool.and_false, Bool.false_and, Bool.false_and, Bool.false_and]; rfl
  · rw [liveO_yes hl, ofO_yes (of_live hl), of_live hl]
    show (wB B && uB B && decide (B / 256 < n)) = _
    rw [show oT (some B) = true from tB_live hl]
    rfl
theorem want_ways (C T X U r : Bool) : (C = false ∧ (C && T && X && U && r) = false) ∨ (C = true ∧ T = false ∧ (C && T && X && U && r) = false) ∨ (C = true ∧ T = true ∧ X = false ∧ (C && T && X && U && r) = false) ∨ (C = true ∧ T = true ∧ X = true ∧ U = false ∧ (C && T && X && U && r) = false) ∨ (C = true ∧ T = true ∧ X = true ∧ U = true ∧ r = false ∧ (C && T && X && U && r) = false) ∨ (C = true ∧ T = true ∧ X = true ∧ U = true ∧ r = true ∧ (C && T && X && U && r) = true) := by
  cases C <;> cases T <;> cases X <;> cases U <;> cases r <;> simp
set_option maxRecDepth 100000 in
set_option maxHeartbeats 8000000 in
theorem turns_walk (page frame turn addr : Int) (w : World) (p0 : -9223372036854775808 ≤ page) (p1 : page ≤ 9223372036854775807) (f0 : -9223372036854775808 ≤ frame) (f1 : frame ≤ 9223372036854775807) (t0 : 0 ≤ turn) (t1 : turn ≤ 18446744073709551615) (d0 : 0 ≤ addr) (d1 : addr ≤ 4294967295) :
    Calls Tryd.prog 6 #[.int .i64 page, .int .i64 frame, .int .u64 turn, .int .u32 addr] w fun e w' => e = .returned (.bool true) ∧ Below w.heap.size w w' := by
  obtain ⟨P, HP, hP⟩ : ∃ P, Hid (numB page 256 = P) ∧ P < 256 := ⟨_, hid rfl, numB_lt _ (by omega)⟩
  obtain ⟨F, HF, hF⟩ : ∃ F, Hid (numB frame 18 = F) ∧ F < 18 := ⟨_, hid rfl, numB_lt _ (by omega)⟩
  obtain ⟨K, hK, hK2⟩ : ∃ K : Nat, (F : Int) + 2 = (K : Int) ∧ K < 20 := ⟨F + 2, by omega, by omega⟩
  obtain ⟨D, hD, hD2⟩ : ∃ D : Nat, (P : Int) / 16 = (D : Int) ∧ D < 16 := ⟨P / 16, by omega, by omega⟩
  obtain ⟨Q, hQ, hQ2⟩ : ∃ Q : Nat, (P : Int) % 16 = (Q : Int) ∧ Q < 16 := ⟨P % 16, by omega, by omega⟩
  obtain ⟨L, HL⟩ : ∃ L, Hid (bitV (K : Int) true true true = L) := ⟨_, hid rfl⟩
  have HB : Hid (bitB (K : Int) true true true = true) := hid (by unfold bitB; simp; omega)
  have hlow := low_at (K := (K : Int)) (x := true) (u := true) (by omega) (by omega)
  rw [HL.out] at hlow
  have hL0 := hlow.lo
  have hL1 := hlow.hi
  have Hlow := hid hlow
  have Hu : Hid (U32s (oneT D Q L)) := hid (oneT_u32 hlow.lo (by have := hlow.hi; omega))
  obtain ⟨A, hA, hA0, hA1⟩ : ∃ A, 16 * (P : Int) + addr % 16 = A ∧ 0 ≤ A ∧ A < 4096 := ⟨_, rfl, by omega, by omega⟩
  have hA16 : A / 16 = ((16 * D + Q : Nat) : Int) := by omega
  have hpg := fun (B : Int) => oneT_page (L := B) (p := A / 16) hD2 hQ2 (by omega)
  simp only [hA16, if_true] at hpg
  have hAD : (16 * D + Q) / 16 = D := by omega
  obtain ⟨N, hN⟩ : ∃ N, bits BinOp.xor IntKind.u32 L (2 ^ (turn % 32).toNat % 4294967296) = N := ⟨_, rfl⟩
  have hNb := xor_bd (L := L) (S := 2 ^ (turn % 32).toNat % 4294967296) hL0 (by omega) (Int.emod_nonneg _ (by omega)) (Int.emod_lt_of_pos _ (by omega))
  rw [hN] at hNb
  obtain ⟨hN0, hN1⟩ := hNb
  have HuN : Hid (U32s (oneT D Q N)) := hid (oneT_u32 hN0 hN1)
  obtain ⟨E, hE⟩ : ∃ E, ((oneT D Q N).set (16 + Q) L).set D 0 = E := ⟨_, rfl⟩
  have HuE : Hid (U32s E) := hid (by rw [← hE]; exact (((oneT_u32 hN0 hN1).set _ hL0 (by omega))).set _ (by omega) (by omega))
  have HE : Hid (((oneT D Q N).set (16 + Q) L).set D 0 = E) := hid hE
  obtain ⟨V1, HV1⟩ : ∃ V, Hid (wayV (pageO (oneT D Q L) 20 0 (A / 16)) 20 A true true = V) := ⟨_, hid rfl⟩
  obtain ⟨V2, HV2⟩ : ∃ V, Hid (wayV (pageO (oneT D Q N) 20 0 (A / 16)) 20 A true true = V) := ⟨_, hid rfl⟩
  obtain ⟨V3, HV3⟩ : ∃ V, Hid (wayV (pageO E 20 0 (A / 16)) 20 A false false = V) := ⟨_, hid rfl⟩
  have HB1 : Hid (wayB (pageO (oneT D Q L) 20 0 (A / 16)) 20 true true = true) := hid (by
    have hfr := hlow.frame
    rw [hA16, hpg, hlow.live, way_some hlow.w hlow.u (by omega)]; rfl)
  obtain ⟨C, HC⟩ : ∃ C, Hid (ofB N = C) := ⟨_, hid rfl⟩
  obtain ⟨T, HT⟩ : ∃ C, Hid (oT (ofO N) = C) := ⟨_, hid rfl⟩
  obtain ⟨X, HX⟩ : ∃ C, Hid (oW (ofO N) = C) := ⟨_, hid rfl⟩
  obtain ⟨U, HU⟩ : ∃ C, Hid (oU (ofO N) = C) := ⟨_, hid rfl⟩
  obtain ⟨G, HG⟩ : ∃ C, Hid (oF (ofO N) = C) := ⟨_, hid rfl⟩
  obtain ⟨r, hr⟩ : ∃ r, decide (G < 20) = r := ⟨_, rfl⟩
  obtain ⟨Y, hY⟩ : ∃ Y, (C && T && X && U && r) = Y := ⟨_, rfl⟩
  have HB2 : Hid (wayB (pageO (oneT D Q N) 20 0 (A / 16)) 20 true true = Y) := hid (by
    rw [hA16, hpg, way_want, HC.out, HT.out, HX.out, HU.out, HG.out, hr, hY])
  have HB3 : Hid (wayB (pageO E 20 0 (A / 16)) 20 false false = false) := hid (by
    rw [hA16, pageO_miss (by rw [hAD, ← hE]; exact set_hit (by rw [List.length_set]; unfold oneT; rw [List.length_set, List.length_set, List.length_replicate]; omega))]; rfl)
  have HY : Hid ((C && T && X && U && r) = Y) := hid hY
  have Hr := hid hr
  have hA2 : A < 4294967296 := by omega
  clear hpg hlow hA16 hAD hE hY hr
  go_enter Tryd.func6, Tryd.ntmps6
  go_wp2_with fail
  refine (first3_any _).mono ?_; rintro e w1 ⟨rfl, hg⟩
  have HG1 := hid hg; clear hg
  go_wp2_with fail
  refine (number_of page 256 256 P rfl HP.out (by omega) (by omega) p0 p1).mono ?_; rintro e w' ⟨rfl, rfl⟩
  go_wp2_with fail
  refine (number_of frame 18 18 F rfl HF.out (by omega) (by omega) f0 f1).mono ?_; rintro e w' ⟨rfl, rfl⟩
  go_wp2_with fail
  refine (memory_nil _).mono ?_; rintro e w2 ⟨m, b, m', b', rfl, hm, hb, hM, hR, hg⟩
  have HM2 := hid hM
  have HG2 := hid (grown_trans HG1.out hg)
  have Hb := hid (Nat.le_trans HG1.out.size hb)
  clear hM hR hg hm hb HG1
  go_wp2_with fail
  refine (bits_of 1 true false false 257 true (by decide) (by decide) _).mono ?_; rintro e w3 ⟨rfl, hg⟩
  have HM3 := hid (HM2.out.kept0 hg)
  have HG3 := hid (grown_trans HG2.out hg)
  clear hg HM2 HG2
  go_wp2_with fail
  refine (bits_of _ _ _ _ L true HL.out HB.out _).mono ?_; rintro e w4 ⟨rfl, hg⟩
  have HM4 := hid (HM3.out.kept0 hg)
  have HG4 := hid (grown_trans HG3.out hg)
  clear hg HM3 HG3
  go_wp2_with fail
  refine (write_of HM4.out _ 257 D (by rfl) (by omega)).mono ?_; rintro e w5 ⟨rfl, hM, hg⟩
  have HM5 := hid hM
  have HG5 := hid (grown_new' (grown_trans (grown_none HG4.out) hg) (fun k hk => by obtain rfl := Option.some.inj hk; exact Hb.out))
  clear hM hg HM4 HG4
  go_wp2_with fail
  refine (write_of HM5.out _ L (16 + Q) (by omega) (by omega)).mono ?_; rintro e w6 ⟨rfl, hM, hg⟩
  have HM6 : Hid (MemAt w6 m b 20 20 (oneT D Q L)) := hid hM
  have HG6 := hid (grown_new' (grown_trans (grown_none HG5.out) hg) (fun k hk => by obtain rfl := Option.some.inj hk; exact Hb.out))
  clear hM hg HM5 HG5
  go_wp2_with fail
  refine (walk20 HM6.out Hu.out A hA0 hA2 true true V1 true HB1.out HV1.out).mono ?_; rintro e w7 ⟨rfl, hg⟩
  have HM7 := hid (HM6.out.kept0 hg)
  have HG7 := hid (grown_trans HG6.out hg)
  clear hg HM6 HG6
  go_wp2_with fail
  refine (write_of HM7.out _ N (16 + Q) (by omega) (by omega)).mono ?_; rintro e w8 ⟨rfl, hM, hg⟩
  rw [oneT_bent] at hM
  have HM8 := hid hM
  have HG8 := hid (grown_new' (grown_trans (grown_none HG7.out) hg) (fun k hk => by obtain rfl := Option.some.inj hk; exact Hb.out))
  clear hM hg HM7 HG7
  go_wp2_with fail
  refine (walk20 HM8.out HuN.out A hA0 hA2 true true V2 Y HB2.out HV2.out).mono ?_; rintro e w9 ⟨rfl, hg⟩
  have HM9 := hid (HM8.out.kept0 hg)
  have HG9 := hid (grown_trans HG8.out hg)
  clear hg HM8 HG8
  go_wp2_with fail
  refine (rof_of N G T X U C hN0 hN1 HG.out HT.out HX.out HU.out HC.out _).mono ?_; rintro e w10 ⟨rfl, hg⟩
  have HM10 : ∀ o, Hid (MemAt (w10.alloc o) m b 20 20 (oneT D Q N)) := fun o => hid ((HM9.out.kept0 hg).kept0 (World.grownBy_alloc w10 o none))
  have HG10 : ∀ o, Hid (w.grownBy (w10.alloc o) none) := fun o => hid (grown_alloc (grown_trans HG9.out hg) o)
  clear hg HM9 HG9
  have ww := want_ways C T X U r
  rw [HY.out] at ww
  clear HB2 HV2 HG HT HX HU HC HY
  rcases ww with ⟨rfl, rfl⟩ | ⟨rfl, rfl, rfl⟩ | ⟨rfl, rfl, rfl, rfl⟩ | ⟨rfl, rfl, rfl, rfl, rfl⟩ | ⟨rfl, rfl, rfl, rfl, rfl, rfl⟩ | ⟨rfl, rfl, rfl, rfl, rfl, rfl⟩
  all_goals
    have hrr := Hr.out
    clear Hr
    go_wp2_with fail
    refine (write_of (HM10 _).out _ L (16 + Q) (by omega) (by omega)).mono ?_; rintro e w11 ⟨rfl, hM, hg⟩
    have HM11 := hid hM
    have HG11 := hid (grown_new' (grown_trans (grown_none (HG10 _).out) hg) (fun k hk => by obtain rfl := Option.some.inj hk; exact Hb.out))
    clear hM hg HM10 HG10
    go_wp2_with fail
    refine (write_of HM11.out _ 0 D (by rfl) (by omega)).mono ?_; rintro e w12 ⟨rfl, hM, hg⟩
    rw [HE.out] at hM
    have HM12 := hid hM
    have HG12 := hid (grown_new' (grown_trans (grown_none HG11.out) hg) (fun k hk => by obtain rfl := Option.some.inj hk; exact Hb.out))
    clear hM hg HM11 HG11
    go_wp2_with fail
    refine (walk20 HM12.out HuE.out A hA0 hA2 false false V3 false HB3.out HV3.out).mono ?_; rintro e w13 ⟨rfl, hg⟩
    have HG13 := hid (grown_trans HG12.out hg)
    clear hg HM12 HG12
    go_wp2
    go_ret
    exact ⟨rfl, grown_below HG13.out⟩
end Go.Proofs.YthjbbkhnfemikaaDoor
