/- The walk of the law WalkShares. -/
import Derived.Test.YthjbbkhnfemikaaDoorWPlaces
namespace Go.Proofs.YthjbbkhnfemikaaDoor
open Go.RowKit
/-- two entries of the first level, two of the second -/
def twoT (a b p q : Nat) (L : Int) : List Int := ((((List.replicate 320 (0 : Int)).set a 257).set b 257).set (16 + p) L).set (16 + q) L
theorem twoT_u32 {a b p q : Nat} {L : Int} (h0 : 0 ≤ L) (h1 : L < 4294967296) : U32s (twoT a b p q L) := (((zeros_u32.set a (by omega) (by omega)).set b (by omega) (by omega)).set _ h0 h1).set _ h0 h1
theorem twoT_first {a b p q j : Nat} {L : Int} (hj : j < 16) (h : j = a ∨ j = b) : (twoT a b p q L)[j]? = some 257 := by
  unfold twoT
  refine set_miss (by omega) (set_miss (by omega) ?_)
  by_cases e : j = b
  · subst e; exact set_hit (by rw [List.length_set, List.length_replicate]; omega)
  · have e2 : j = a := by omega
    subst e2
    exact set_miss (fun h => e h.symm) (set_hit (by rw [List.length_replicate]; omega))
theorem twoT_second {a b p q j : Nat} {L : Int} (hj : j < 16) (h : j = p ∨ j = q) : (twoT a b p q L)[16 + j]? = some L := by
  unfold twoT
  by_cases e : j = q
  · subst e; exact set_hit (by rw [List.length_set, List.length_set, List.length_set, List.length_replicate]; omega)
  · have e2 : j = p := by omega
    subst e2
    exact set_miss (by omega) (set_hit (by rw [List.length_set, List.length_set, List.length_replicate]; omega))
theorem twoT_page {a b p q D Q : Nat} {L : Int} {P : Int} (hD : D < 16) (hQ : Q < 16) (hd : D = a ∨ D = b) (hq : Q = p ∨ Q = q) (hP : P = ((16 * D + Q : Nat) : Int)) : pageO (twoT a b p q L) 20 0 P = liveO L := by
  subst hP
  have e1 : (16 * D + Q) / 16 = D := by omega
  have e2 : (16 * D + Q) % 16 = Q := by omega
  exact pageO_hit (by omega) (by rw [e1]; exact twoT_first hD hd) (by rw [e2]; exact twoT_second hQ hq)
theorem way_live {L K : Int} {x u write user : Bool} (h : LowAt L K x u) (hK : K < 20) (A : Int) : wayB (liveO L) 20 write user = ((!write || x) && (!user || u)) ∧ (((!write || x) && (!user || u)) = true → wayV (liveO L) 20 A write user = 16 * K + A % 16) := by
  have hf := h.frame
  have hn : L / 256 < 20 := by omega
  rw [h.live]
  refine ⟨way_some h.w h.u hn, fun hb => ?_⟩
  unfold wayV
  rw [way_some h.w h.u hn, if_pos hb]
  show L / 256 * 16 + A % 16 = _
  omega
set_option maxRecDepth 100000 in
set_option maxHeartbeats 8000000 in
theorem shares_walk (a' b' p' q' frame : Int) (w : World) (a0 : -9223372036854775808 ≤ a') (a1 : a' ≤ 9223372036854775807) (b0 : -9223372036854775808 ≤ b') (b1 : b' ≤ 9223372036854775807) (p0 : -9223372036854775808 ≤ p') (p1 : p' ≤ 9223372036854775807) (q0 : -9223372036854775808 ≤ q') (q1 : q' ≤ 9223372036854775807) (f0 : -9223372036854775808 ≤ frame) (f1 : frame ≤ 9223372036854775807) :
    Calls Tryd.prog 3 #[.int .i64 a', .int .i64 b', .int .i64 p', .int .i64 q', .int .i64 frame] w fun e w' => e = .returned (.bool true) ∧ Below w.heap.size w w' := by
  obtain ⟨a, HA, hA⟩ : ∃ P, Hid (numB a' 16 = P) ∧ P < 16 := ⟨_, hid rfl, numB_lt _ (by omega)⟩
  obtain ⟨b, HB, hB⟩ : ∃ P, Hid (numB b' 16 = P) ∧ P < 16 := ⟨_, hid rfl, numB_lt _ (by omega)⟩
  obtain ⟨p, HP, hP⟩ : ∃ P, Hid (numB p' 16 = P) ∧ P < 16 := ⟨_, hid rfl, numB_lt _ (by omega)⟩
  obtain ⟨q, HQ, hQ⟩ : ∃ P, Hid (numB q' 16 = P) ∧ P < 16 := ⟨_, hid rfl, numB_lt _ (by omega)⟩
  obtain ⟨F, HF, hF⟩ : ∃ F, Hid (numB frame 18 = F) ∧ F < 18 := ⟨_, hid rfl, numB_lt _ (by omega)⟩
  obtain ⟨K, hK, hK2⟩ : ∃ K : Nat, (F : Int) + 2 = (K : Int) ∧ K < 20 := ⟨F + 2, by omega, by omega⟩
  obtain ⟨L, HL⟩ : ∃ L, Hid (bitV (K : Int) true true false = L) := ⟨_, hid rfl⟩
  have HLb : Hid (bitB (K : Int) true true false = true) := hid (by unfold bitB; simp; omega)
  have hlow := low_at (K := (K : Int)) (x := true) (u := false) (by omega) (by omega)
  rw [HL.out] at hlow
  have Hu : Hid (U32s (twoT a b p q L)) := hid (twoT_u32 hlow.lo (by have := hlow.hi; omega))
  -- the sums, each by a name
  obtain ⟨ga, ha2, Ha2⟩ : ∃ g : Nat, 256 * (a : Int) = (g : Int) ∧ Hid (g = 256 * a) := ⟨256 * a, by omega, hid rfl⟩
  obtain ⟨gp, hp2, Hp2⟩ : ∃ g : Nat, 16 * (p : Int) = (g : Int) ∧ Hid (g = 16 * p) := ⟨16 * p, by omega, hid rfl⟩
  obtain ⟨s1, hs1, Hs1⟩ : ∃ g : Nat, (ga : Int) + (gp : Int) = (g : Int) ∧ Hid (g = 256 * a + 16 * p) := ⟨256 * a + 16 * p, by have := Ha2.out; have := Hp2.out; omega, hid rfl⟩
  obtain ⟨A, hA1, HA1⟩ : ∃ g : Nat, (s1 : Int) + 3 = (g : Int) ∧ Hid (g = 256 * a + 16 * p + 3) := ⟨256 * a + 16 * p + 3, by have := Hs1.out; omega, hid rfl⟩
  obtain ⟨gb, hb2, Hb2⟩ : ∃ g : Nat, 256 * (b : Int) = (g : Int) ∧ Hid (g = 256 * b) := ⟨256 * b, by omega, hid rfl⟩
  obtain ⟨gq, hq2, Hq2⟩ : ∃ g : Nat, 16 * (q : Int) = (g : Int) ∧ Hid (g = 16 * q) := ⟨16 * q, by omega, hid rfl⟩
  obtain ⟨s2, hs2, Hs2⟩ : ∃ g : Nat, (gb : Int) + (gq : Int) = (g : Int) ∧ Hid (g = 256 * b + 16 * q) := ⟨256 * b + 16 * q, by have := Hb2.out; have := Hq2.out; omega, hid rfl⟩
  obtain ⟨B, hB1, HB1⟩ : ∃ g : Nat, (s2 : Int) + 3 = (g : Int) ∧ Hid (g = 256 * b + 16 * q + 3) := ⟨256 * b + 16 * q + 3, by have := Hs2.out; omega, hid rfl⟩
  obtain ⟨gc, hc2, Hc2⟩ : ∃ g : Nat, 16 * (b : Int) = (g : Int) ∧ Hid (g = 16 * b) := ⟨16 * b, by omega, hid rfl⟩
  obtain ⟨s3, hs3, Hs3⟩ : ∃ g : Nat, (gc : Int) + (p : Int) = (g : Int) ∧ Hid (g = 16 * b + p) := ⟨16 * b + p, by have := Hc2.out; omega, hid rfl⟩
  obtain ⟨M, hM1, HM1⟩ : ∃ g : Nat, 16 * (K : Int) = (g : Int) ∧ Hid (g = 16 * K) := ⟨16 * K, by omega, hid rfl⟩
  obtain ⟨Z, hZ1, HZ1⟩ : ∃ g : Nat, (M : Int) + 3 = (g : Int) ∧ Hid (g = 16 * K + 3) := ⟨16 * K + 3, by have := HM1.out; omega, hid rfl⟩
  have bA : (A : Int) < 4294967296 ∧ (0 : Int) ≤ (A : Int) := by have := HA1.out; omega
  have bB : (B : Int) < 4294967296 ∧ (0 : Int) ≤ (B : Int) := by have := HB1.out; omega
  have b3 : (s1 : Int) < 4294967296 ∧ (s2 : Int) < 4294967296 := by have := Hs1.out; have := Hs2.out; omega
  obtain ⟨bA, bA0⟩ := bA
  obtain ⟨bB, bB0⟩ := bB
  -- the ways
  have eA := twoT_page (a := a) (b := b) (p := p) (q := q) (L := L) (P := (A : Int) / 16) hA hP (.inl rfl) (.inl rfl) (by have := HA1.out; omega)
  have eB := twoT_page (a := a) (b := b) (p := p) (q := q) (L := L) (P := (B : Int) / 16) hB hQ (.inr rfl) (.inr rfl) (by have := HB1.out; omega)
  have eC := twoT_page (a := a) (b := b) (p := p) (q := q) (L := L) (P := (s3 : Int)) hB hP (.inr rfl) (.inl rfl) (by have := Hs3.out; omega)
  have k1 := way_live (write := true) (user := false) hlow (by omega) (A : Int)
  have k2 := way_live (write := false) (user := false) hlow (by omega) (B : Int)
  have k3 := way_live (write := false) (user := true) hlow (by omega) (A : Int)
  rw [← eA] at k1 k3
  rw [← eB] at k2
  have W1 : Hid (wayB (pageO (twoT a b p q L) 20 0 ((A : Int) / 16)) 20 true false = true ∧ wayV (pageO (twoT a b p q L) 20 0 ((A : Int) / 16)) 20 (A : Int) true false = (Z : Int)) := hid ⟨k1.1, (k1.2 rfl).trans (by have := HA1.out; have := HZ1.out; omega)⟩
  have W2 : Hid (wayB (pageO (twoT a b p q L) 20 0 ((B : Int) / 16)) 20 false false = true ∧ wayV (pageO (twoT a b p q L) 20 0 ((B : Int) / 16)) 20 (B : Int) false false = (Z : Int)) := hid ⟨k2.1, (k2.2 rfl).trans (by have := HB1.out; have := HZ1.out; omega)⟩
  have W3 : Hid (wayB (pageO (twoT a b p q L) 20 0 ((A : Int) / 16)) 20 false true = false) := hid k3.1
  have W4 : Hid (oF (pageO (twoT a b p q L) 20 0 (s3 : Int)) = (K : Int) ∧ oT (pageO (twoT a b p q L) 20 0 (s3 : Int)) = true ∧ oW (pageO (twoT a b p q L) 20 0 (s3 : Int)) = true ∧ oU (pageO (twoT a b p q L) 20 0 (s3 : Int)) = false) := hid (by
    have hl := pageO_live (eC.trans hlow.live)
    rw [eC, hlow.live]
    exact ⟨hlow.frame, tB_live hl, hlow.w, hlow.u⟩)
  clear eA eB eC k1 k2 k3 hlow hF
  go_enter Tryd.func3, Tryd.ntmps3
  go_wp2_with fail
  refine (first3_any _).mono ?_; rintro e w1 ⟨rfl, hg⟩
  have HG1 := hid hg; clear hg
  go_wp2_with fail
  refine (number_of a' 16 16 a rfl HA.out (by omega) (by omega) a0 a1).mono ?_; rintro e w' ⟨rfl, rfl⟩
  go_wp2_with fail
  refine (number_of b' 16 16 b rfl HB.out (by omega) (by omega) b0 b1).mono ?_; rintro e w' ⟨rfl, rfl⟩
  go_wp2_with fail
  refine (number_of p' 16 16 p rfl HP.out (by omega) (by omega) p0 p1).mono ?_; rintro e w' ⟨rfl, rfl⟩
  go_wp2_with fail
  refine (number_of q' 16 16 q rfl HQ.out (by omega) (by omega) q0 q1).mono ?_; rintro e w' ⟨rfl, rfl⟩
  go_wp2_with fail
  refine (number_of frame 18 18 F rfl HF.out (by omega) (by omega) f0 f1).mono ?_; rintro e w' ⟨rfl, rfl⟩
  go_wp2_with fail
  refine (memory_nil _).mono ?_; rintro e w2 ⟨m, mb, m', b'', rfl, hm, hb, hM, hR, hg⟩
  have HM2 := hid hM
  have HG2 := hid (grown_trans HG1.out hg)
  have Hb := hid (Nat.le_trans HG1.out.size hb)
  clear hM hR hg hm hb HG1
  go_wp2_with fail
  refine (bits_of 1 true false false 257 true (by decide) (by decide) _).mono ?_; rintro e w3 ⟨rfl, hg⟩
  have HM3 := hid (HM2.out.kept0 hg)
  have HG3 := hid (grown_trans HG2.out hg)
  clear hg HM2 HG2
  go_wp2_with fail
  refine (bits_of _ _ _ _ L true HL.out HLb.out _).mono ?_; rintro e w4 ⟨rfl, hg⟩
  have HM4 := hid (HM3.out.kept0 hg)
  have HG4 := hid (grown_trans HG3.out hg)
  clear hg HM3 HG3
  go_wp2_with fail
  refine (write_of HM4.out _ 257 a (by rfl) (by omega)).mono ?_; rintro e w5 ⟨rfl, hM, hg⟩
  have HM5 := hid hM
  have HG5 := hid (grown_new' (grown_trans (grown_none HG4.out) hg) (fun k hk => by obtain rfl := Option.some.inj hk; exact Hb.out))
  clear hM hg HM4 HG4
  go_wp2_with fail
  refine (write_of HM5.out _ 257 b (by rfl) (by omega)).mono ?_; rintro e w6 ⟨rfl, hM, hg⟩
  have HM6 := hid hM
  have HG6 := hid (grown_new' (grown_trans (grown_none HG5.out) hg) (fun k hk => by obtain rfl := Option.some.inj hk; exact Hb.out))
  clear hM hg HM5 HG5
  go_wp2_with fail
  refine (write_of HM6.out _ L (16 + p) (by omega) (by omega)).mono ?_; rintro e w7 ⟨rfl, hM, hg⟩
  have HM7 := hid hM
  have HG7 := hid (grown_new' (grown_trans (grown_none HG6.out) hg) (fun k hk => by obtain rfl := Option.some.inj hk; exact Hb.out))
  clear hM hg HM6 HG6
  go_wp2_with fail
  refine (write_of HM7.out _ L (16 + q) (by omega) (by omega)).mono ?_; rintro e w8 ⟨rfl, hM, hg⟩
  have HM8 : Hid (MemAt w8 m mb 20 20 (twoT a b p q L)) := hid hM
  have HG8 := hid (grown_new' (grown_trans (grown_none HG7.out) hg) (fun k hk => by obtain rfl := Option.some.inj hk; exact Hb.out))
  clear hM hg HM7 HG7
  go_wp2_with fail
  refine (walk20 HM8.out Hu.out (A : Int) bA0 bA true false (Z : Int) true W1.out.1 W1.out.2).mono ?_; rintro e w9 ⟨rfl, hg⟩
  have HM9 := hid (HM8.out.kept0 hg)
  have HG9 := hid (grown_trans HG8.out hg)
  clear hg HM8 HG8
  go_wp2_with fail
  refine (walk20 HM9.out Hu.out (B : Int) bB0 bB false false (Z : Int) true W2.out.1 W2.out.2).mono ?_; rintro e w10 ⟨rfl, hg⟩
  have HM10 := hid (HM9.out.kept0 hg)
  have HG10 := hid (grown_trans HG9.out hg)
  clear hg HM9 HG9
  go_wp2_with fail
  refine (walk20 HM10.out Hu.out (A : Int) bA0 bA false true _ false W3.out rfl).mono ?_; rintro e w11 ⟨rfl, hg⟩
  have HM11 := hid (HM10.out.kept0 hg)
  have HG11 := hid (grown_trans HG10.out hg)
  clear hg HM10 HG10
  go_wp2_with fail
  refine (page20 HM11.out Hu.out (s3 : Int) (K : Int) true true false W4.out.1 W4.out.2.1 W4.out.2.2.1 W4.out.2.2.2).mono ?_; rintro e w12 ⟨rfl, hg⟩
  have HG12 := hid (grown_trans HG11.out hg)
  clear hg HM11 HG11
  go_wp2
  go_ret
  exact ⟨rfl, grown_below (grown_alloc HG12.out _)⟩
end Go.Proofs.YthjbbkhnfemikaaDoor
