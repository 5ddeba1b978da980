/- The law RelaxMany: walked. -/
import Derived.Test.YtmhkghkfpkekbaaRFar
namespace Go.Proofs.Ytmhkghkfpkekbaa
open Go.RowKit
def zI : RIt := ⟨0, 0, false⟩
theorem made3 (N : Nat) : (madeCells #[.int .i64 0, .int .i64 0, .bool false] (N * 3)).toList = itsC (List.replicate N zI) := by
  apply List.ext_getElem?
  intro j
  by_cases h : j < N * 3
  · obtain ⟨k, i, hi, rfl⟩ : ∃ k i, i < 3 ∧ j = k * 3 + i := ⟨j / 3, j % 3, Nat.mod_lt _ (by decide), by omega⟩
    rw [itsC_get _ k i zI (by rw [List.getElem?_replicate, if_pos (by omega)]) hi]
    have h2 : (madeCells #[Value.int .i64 0, .int .i64 0, .bool false] (N * 3)).toList[k * 3 + i]? = some (#[Value.int .i64 0, .int .i64 0, .bool false][(k * 3 + i) % 3]!) := by
      simp [madeCells, h]
    rw [h2, show (k * 3 + i) % 3 = i by omega]
    match i, hi with
    | 0, _ => rfl
    | 1, _ => rfl
    | 2, _ => rfl
  · rw [List.getElem?_eq_none (by simp [madeCells]; omega), List.getElem?_eq_none (by rw [itsC_length, List.length_replicate]; omega)]
theorem rep_ok (N : Nat) : okR (List.replicate N zI) = true := by
  unfold okR
  refine List.all_eq_true.2 fun r hr => ?_
  obtain rfl := List.eq_of_mem_replicate hr
  simp [okRI, zI]
theorem rep_valid (N : Nat) : validR (List.replicate N zI) = decide (N ≤ 4096) := by
  unfold validR
  rw [rep_ok, Bool.and_true, List.length_replicate]
theorem rep_rnd (N : Nat) : RndR (List.replicate N zI) 0 := none_far (fun k => by
  unfold isBr
  rw [List.getElem?_replicate]
  by_cases h : k < N
  · rw [if_pos h]; rfl
  · rw [if_neg h])
theorem rep_ri {w : World} {base g N : Nat} (h : w.ownsRow base 29 3 (.slice (some ⟨g, 0, none⟩) N N) N (itsC (List.replicate N zI))) : RiAt w (.slice (some ⟨g, 0, none⟩) N N) (List.replicate N zI) := by
  have := CsAt.own h
  unfold RiAt
  rw [List.length_replicate]
  exact this
theorem rep_two {w : World} {base g N : Nat} (h : w.ownsRow base 29 3 (.slice (some ⟨g, 0, none⟩) N N) N (itsC (List.replicate N zI))) (hN : 2 ≤ N) : RiAt w (.slice (some ⟨g, 0, none⟩) 2 N) [zI, zI] := by
  refine .inr ⟨g, 0, N, rfl, hN, (h.lt g rfl).2, fun j u hu => ?_⟩
  obtain ⟨k, i, a, rfl, hk, hia⟩ := itsC_at _ j u hu
  have hk2 : k < 2 := (List.getElem?_eq_some_iff.1 hk).1
  have ha : a = zI := by
    match k, hk2 with
    | 0, _ => exact (Option.some.inj hk).symm
    | 1, _ => exact (Option.some.inj hk).symm
  subst ha
  have hi3 : i < 3 := (List.getElem?_eq_some_iff.1 hia).1
  rw [Nat.zero_add, h.cellAt (k * 3 + i) (by omega), itsC_get _ k i zI (by rw [List.getElem?_replicate, if_pos (by omega)]) hi3]
  exact hia
/-- items that the law has laid itself -/
theorem lit_ri {w : World} {b : Nat} {l : List RIt} (h : w.heap[b]? = some (.cells (itsC l).toArray 29 (0, 0))) : RiAt w (.slice (some ⟨b, 0, none⟩) l.length l.length) l := by
  refine .inr ⟨b, 0, l.length, rfl, Nat.le_refl _, (Array.getElem?_eq_some_iff.1 h).1, fun j u hu => ?_⟩
  rw [Nat.zero_add, cell_of_row _ _ j _ _ _ h]
  simpa using hu
theorem lit_bl {w : World} {b : Nat} {l : List Bool} (h : w.heap[b]? = some (.cells (l.map Value.bool).toArray 4 (0, 0))) : BlAt w (.slice (some ⟨b, 0, none⟩) l.length l.length) l := by
  refine .inr ⟨b, 0, l.length, rfl, Nat.le_refl _, (Array.getElem?_eq_some_iff.1 h).1, fun j u hu => ?_⟩
  rw [Nat.zero_add, cell_of_row _ _ j _ _ _ h]
  simpa using hu
def badI : Nat → RIt
  | 0 => ⟨-1, 0, false⟩
  | 1 => ⟨2049, 0, false⟩
  | 2 => ⟨0, 2, true⟩
  | _ => ⟨0, -1, true⟩
theorem bad_no (k : Nat) : validR [badI k] = false := by
  match k with
  | 0 => decide
  | 1 => decide
  | 2 => decide
  | _ + 3 => exact (show validR [⟨0, -1, true⟩] = false by decide)
set_option maxRecDepth 100000 in
set_option maxHeartbeats 8000000 in
theorem many_walk (p q : Int) (W : World) (hp0 : -9223372036854775808 ≤ p) (hp1 : p ≤ 9223372036854775807) (hq0 : -9223372036854775808 ≤ q) (hq1 : q ≤ 9223372036854775807) :
    Calls Try.prog 8 #[.int .i64 p, .int .i64 q] W fun e W' => e = .returned (.bool true) ∧ Below W.heap.size W W' := by
  have Hp := hid (And.intro hp0 hp1)
  have Hq := hid (And.intro hq0 hq1)
  clear hp0 hp1 hq0 hq1
  obtain ⟨i, hi, hz0, hz1, hz2⟩ := info_itemR
  have Hi := hid hi
  have Hz0 := hid hz0
  have Hz1 := hid hz1
  have Hz2 := hid hz2
  clear hi hz0 hz1 hz2
  go_enter Try.func8, Try.ntmps8
  go_wp2_with fail
  refine (first12_any _).mono ?_
  rintro e w1 ⟨rfl, hg⟩
  have HG1 := hid hg
  clear hg
  go_wp2_with fail
  refine (number_any p 4 (by decide) (by decide) Hp.out.1 Hp.out.2 _).mono ?_
  rintro e w2 ⟨rfl, rfl⟩
  obtain ⟨K, hK⟩ : ∃ K, numB p 4 = K := ⟨_, rfl⟩
  have hK8 : K < 4 := by rw [← hK]; exact numB_lt p (by decide)
  rw [hK]
  obtain ⟨N, hN⟩ : ∃ N, K + 4094 = N := ⟨_, rfl⟩
  have kN : (K : Int) + 4094 = (N : Int) := by omega
  have hw := wrap_i64_id (n := (N : Int)) (by omega) (by omega)
  have HNb : Hid (4094 ≤ N ∧ N ≤ 4097) := hid (by omega)
  have N0 : (4094 : Int) ≤ (N : Int) := by omega
  have N1 : (N : Int) ≤ 4097 := by omega
  have K0 : (0 : Int) ≤ (K : Int) := by omega
  have K1 : (K : Int) < 4 := by omega
  clear hK hK8 hN
  go_wp2_with (first
    | (refine wpList_make_full _ rfl _ _ 22 rfl W.heap.size 29 i _ 3 Try.underlying22 Hi.out Hz0.out Hz1.out .i64 .i64 _ _ N rfl rfl (by first | rfl | omega) (by first | rfl | omega) (by rw [Hz2.out]; have := HNb.out; omega) (by have := HNb.out; unfold maxLen; omega) HG1.out.size ?_
       intro w3 hmk hgr
       rw [show (Value.agg #[Value.int .i64 0, .int .i64 0, .bool false]).cells = #[.int .i64 0, .int .i64 0, .bool false] from rfl, made3] at hmk
       have HI : Hid (ItW W w3 (.slice (some ⟨w1.heap.size, 0, none⟩) N N) N (List.replicate N zI)) := hid ⟨grown_trans HG1.out hgr, hmk⟩
       clear hmk hgr)
    | fail)
  obtain ⟨g, hg⟩ : ∃ g, w1.heap.size = g := ⟨_, rfl⟩
  rw [hg] at HI ⊢
  clear hg HG1
  obtain ⟨d, hd⟩ : ∃ d, decide (N ≤ 4096) = d := ⟨_, rfl⟩
  have d1 : decide ((N : Int) ≤ 4096) = d := by rw [← hd]; exact decide_eq_decide.2 (by omega)
  have HDo : Hid (Calls Try.prog 10 #[.slice (some ⟨g, 0, none⟩) N N] w3 fun e w' => ∃ a r, e = .returned (.tuple #[a, r, .bool d]) ∧ w3.grownBy w' none) := hid (by
    cases d with
    | true =>
      refine (do_yesR (K := 0) (rep_ri HI.out.own) (by rw [rep_valid, hd]) (rep_rnd N)).mono ?_
      rintro e w' ⟨g, rfl, _, hg⟩
      exact ⟨_, _, rfl, hg⟩
    | false =>
      refine (do_noR (rep_ri HI.out.own) (by rw [List.length_replicate]; have := HNb.out; omega) (by rw [rep_valid, hd])).mono ?_
      rintro e w' ⟨rfl, hg⟩
      exact ⟨_, _, rfl, hg⟩)
  clear hd
  refine HDo.out.mono ?_
  rintro e w4 ⟨a4, r4, rfl, hg⟩
  have HI4 := hid (HI.out.kept0 hg)
  clear hg HI HDo
  have al := World.grownBy_alloc w4 (.cells #[.int .i64 (-1), .int .i64 0, .bool false, .int .i64 2049, .int .i64 0, .bool false, .int .i64 0, .int .i64 2, .bool true, .int .i64 0, .int .i64 (-1), .bool true] 29) none
  have HI5 := hid (HI4.out.kept0 al)
  have HB := hid (RwAt.new w4 29 #[.int .i64 (-1), .int .i64 0, .bool false, .int .i64 2049, .int .i64 0, .bool false, .int .i64 0, .int .i64 2, .bool true, .int .i64 0, .int .i64 (-1), .bool true])
  clear al HI4
  go_upto_region 8 with (fail)
  obtain ⟨b, hb⟩ : ∃ b, w4.heap.size = b := ⟨_, rfl⟩
  rw [hb] at HB ⊢
  clear hb
  generalize w4.alloc (.cells #[.int .i64 (-1), .int .i64 0, .bool false, .int .i64 2049, .int .i64 0, .bool false, .int .i64 0, .int .i64 2, .bool true, .int .i64 0, .int .i64 (-1), .bool true] 29) = w5 at HB HI5 ⊢
  go_wp2_with fail
  refine (number_any q 4 (by decide) (by decide) Hq.out.1 Hq.out.2 _).mono ?_
  rintro e w6 ⟨rfl, rfl⟩
  obtain ⟨Z, hZ⟩ : ∃ Z, numB q 4 = Z := ⟨_, rfl⟩
  have hZ4 : Z < 4 := by rw [← hZ]; exact numB_lt q (by decide)
  rw [hZ]
  clear hZ
  have Z0 : (0 : Int) ≤ (Z : Int) := by omega
  have Z1 : (Z : Int) < 4 := by omega
  obtain ⟨s, t, br, hzi⟩ : ∃ s t br, badI Z = ⟨s, t, br⟩ := ⟨_, _, _, rfl⟩
  have hcz : w5.cell? ⟨b, Z * 3, none⟩ = some (.int .i64 s) ∧ w5.cell? ⟨b, Z * 3 + 1, none⟩ = some (.int .i64 t) ∧ w5.cell? ⟨b, Z * 3 + 2, none⟩ = some (.bool br) := by
    rcases (by omega : Z = 0 ∨ Z = 1 ∨ Z = 2 ∨ Z = 3) with rfl | rfl | rfl | rfl <;> (obtain ⟨rfl, rfl, rfl⟩ : _ ∧ _ ∧ _ := by simpa [badI] using hzi) <;> exact ⟨HB.out.cell _ rfl, HB.out.cell _ rfl, HB.out.cell _ rfl⟩
  obtain ⟨z0, z1, z2⟩ := hcz
  have hbad := bad_no Z
  rw [hzi] at hbad
  have al := World.grownBy_alloc w5 (.cells #[.int .i64 s, .int .i64 t, .bool br] 29) none
  have HI6 := hid (HI5.out.kept0 al)
  have HD6 := hid (do_noR (lit_ri (l := [⟨s, t, br⟩]) (heap_alloc_last w5 _)) (by simp) hbad)
  clear al hbad hzi hZ4 HI5 HB
  go_wp2_with fail
  refine HD6.out.mono ?_
  rintro e w7 ⟨rfl, hg⟩
  have HI7 := hid (HI6.out.kept0 hg)
  clear hg HI6 HD6 z0 z1 z2
  have al := World.grownBy_alloc w7 (.cells #[.int .i64 2048, .int .i64 0, .bool false, .int .i64 1, .int .i64 2, .bool true, .int .i64 0, .int .i64 (-5), .bool false] 29) none
  have HI8 := hid (HI7.out.kept0 al)
  have HD8 := hid (do_yesR (K := 0) (lit_ri (l := [⟨2048, 0, false⟩, ⟨1, 2, true⟩, ⟨0, -5, false⟩]) (heap_alloc_last w7 _)) (by decide) (rndB_ok (by decide)))
  clear al HI7
  go_wp2_with fail
  refine HD8.out.mono ?_
  rintro e w9 ⟨g9, rfl, _, hg⟩
  have HI9 := hid (HI8.out.kept0 hg)
  clear hg HI8 HD8
  have al := World.grownBy_alloc w9 (.cells #[.bool true, .bool false] 4) none
  have HI10 := hid (HI9.out.kept0 al)
  have HPl := hid (places_rel (rep_two HI10.out.own (by have := HNb.out; omega)) (lit_bl (l := [true, false]) (heap_alloc_last w9 _)) rfl (by decide) (by decide))
  have d2 : (d == d) = true := by cases d <;> rfl
  clear al HI9
  go_wp2_with fail
  refine HPl.out.mono ?_
  rintro e w11 ⟨g11, rfl, ho, hg⟩
  have HI11 := hid (HI10.out.kept0 hg)
  have al := World.grownBy_alloc w11 (.cells #[.int .i64 0, .int .i64 1, .int .i64 1] 3) none
  have HI12 := hid (HI11.out.kept0 al)
  have hs1 : SlAt _ .i64 _ _ := SlAt.own ho
  have HSa := hid (hs1.kept0 al)
  have HSb : Hid (SlAt (w11.alloc (.cells #[.int .i64 0, .int .i64 1, .int .i64 1] 3)) .i64 (.slice (some ⟨w11.heap.size, 0, none⟩) 3 3) [0, 1, 1]) := hid (SlAt.whole (xs := [0, 1, 1]) (heap_alloc_last w11 _))
  clear al hg ho hs1 HPl HI10 HI11
  go_wp2_with fail
  refine (si_any HSa.out HSb.out (by decide) (by decide) true (by decide)).mono ?_
  rintro e w13 ⟨rfl, hg⟩
  have HI13 := hid (HI12.out.kept0 hg)
  have al := World.grownBy_alloc w13 (.cells #[.bool true] 4) none
  have HG14 := hid (HI13.out.kept0 al).gr
  clear hg al HSa HSb HI12 HI13
  go_wp2_with fail
  refine (places_nil (by decide) (by decide) (by decide)).mono ?_
  rintro e w15 ⟨rfl, hg⟩
  have HG15 := hid (grown_trans HG14.out hg)
  clear hg
  go_wp2
  go_ret
  exact ⟨rfl, grown_below HG15.out⟩
end Go.Proofs.Ytmhkghkfpkekbaa
