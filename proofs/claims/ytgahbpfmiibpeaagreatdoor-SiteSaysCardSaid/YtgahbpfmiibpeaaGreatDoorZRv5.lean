/- The document's objects (facaderef9): symbols: contract. (Made by gorv5.py.) -/
import Derived.Test.YtgahbpfmiibpeaaGreatDoorZGRvS
import Derived.BigQuiet
import Derived.Deep.QuietTactic
namespace Go.Proofs.YtgahbpfmiibpeaaGreatDoor
open Go.RowKit
theorem zero_flt5 (w : World) : (zeroValue 31).run Tryz.prog w = .ok (.agg #[.int .i64 0, .bool false, .int .i64 0]) w := by kernel_rfl
theorem zero_sym5 (w : World) : (zeroValue 88).run Tryz.prog w = .ok (.agg #[.string ⟨#[]⟩, .int .i64 0, .int .i64 0, .bool false]) w := by kernel_rfl
/-- whether a name's length is amiss -/
def lenB (n : ByteArray) : Bool := decide (n.size = 0 ∨ 32 < n.size)
def lenI (n : ByteArray) : Int := if lenB n = true then 103 else 0
/-- behind j of the names -/
def nameI (x : PO) (k j : Nat) : Int := if lenB (symN x k).n = true then 103 else if twiceN x k j = true then 106 else 0
theorem nameI_all (x : PO) (k : Nat) : nameI x k k = badI (nameF x k) := by
  unfold nameI nameF
  by_cases h : (symN x k).n.size = 0 ∨ 32 < (symN x k).n.size
  · rw [if_pos h, if_pos (show lenB (symN x k).n = true by simpa [lenB] using h)]; rfl
  · rw [if_neg h, if_neg (show ¬ lenB (symN x k).n = true by simpa [lenB] using h)]
    by_cases h2 : twiceN x k k = true
    · rw [if_pos h2, if_pos h2]; rfl
    · rw [if_neg h2, if_neg h2]; rfl
theorem nameI_zero (x : PO) (k : Nat) : nameI x k 0 = lenI (symN x k).n := by
  unfold nameI lenI
  rw [twiceN_zero]; rfl
theorem nameI_stop {x : PO} {k j : Nat} (hj : j ≤ k) (h : nameI x k j ≠ 0) : nameI x k j = badI (nameF x k) := by
  rw [← nameI_all]
  unfold nameI at h ⊢
  split
  · rfl
  · rename_i h1
    rw [if_neg h1] at h
    by_cases h2 : twiceN x k j = true
    · rw [if_pos h2, if_pos (twiceN_mono h2 hj)]
    · rw [if_neg h2] at h
      exact absurd rfl h
theorem nameI_next {x : PO} {k j : Nat} {s : Sy} (hs : x.S[j]? = some s) (h : nameI x k j = 0) : nameI x k (j + 1) = if s.n = (symN x k).n then 106 else 0 := by
  unfold nameI at h ⊢
  split
  · rename_i h1; rw [if_pos h1] at h; cases h
  · rename_i h1
    rw [if_neg h1] at h
    have h2 : twiceN x k j = false := by
      cases e : twiceN x k j
      · rfl
      · rw [if_pos e] at h; cases h
    rw [twiceN_succ hs, h2]
    simp
set_option maxRecDepth 100000 in
set_option maxHeartbeats 16000000 in
theorem rsyms_any {W : World} {V : OV} {x : PO} (h : OAt W V x) (hf : OFit x) (hl : x.M.length = x.C.length) (hd : x.D.length ≤ 1000000) (hc : x.C.length ≤ 1000000) (hs : x.S.length ≤ 1000000) :
    Calls Tryz.prog 66 #[V.agg] W fun e w' => e = .returned (flV (scanV (symF x) x.S.length)) ∧ W.grownBy w' none := by
  obtain ⟨d, c, m, r, q, s⟩ := V
  obtain ⟨dp, dc, hdv⟩ := h.d.len'
  obtain ⟨cp, cc, hcv⟩ := h.c.len'
  obtain ⟨mp, mc, hmv⟩ := h.m.len'
  obtain ⟨sp, sc, hsv⟩ := h.s.len
  simp only at hdv hcv hmv hsv
  rw [hl] at hmv
  subst hdv; subst hcv; subst hmv; subst hsv
  obtain ⟨nD, hnD⟩ : ∃ n, x.D.length = n := ⟨_, rfl⟩
  obtain ⟨nC, hnC⟩ : ∃ n, x.C.length = n := ⟨_, rfl⟩
  obtain ⟨N, hN⟩ : ∃ n, x.S.length = n := ⟨_, rfl⟩
  rw [hnD, hnC, hN] at h
  rw [hnD] at hd
  rw [hnC] at hc hl
  rw [hN] at hs
  rw [hnD, hnC, hN]
  have HnD := hid hnD
  have HnC := hid hnC
  have HN := hid hN
  have Hl := hid hl
  have HO := hid h
  have HF := hid hf
  have HB0 := hid (RwAt.new W 27 #[.slice dp nD dc, .slice cp nC cc, .slice mp nC mc, r, q, .slice sp N sc])
  have n0 : (0 : Int) ≤ (N : Int) := by omega
  have n1 : (N : Int) ≤ 1000000 := by omega
  have d0 : (0 : Int) ≤ (nD : Int) := by omega
  have d1 : (nD : Int) ≤ 1000000 := by omega
  have s0 : (0 : Int) ≤ (nC : Int) := by omega
  have s1 : (nC : Int) ≤ 1000000 := by omega
  clear h hnD hnC hN hl hf hd hc hs
  have Hz := zero_flt5
  go_enter Tryz.func66, Tryz.ntmps66
  go_upto_region 1 with (fail)
  clear Hz
  have HRC : Hid (RCw W ((W.alloc (.cells #[.slice dp nD dc, .slice cp nC cc, .slice mp nC mc, r, q, .slice sp N sc] 27)).alloc (.cells #[.int .i64 0, .bool false, .int .i64 0] 31)) W.heap.size (W.heap.size + 1) ⟨.slice dp nD dc, .slice cp nC cc, .slice mp nC mc, r, q, .slice sp N sc⟩ (symF x) 0) := hid ⟨HB0.out.alloc _, RwAt.new2 _ _ _ _, grown_trans (World.grownBy_alloc _ _ none) (World.grownBy_alloc _ _ none), fun j hj => absurd hj (by omega)⟩
  obtain ⟨R, hR⟩ : ∃ R, W.heap.size + 1 = R := ⟨_, rfl⟩
  have HRb : Hid (W.heap.size ≤ R) := hid (by omega)
  obtain ⟨G, hG⟩ : ∃ G, W.heap.size = G := ⟨_, rfl⟩
  rw [hR, hG] at HRC
  clear HB0
  generalize (W.alloc (.cells #[.slice dp nD dc, .slice cp nC cc, .slice mp nC mc, r, q, .slice sp N sc] 27)).alloc (.cells #[.int .i64 0, .bool false, .int .i64 0] 31) = w1 at HRC ⊢
  try rw [hR]
  try rw [hG]
  clear hR hG
  go_wp2
  go_loopw [3] (fun i wr => ∃ k : Nat, k ≤ N ∧ i = .int .i64 k ∧ Hid (RCw W wr G R ⟨.slice dp nD dc, .slice cp nC cc, .slice mp nC mc, r, q, .slice sp N sc⟩ (symF x) k)) (fun i _ => N - (intOf i).toNat)
  case atStart => exact ⟨0, Nat.zero_le _, rfl, HRC⟩
  case round =>
    obtain ⟨k, hk, rfl, HR⟩ := hrel
    have k0 : (0 : Int) ≤ (k : Int) := by omega
    have e5 := HR.out.box.cell 5 (v := .slice sp N sc) rfl
    by_cases hlt : k < N
    · have kn : (k : Int) < (N : Int) := by omega
      have Hlt := hid hlt
      obtain ⟨⟨yn, yi, yv, yg⟩, hy⟩ : ∃ y, x.S[k]? = some y := ⟨_, List.getElem?_eq_getElem (by rw [HN.out]; exact hlt)⟩
      have Hy : Hid (symN x k = ⟨yn, yi, yv, yg⟩) := hid (by unfold symN; rw [List.getD_eq_getElem?_getD, hy]; rfl)
      obtain ⟨b, o, c', hv, -, hb, hc⟩ := (HO.out.kept0 HR.out.g).s.at_ (by rw [HN.out]; omega)
      simp only [Value.slice.injEq] at hv
      obtain ⟨rfl, -, -⟩ := hv
      have c0 : wr.cell? ⟨b, o + k * 4, none⟩ = some (.string yn) := hc (k * 4 + 0) _ (by rw [sysC_get x.S k 0 _ hy (by decide)]; rfl)
      have c1 : wr.cell? ⟨b, o + k * 4 + 1, none⟩ = some (.int .i64 yi) := hc (k * 4 + 1) _ (by rw [sysC_get x.S k 1 _ hy (by decide)]; rfl)
      have c2 : wr.cell? ⟨b, o + k * 4 + 2, none⟩ = some (.int .i64 yv) := hc (k * 4 + 2) _ (by rw [sysC_get x.S k 2 _ hy (by decide)]; rfl)
      have c3 : wr.cell? ⟨b, o + k * 4 + 3, none⟩ = some (.bool yg) := hc (k * 4 + 3) _ (by rw [sysC_get x.S k 3 _ hy (by decide)]; rfl)
      have al := World.grownBy_alloc wr (.cells #[.string yn, .int .i64 yi, .int .i64 yv, .bool yg] 88) none
      have HR2 := hid (HR.out.kept0 al)
      have HX := hid (RwAt.new wr 88 #[.string yn, .int .i64 yi, .int .i64 yv, .bool yg])
      clear hb hc hy hlt al HR
      have Hzr := zero_sym5
      go_upto_region 6 with (fail)
      clear c0 c1 c2 c3 e5 Hzr
      obtain ⟨X, hX⟩ : ∃ X, wr.heap.size = X := ⟨_, rfl⟩
      rw [hX] at HX ⊢
      clear hX
      generalize wr.alloc (.cells #[.string yn, .int .i64 yi, .int .i64 yv, .bool yg] 88) = w2 at HR2 HX ⊢
      obtain ⟨nb, hnb⟩ : ∃ nb, lenB yn = nb := ⟨_, rfl⟩
      have Hnb := hid hnb
      clear hnb
      go_cut [29] from 20 to 29 (fun u29 wz => u29 = .bool nb ∧ Hid (RCw W wz G R ⟨.slice dp nD dc, .slice cp nC cc, .slice mp nC mc, r, q, .slice (some ⟨b, o, none⟩) N sc⟩ (symF x) k ∧ RwAt wz X 88 #[.string yn, .int .i64 yi, .int .i64 yv, .bool yg]))
      case first =>
        have x0 := HX.out.cell 0 (v := .string yn) rfl
        by_cases h0 : yn.size = 0
        · have hnb : nb = true := by rw [← Hnb.out]; simp [lenB, h0]
          subst hnb
          go_wp2
          go_meet
          exact ⟨rfl, hid ⟨HR2.out, HX.out⟩⟩
        · have h0b : ((yn.size : Int) == 0) = false := by simp only [beq_eq_false_iff_ne]; omega
          have h0c : (yn.size == 0) = false := by simp only [beq_eq_false_iff_ne]; omega
          by_cases h32 : 32 < yn.size
          · have hnb : nb = true := by rw [← Hnb.out]; simp [lenB, h32]
            subst hnb
            have h32b : (32 : Int) < (yn.size : Int) := by omega
            go_wp2
            go_meet
            exact ⟨rfl, hid ⟨HR2.out, HX.out⟩⟩
          · have hnb : nb = false := by rw [← Hnb.out]; simp [lenB, h0, h32]
            subst hnb
            have h32b : decide ((32 : Int) < (yn.size : Int)) = false := by simp only [decide_eq_false_iff_not]; omega
            go_wp2
            go_meet
            exact ⟨rfl, hid ⟨HR2.out, HX.out⟩⟩
      case rest =>
        obtain ⟨rfl, HS1⟩ := hcut
        go_upto_if 29 with fail
        go_cut [5] from 5 to 6 (fun u5 wz => u5 = .int .i64 (lenI yn) ∧ Hid (RCw W wz G R ⟨.slice dp nD dc, .slice cp nC cc, .slice mp nC mc, r, q, .slice (some ⟨b, o, none⟩) N sc⟩ (symF x) k ∧ RwAt wz X 88 #[.string yn, .int .i64 yi, .int .i64 yv, .bool yg]))
        case first =>
          cases nb with
          | true =>
            have hL : lenI yn = 103 := by unfold lenI; rw [if_pos Hnb.out]
            go_wp2
            go_meet
            exact ⟨by rw [hL], HS1⟩
          | false =>
            have hL : lenI yn = 0 := by unfold lenI; rw [if_neg (by rw [Hnb.out]; simp)]
            go_wp2
            go_meet
            exact ⟨by rw [hL], HS1⟩
        case rest =>
          obtain ⟨rfl, HS2⟩ := hcut
          clear HS1 HR2 HX
          go_upto_block 2 with fail
          go_cut [5, 6] from 30 to 47 (fun u5 u6 wz => ∃ z : Int, u5 = .int .i64 z ∧ Hid (z = badI (nameF x k)) ∧ Hid (RCw W wz G R ⟨.slice dp nD dc, .slice cp nC cc, .slice mp nC mc, r, q, .slice (some ⟨b, o, none⟩) N sc⟩ (symF x) k ∧ RwAt wz X 88 #[.string yn, .int .i64 yi, .int .i64 yv, .bool yg]))
          case first =>
            go_wp2
            go_loopw [5, 6] (fun u5 u6 wz => ∃ j : Nat, j ≤ k ∧ u6 = .int .i64 j ∧ u5 = .int .i64 (nameI x k j) ∧ Hid (RCw W wz G R ⟨.slice dp nD dc, .slice cp nC cc, .slice mp nC mc, r, q, .slice (some ⟨b, o, none⟩) N sc⟩ (symF x) k ∧ RwAt wz X 88 #[.string yn, .int .i64 yi, .int .i64 yv, .bool yg])) (fun _ u6 _ => k - (intOf u6).toNat)
            case atStart => exact ⟨0, Nat.zero_le _, rfl, by rw [nameI_zero, Hy.out], HS2⟩
            case round =>
              obtain ⟨j, hj, rfl, rfl, HT⟩ := hrel
              have j0 : (0 : Int) ≤ (j : Int) := by omega
              obtain ⟨B, hB⟩ : ∃ B, nameI x k j = B := ⟨_, rfl⟩
              have HB := hid hB
              rw [hB]
              clear hB
              by_cases hjk : j < k
              · have jk : (j : Int) < (k : Int) := by omega
                have Hjk := hid hjk
                by_cases hB0 : B = 0
                · subst hB0
                  obtain ⟨⟨zn, zi, zv, zg⟩, hz⟩ : ∃ z, x.S[j]? = some z := ⟨_, List.getElem?_eq_getElem (by rw [HN.out]; have := Hlt.out; omega)⟩
                  obtain ⟨b', o', c', hv, -, hb, hc⟩ := (HO.out.kept0 HT.out.1.g).s.at_ (by rw [HN.out]; have := Hlt.out; omega)
                  simp only [Value.slice.injEq, Option.some.injEq, Addr.mk.injEq, and_true] at hv
                  obtain ⟨⟨rfl, rfl⟩, -, -⟩ := hv
                  have c0 : wr.cell? ⟨b, o + j * 4, none⟩ = some (.string zn) := hc (j * 4 + 0) _ (by rw [sysC_get x.S j 0 _ hz (by decide)]; rfl)
                  have x0 := HT.out.2.cell 0 (v := .string yn) rfl
                  have e5 := HT.out.1.box.cell 5 (v := .slice (some ⟨b, o, none⟩) N sc) rfl
                  have jN : (j : Int) < (N : Int) := by have := Hlt.out; omega
                  have hnx := nameI_next hz HB.out
                  rw [Hy.out] at hnx
                  simp only at hnx
                  clear hc hb hz hjk
                  by_cases he : zn = yn
                  · subst he
                    rw [if_pos rfl] at hnx
                    have Hnx := hid hnx
                    clear hnx
                    go_upto_region 11 with (fail)
                    go_quiet (fail)
                    go_wp2
                    go_roundw
                    case rel => exact ⟨j + 1, Hjk.out, by go_num, by rw [Hnx.out], hid ⟨HT.out.1.kept0 (grown_drewN (grown_refl _ none) _), HT.out.2.kept0 (grown_drewN (grown_refl _ none) _)⟩⟩
                    case measure => simp [intOf]; have := Hjk.out; omega
                  · rw [if_neg he] at hnx
                    have Hnx := hid hnx
                    have hx : (zn.toList == yn.toList) = false := by rw [beq_eq_false_iff_ne]; intro e; exact he (toList_iff.1 e)
                    clear hnx he
                    go_upto_region 11 with (fail)
                    go_quiet (fail)
                    go_wp2
                    go_roundw
                    case rel => exact ⟨j + 1, Hjk.out, by go_num, by rw [Hnx.out], hid ⟨HT.out.1.kept0 (grown_drewN (grown_refl _ none) _), HT.out.2.kept0 (grown_drewN (grown_refl _ none) _)⟩⟩
                    case measure => simp [intOf]; have := Hjk.out; omega
                · have hb : (B == 0) = false := by simpa using hB0
                  have hst : B = badI (nameF x k) := by rw [← HB.out]; exact nameI_stop hj (by rw [HB.out]; exact hB0)
                  have Hst := hid hst
                  clear hst hB0 hjk
                  go_wp2
                  go_meet
                  exact ⟨_, rfl, Hst, HT⟩
              · obtain rfl : j = k := by omega
                have jk : ¬ ((j : Int) < (j : Int)) := by omega
                have hst : B = badI (nameF x j) := by rw [← HB.out]; exact nameI_all x j
                have Hst := hid hst
                clear hst hjk
                go_wp2
                go_meet
                exact ⟨_, rfl, Hst, HT⟩
          case rest =>
            obtain ⟨z, rfl, Hz, HS3⟩ := hcut
            clear HS2
            rename World => wz
            have x1 := HS3.out.2.cell 1 (v := .int .i64 yi) rfl
            go_upto_block 4 with fail
            clear x1
            go_cut [7] from 50 to 98 (fun u7 wz => u7 = .bool (standsB x ⟨yn, yi, yv, yg⟩) ∧ Hid (RCw W wz G R ⟨.slice dp nD dc, .slice cp nC cc, .slice mp nC mc, r, q, .slice (some ⟨b, o, none⟩) N sc⟩ (symF x) k ∧ RwAt wz X 88 #[.string yn, .int .i64 yi, .int .i64 yv, .bool yg]))
            case first =>
              have x2 := HS3.out.2.cell 2 (v := .int .i64 yv) rfl
              have x3 := HS3.out.2.cell 3 (v := .bool yg) rfl
              have g0 := HS3.out.1.box.cell 0 (v := .slice dp nD dc) rfl
              have g1 := HS3.out.1.box.cell 1 (v := .slice cp nC cc) rfl
              have g2 := HS3.out.1.box.cell 2 (v := .slice mp nC mc) rfl
              by_cases h1 : yi = 1
              · subst h1
                by_cases hv0 : 0 ≤ yv
                · by_cases hvd : yv < nD
                  · have hst : standsB x ⟨yn, 1, yv, yg⟩ = true := by unfold standsB; rw [if_pos rfl, HnD.out]; simp only [decide_eq_true_eq]; omega
                    go_wp2
                    go_meet
                    exact ⟨by rw [hst], HS3⟩
                  · have hvb : decide (yv < (nD : Int)) = false := by simpa using hvd
                    by_cases hvz : yv = 0
                    · subst hvz
                      have hst : standsB x ⟨yn, 1, 0, yg⟩ = true := by unfold standsB; rw [if_pos rfl]; simp
                      go_wp2
                      go_meet
                      exact ⟨by rw [hst], HS3⟩
                    · have hst : standsB x ⟨yn, 1, yv, yg⟩ = false := by unfold standsB; rw [if_pos rfl, HnD.out]; simp only [decide_eq_false_iff_not]; omega
                      have hvzb : (yv == 0) = false := by simpa using hvz
                      clear hvz hvd
                      go_wp2
                      go_meet
                      exact ⟨by rw [hst], HS3⟩
                · have hst : standsB x ⟨yn, 1, yv, yg⟩ = false := by unfold standsB; rw [if_pos rfl]; simp only [decide_eq_false_iff_not]; omega
                  have hvb : decide ((0 : Int) ≤ yv) = false := by simpa using hv0
                  clear hv0
                  go_wp2
                  go_meet
                  exact ⟨by rw [hst], HS3⟩
              · have h1b : (yi == 1) = false := by simpa using h1
                by_cases h2 : yi = 2
                · subst h2
                  clear h1
                  by_cases hv0 : 0 ≤ yv
                  · by_cases hvd : yv < nC
                    · obtain ⟨a, rfl⟩ := Int.eq_ofNat_of_zero_le hv0
                      have ha : a < nC := by omega
                      obtain ⟨ma, hma⟩ : ∃ ma, x.M[a]? = some ma := ⟨_, List.getElem?_eq_getElem (by rw [Hl.out]; exact ha)⟩
                      obtain ⟨bm, om, cm, hvm, hbm, hcm⟩ := (HO.out.kept0 HS3.out.1.g).m.at_ (by rw [Hl.out]; omega)
                      simp only [Value.slice.injEq] at hvm
                      obtain ⟨rfl, -, -⟩ := hvm
                      have em := hcm a ma hma
                      have hmd : mapN x a = ma := by unfold mapN; rw [List.getD_eq_getElem?_getD, hma]; rfl
                      have Hmd := hid hmd
                      have Hha := hid ha
                      clear hcm hbm hma hmd ha
                      by_cases hm1 : ma = 1
                      · subst hm1
                        have hst : standsB x ⟨yn, 2, (a : Int), yg⟩ = true := by unfold standsB; rw [if_neg (show ¬ (2 : Int) = 1 by decide), if_pos rfl, HnC.out]; simp [Hmd.out]; exact Hha.out
                        go_wp2
                        go_meet
                        exact ⟨by rw [hst], HS3⟩
                      · have hm1b : (ma == 1) = false := by simpa using hm1
                        have hst : standsB x ⟨yn, 2, (a : Int), yg⟩ = false := by unfold standsB; rw [if_neg (show ¬ (2 : Int) = 1 by decide), if_pos rfl]; simp [Hmd.out, hm1]
                        clear hm1
                        go_wp2
                        go_meet
                        exact ⟨by rw [hst], HS3⟩
                    · have hst : standsB x ⟨yn, 2, yv, yg⟩ = false := by unfold standsB; rw [if_neg (show ¬ (2 : Int) = 1 by decide), if_pos rfl, HnC.out]; simp only [decide_eq_false_iff_not]; omega
                      have hvb : decide (yv < (nC : Int)) = false := by simpa using hvd
                      clear hvd
                      go_wp2
                      go_meet
                      exact ⟨by rw [hst], HS3⟩
                  · have hst : standsB x ⟨yn, 2, yv, yg⟩ = false := by unfold standsB; rw [if_neg (show ¬ (2 : Int) = 1 by decide), if_pos rfl]; simp only [decide_eq_false_iff_not]; omega
                    have hvb : decide ((0 : Int) ≤ yv) = false := by simpa using hv0
                    clear hv0
                    go_wp2
                    go_meet
                    exact ⟨by rw [hst], HS3⟩
                · have h2b : (yi == 2) = false := by simpa using h2
                  by_cases h3 : yi = 3
                  · subst h3
                    clear h1 h2
                    by_cases hvz : yv = 0
                    · subst hvz
                      cases yg with
                      | true =>
                        have hst : standsB x ⟨yn, 3, 0, true⟩ = true := by unfold standsB; simp
                        go_wp2
                        go_meet
                        exact ⟨by rw [hst], HS3⟩
                      | false =>
                        have hst : standsB x ⟨yn, 3, 0, false⟩ = false := by unfold standsB; simp
                        go_wp2
                        go_meet
                        exact ⟨by rw [hst], HS3⟩
                    · have hvzb : (yv == 0) = false := by simpa using hvz
                      have hst : standsB x ⟨yn, 3, yv, yg⟩ = false := by unfold standsB; simp [hvz]
                      clear hvz
                      go_wp2
                      go_meet
                      exact ⟨by rw [hst], HS3⟩
                  · have h3b : (yi == 3) = false := by simpa using h3
                    have hst : standsB x ⟨yn, yi, yv, yg⟩ = false := by unfold standsB; simp [h1, h2, h3]
                    clear h1 h2 h3
                    go_wp2
                    go_meet
                    exact ⟨by rw [hst], HS3⟩
            case rest =>
              obtain ⟨rfl, HS4⟩ := hcut
              clear HS3
              rename World => wz
              obtain ⟨g, hg⟩ : ∃ g, standsB x ⟨yn, yi, yv, yg⟩ = g := ⟨_, rfl⟩
              have Hg := hid hg
              rw [hg]
              clear hg
              by_cases hz0 : z = 0
              · subst hz0
                have hnf : nameF x k = none := badI_zero.1 Hz.out.symm
                cases g with
                | true =>
                  have hno : symF x k = none := by rw [symF_is, hnf, Hy.out]; simp only; rw [if_pos Hg.out]
                  have HNo := hid hno
                  clear hno hnf
                  go_wp2
                  go_roundw
                  case rel => exact ⟨k + 1, Hlt.out, by go_num, hid ⟨HS4.out.1.box, HS4.out.1.res, HS4.out.1.g, fun j hj => by
                    by_cases e : j = k
                    · rw [e]; exact HNo.out
                    · exact HS4.out.1.no j (by omega)⟩⟩
                  case measure => simp [intOf]; have := Hlt.out; omega
                | false =>
                  have hcd : symF x k = some 2 := by rw [symF_is, hnf, Hy.out]; simp only; rw [if_neg (by rw [Hg.out]; simp)]
                  have Hcd := hid hcd
                  clear hcd hnf
                  go_wp2_with fail
                  refine (placed_any 103 k (by decide) _).mono ?_
                  rintro e w8 ⟨rfl, hg⟩
                  have H8 := hid (HS4.out.1.kept0 hg)
                  have E := hid (H8.out.res.row #[.int .i64 103, .bool true, .int .i64 k])
                  have EG := hid (grown_setRow H8.out.g HRb.out #[.int .i64 103, .bool true, .int .i64 k])
                  clear hg
                  go_wp2_with (first
                    | (refine wpList_store_rw rfl 31 _ _ rfl rfl rfl H8.out.res info_flt9 rfl (by simp [Value.oneCell']) ?_)
                    | fail)
                  refine bodyPost_ret (results_cell_row Tryz.results66 _ _ R _ _ _ _ rfl E.out.blk Tryz.underlying31 rfl info_flt9) rfl ?_
                  refine ⟨?_, EG.out⟩
                  rw [scanV_some Hcd.out H8.out.no Hlt.out]
                  rfl
              · obtain ⟨cd, hcd⟩ : ∃ cd, nameF x k = some cd := by
                  cases h : nameF x k with
                  | none => exact absurd (by rw [Hz.out, h]; rfl) hz0
                  | some c => exact ⟨c, rfl⟩
                have hze : z = ((101 + cd : Nat) : Int) := by rw [Hz.out, hcd]; rfl
                have hcs : symF x k = some cd := by rw [symF_is, hcd]
                have Hze := hid hze
                have Hcd := hid hcs
                have HnZ := hid hz0
                have hzb : (z == 0) = false := by simpa using hz0
                have hzc : (z != 0) = true := by simpa using hz0
                clear hze hcd hcs hz0
                go_wp2_with fail
                refine (placed_any z k HnZ.out _).mono ?_
                rintro e w8 ⟨rfl, hg⟩
                have H8 := hid (HS4.out.1.kept0 hg)
                have E := hid (H8.out.res.row #[.int .i64 z, .bool true, .int .i64 k])
                have EG := hid (grown_setRow H8.out.g HRb.out #[.int .i64 z, .bool true, .int .i64 k])
                clear hg
                go_wp2_with (first
                  | (refine wpList_store_rw rfl 31 _ _ rfl rfl rfl H8.out.res info_flt9 rfl (by simp [Value.oneCell']) ?_)
                  | fail)
                refine bodyPost_ret (results_cell_row Tryz.results66 _ _ R _ _ _ _ rfl E.out.blk Tryz.underlying31 rfl info_flt9) rfl ?_
                refine ⟨?_, EG.out⟩
                rw [scanV_some Hcd.out H8.out.no Hlt.out, Hze.out]
                rfl
    · obtain rfl : k = N := by omega
      have kn : ¬ ((k : Int) < (k : Int)) := by omega
      clear hlt
      have HRk := hid HR.out
      clear HR
      go_wp2_with fail
      refine (nofault_any _).mono ?_
      rintro e w8 ⟨rfl, hg⟩
      have H8 := hid (HRk.out.kept0 hg)
      have E := hid (H8.out.res.row #[.int .i64 0, .bool false, .int .i64 0])
      have EG := hid (grown_setRow H8.out.g HRb.out #[.int .i64 0, .bool false, .int .i64 0])
      clear hg
      go_wp2_with (first
        | (refine wpList_store_rw rfl 31 _ _ rfl rfl rfl H8.out.res info_flt9 rfl (by simp [Value.oneCell']) ?_)
        | fail)
      refine bodyPost_ret (results_cell_row Tryz.results66 _ _ R _ _ _ _ rfl E.out.blk Tryz.underlying31 rfl info_flt9) rfl ?_
      refine ⟨?_, EG.out⟩
      rw [scanV_none H8.out.no]
      rfl
end Go.Proofs.YtgahbpfmiibpeaaGreatDoor
