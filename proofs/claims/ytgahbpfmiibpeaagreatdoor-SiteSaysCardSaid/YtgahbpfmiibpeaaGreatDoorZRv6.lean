/- The document's Valid (facaderef9): contract. (Made by gorv6.py.) -/
import Derived.Test.YtgahbpfmiibpeaaGreatDoorZRv2
import Derived.Test.YtgahbpfmiibpeaaGreatDoorZRv4
import Derived.Test.YtgahbpfmiibpeaaGreatDoorZRv5
import Derived.Test.YtgahbpfmiibpeaaGreatDoorZGObjA
import Derived.Test.YtgahbpfmiibpeaaGreatDoorZGErr
namespace Go.Proofs.YtgahbpfmiibpeaaGreatDoor
open Go.RowKit
/-- of the parts from the front on: the first fault -/
def orF (a b : Fl) : Fl := match a with | some y => some y | none => b
theorem scanF_or (f : Nat → Option Nat) (n : Nat) (r : Fl) : scanF f n r = orF (scanV f n) r := by
  unfold scanF scanV
  cases scanP f n with
  | none => rfl
  | some y => obtain ⟨c, k⟩ := y; rfl
theorem valid_parts {x : PO} (h1 : manyB x = false) (h2 : x.M.length = x.C.length) : validP x = orF (scanV (wordF x) x.C.length) (orF (scanV (symF x) x.S.length) (orF (scanV (dataF x) x.R.length) (orF (scanV (codeF x) x.Q.length) (orF (scanV (unrF x) x.C.length) none)))) := by
  unfold validP
  rw [if_neg (by rw [h1]; simp), if_neg (by rw [h2]; simp)]
  simp only [scanF_or]
theorem scanV_rword (x : PO) (n : Nat) : scanV (rwordF x) n = scanV (wordF x) n := by unfold scanV; rw [rword_scan]
theorem fltC_ne (z : Nat × Option Nat) : fltC (some z) ≠ 0 := by
  obtain ⟨c, p⟩ := z
  simp only [fltC]
  omega
theorem orF_no {a b : Fl} (h : orF a b = none) : a = none ∧ b = none := by
  cases a with
  | none => exact ⟨rfl, h⟩
  | some y => cases h
/-- behind k words -/
def unV (y : Fl) (x : PO) (k : Nat) : Fl := orF y (scanV (unrF x) k)
theorem unV_zero (y : Fl) (x : PO) : unV y x 0 = y := by
  unfold unV
  cases y <;> rfl
theorem scanV_succ {f : Nat → Option Nat} {k : Nat} (h : scanV f k = none) : scanV f (k + 1) = (f k).map fun c => (c, some k) := by
  unfold scanV at h ⊢
  rw [Option.map_eq_none_iff] at h
  rw [scanP, h]
  cases f k <;> rfl
theorem unV_next {y : Fl} {x : PO} {k : Nat} (h : unV y x k = none) : unV y x (k + 1) = (unrF x k).map fun c => (c, some k) := by
  obtain ⟨h1, h2⟩ := orF_no h
  subst h1
  exact scanV_succ h2
theorem unV_stop {y : Fl} {x : PO} {k n : Nat} (hk : k ≤ n) (h : unV y x k ≠ none) : unV y x k = unV y x n := by
  unfold unV at h ⊢
  cases y with
  | some z => rfl
  | none =>
    simp only [orF] at h ⊢
    induction n with
    | zero => rw [show k = 0 by omega]
    | succ n ih =>
      by_cases e : k = n + 1
      · rw [e]
      · have h1 := ih (by omega)
        rw [h1] at h ⊢
        unfold scanV at h ⊢
        rw [scanP]
        cases hs : scanP (unrF x) n with
        | none => rw [hs] at h; exact absurd rfl h
        | some z => rfl
/-- whether a relocation is wanting at word k, by what is asked -/
def wantB (m s h1 f l h2 : Bool) : Bool := m && ((s && !h1) || ((f || l) && !h2))
theorem want_is {x : PO} (hw : ∀ k, k < x.C.length → wordF x k = none) {k : Nat} (hk : k < x.C.length) : unrF x k = if wantB (decide (mapN x k = 1)) (brB (wOp x k)) (hasRB x k) (farB (wOp x k)) (decide (wOp x k = 15)) (hasRB x (k + 1 : Nat)) = true then some 6 else none := by
  rw [← runr_eq hw hk]
  unfold runrF wantB
  congr 1
  rw [eq_iff_iff]
  cases brB (wOp x k) <;> cases hasRB x k <;> cases farB (wOp x k) <;> cases hasRB x (k + 1 : Nat) <;> simp
theorem scanV_no {f : Nat → Option Nat} {n : Nat} (h : scanV f n = none) : ∀ k, k < n → f k = none := by
  unfold scanV at h
  rw [Option.map_eq_none_iff] at h
  exact scanP_all h
theorem zero_flt6 (w : World) : (zeroValue 31).run Tryz.prog w = .ok (.agg #[.int .i64 0, .bool false, .int .i64 0]) w := by kernel_rfl
/-- what is told lies in block F, the result's box is R, the object's G -/
structure VFw (W w : World) (G R F : Nat) (V : OV) (y : Fl) : Prop where
  box : RwAt w G 27 #[V.d, V.c, V.m, V.r, V.q, V.s]
  res : RwAt w R 31 #[.int .i64 0, .bool false, .int .i64 0]
  f : RwAt w F 31 #[.int .i64 (fltC y), .bool (fltB y), .int .i64 (fltN y)]
  g : W.grownBy w none
  ne : G ≠ F ∧ R ≠ F ∧ W.heap.size ≤ F
theorem VFw.kept0 {W w w1 : World} {G R F : Nat} {V : OV} {y : Fl} (h : VFw W w G R F V y) (hg : w.grownBy w1 none) : VFw W w1 G R F V y := ⟨h.box.kept0 hg, h.res.kept0 hg, h.f.kept0 hg, grown_trans h.g hg, h.ne⟩
theorem VFw.put {W w : World} {G R F : Nat} {V : OV} {y : Fl} (h : VFw W w G R F V y) (z : Fl) : VFw W (w.setRow F #[.int .i64 (fltC z), .bool (fltB z), .int .i64 (fltN z)]) G R F V z :=
  ⟨h.box.rowOther _ _ h.ne.1, h.res.rowOther _ _ h.ne.2.1, h.f.row _, grown_setRow h.g h.ne.2.2 _, h.ne⟩
theorem orF_none (y : Fl) : orF none y = y := rfl
theorem orF_some {y : Fl} (h : y ≠ none) (r : Fl) : orF y r = y := by
  cases y with
  | none => exact absurd rfl h
  | some z => rfl
theorem f3V_is (y : Fl) : flV y = .agg #[.int .i64 (fltC y), .bool (fltB y), .int .i64 (fltN y)] := rfl
set_option maxRecDepth 100000 in
set_option maxHeartbeats 16000000 in
theorem rval_any {W : World} {V : OV} {x : PO} (h : OAt W V x) (hf : OFit x) (hL : x.D.length ≤ 1000000 ∧ x.C.length ≤ 1000000 ∧ x.M.length ≤ 1000000 ∧ x.R.length ≤ 1000000 ∧ x.Q.length ≤ 1000000 ∧ x.S.length ≤ 1000000) :
    Calls Tryz.prog 41 #[V.agg, .bool false] W fun e w' => e = .returned (flV (validP x)) ∧ W.grownBy w' none := by
  obtain ⟨d, c, m, r, q, s⟩ := V
  obtain ⟨dp, dc, hdv⟩ := h.d.len'
  obtain ⟨cp, cc, hcv⟩ := h.c.len'
  obtain ⟨mp, mc, hmv⟩ := h.m.len'
  obtain ⟨rp, rc, hrv⟩ := h.r.len
  obtain ⟨qp, qc, hqv⟩ := h.q.len
  obtain ⟨sp, sc, hsv⟩ := h.s.len
  simp only at hdv hcv hmv hrv hqv hsv
  subst hdv; subst hcv; subst hmv; subst hrv; subst hqv; subst hsv
  obtain ⟨nD, hnD⟩ : ∃ n, x.D.length = n := ⟨_, rfl⟩
  obtain ⟨nC, hnC⟩ : ∃ n, x.C.length = n := ⟨_, rfl⟩
  obtain ⟨nM, hnM⟩ : ∃ n, x.M.length = n := ⟨_, rfl⟩
  obtain ⟨nR, hnR⟩ : ∃ n, x.R.length = n := ⟨_, rfl⟩
  obtain ⟨nQ, hnQ⟩ : ∃ n, x.Q.length = n := ⟨_, rfl⟩
  obtain ⟨N, hN⟩ : ∃ n, x.S.length = n := ⟨_, rfl⟩
  have HL := hid hL
  rw [hnD, hnC, hnM, hnR, hnQ, hN] at h hL
  have HN := hid (And.intro hnD (And.intro hnC (And.intro hnM (And.intro hnR (And.intro hnQ hN)))))
  rw [hnD, hnC, hnM, hnR, hnQ, hN]
  have HO := hid h
  have HF := hid hf
  have l1 : (nD : Int) ≤ 1000000 := by omega
  have l2 : (nC : Int) ≤ 1000000 := by omega
  have l3 : (nM : Int) ≤ 1000000 := by omega
  have l4 : (nR : Int) ≤ 1000000 := by omega
  have l5 : (nQ : Int) ≤ 1000000 := by omega
  have l6 : (N : Int) ≤ 1000000 := by omega
  have HB0 := hid (RwAt.new W 27 #[.slice dp nD dc, .slice cp nC cc, .slice mp nM mc, .slice rp nR rc, .slice qp nQ qc, .slice sp N sc])
  clear h hf hnD hnC hnM hnR hnQ hN hL
  have Hz := zero_flt6
  go_enter Tryz.func41, Tryz.ntmps41
  go_upto_region 1 with (fail)
  have HB1 := hid (HB0.out.alloc (.cells #[.int .i64 0, .bool false, .int .i64 0] 31))
  have HR1 := hid (RwAt.new2 W (.cells #[.slice dp nD dc, .slice cp nC cc, .slice mp nM mc, .slice rp nR rc, .slice qp nQ qc, .slice sp N sc] 27) 31 #[.int .i64 0, .bool false, .int .i64 0])
  have HG1 := hid (grown_trans (World.grownBy_alloc W (.cells #[.slice dp nD dc, .slice cp nC cc, .slice mp nM mc, .slice rp nR rc, .slice qp nQ qc, .slice sp N sc] 27) none) (World.grownBy_alloc _ (.cells #[.int .i64 0, .bool false, .int .i64 0] 31) none))
  obtain ⟨R, hR⟩ : ∃ R, W.heap.size + 1 = R := ⟨_, rfl⟩
  have HRb : Hid (W.heap.size ≤ R) := hid (by omega)
  obtain ⟨G, hG⟩ : ∃ G, W.heap.size = G := ⟨_, rfl⟩
  rw [hR] at HR1
  rw [hG] at HB1
  have HGR : Hid (G ≠ R) := hid (by omega)
  clear HB0
  generalize (W.alloc (.cells #[.slice dp nD dc, .slice cp nC cc, .slice mp nM mc, .slice rp nR rc, .slice qp nQ qc, .slice sp N sc] 27)).alloc (.cells #[.int .i64 0, .bool false, .int .i64 0] 31) = w1 at HB1 HR1 HG1 ⊢
  try rw [hR]
  try rw [hG]
  clear hR hG Hz
  have g0 := HB1.out.cell 0 (v := .slice dp nD dc) rfl
  have g1 := HB1.out.cell 1 (v := .slice cp nC cc) rfl
  have g2 := HB1.out.cell 2 (v := .slice mp nM mc) rfl
  have g3 := HB1.out.cell 3 (v := .slice rp nR rc) rfl
  have g4 := HB1.out.cell 4 (v := .slice qp nQ qc) rfl
  have g5 := HB1.out.cell 5 (v := .slice sp N sc) rfl
  obtain ⟨mb, hmb⟩ : ∃ mb, manyB x = mb := ⟨_, rfl⟩
  have Hmb := hid hmb
  clear hmb
  go_cut [35] from 8 to 35 (fun u35 wz => u35 = .bool mb ∧ wz = w1)
  case first =>
    have b0 : mb = decide (2048 < nD ∨ 2048 < nC ∨ 1024 < nR ∨ 1024 < nQ ∨ 256 < N) := by
      rw [← Hmb.out]; unfold manyB
      rw [HN.out.1, HN.out.2.1, HN.out.2.2.2.1, HN.out.2.2.2.2.1, HN.out.2.2.2.2.2]
    have Hb0 := hid b0
    clear b0
    by_cases h1 : 2048 < nD
    · have hb : mb = true := by rw [Hb0.out]; simp [h1]
      subst hb
      have i1 : decide ((2048 : Int) < (nD : Int)) = true := by simp only [decide_eq_true_eq]; omega
      go_wp2
      go_meet
      exact ⟨rfl, rfl⟩
    · have i1 : decide ((2048 : Int) < (nD : Int)) = false := by simp only [decide_eq_false_iff_not]; omega
      by_cases h2 : 2048 < nC
      · have hb : mb = true := by rw [Hb0.out]; simp [h2]
        subst hb
        have i2 : decide ((2048 : Int) < (nC : Int)) = true := by simp only [decide_eq_true_eq]; omega
        go_wp2
        go_meet
        exact ⟨rfl, rfl⟩
      · have i2 : decide ((2048 : Int) < (nC : Int)) = false := by simp only [decide_eq_false_iff_not]; omega
        by_cases h3 : 1024 < nR
        · have hb : mb = true := by rw [Hb0.out]; simp [h3]
          subst hb
          have i3 : decide ((1024 : Int) < (nR : Int)) = true := by simp only [decide_eq_true_eq]; omega
          go_wp2
          go_meet
          exact ⟨rfl, rfl⟩
        · have i3 : decide ((1024 : Int) < (nR : Int)) = false := by simp only [decide_eq_false_iff_not]; omega
          by_cases h4 : 1024 < nQ
          · have hb : mb = true := by rw [Hb0.out]; simp [h4]
            subst hb
            have i4 : decide ((1024 : Int) < (nQ : Int)) = true := by simp only [decide_eq_true_eq]; omega
            go_wp2
            go_meet
            exact ⟨rfl, rfl⟩
          · have i4 : decide ((1024 : Int) < (nQ : Int)) = false := by simp only [decide_eq_false_iff_not]; omega
            by_cases h5 : 256 < N
            · have hb : mb = true := by rw [Hb0.out]; simp [h5]
              subst hb
              have i5 : decide ((256 : Int) < (N : Int)) = true := by simp only [decide_eq_true_eq]; omega
              go_wp2
              go_meet
              exact ⟨rfl, rfl⟩
            · have hb : mb = false := by rw [Hb0.out]; simp; omega
              subst hb
              have i5 : decide ((256 : Int) < (N : Int)) = false := by simp only [decide_eq_false_iff_not]; omega
              go_wp2
              go_meet
              exact ⟨rfl, rfl⟩
  case rest =>
    obtain ⟨rfl, rfl⟩ := hcut
    cases mb with
    | true =>
      have hv : validP x = some (3, none) := by unfold validP; rw [if_pos Hmb.out]
      have Hv := hid hv
      clear hv
      go_wp2_with fail
      refine (bare_any 104 _).mono ?_
      rintro e w2 ⟨rfl, hg⟩
      rw [faultV]
      have HR2 := hid (HR1.out.kept0 hg)
      have E := hid (HR2.out.row #[.int .i64 104, .bool false, .int .i64 0])
      have EG := hid (grown_setRow (grown_trans HG1.out hg) HRb.out #[.int .i64 104, .bool false, .int .i64 0])
      clear hg
      go_wp2_with (first
        | (refine wpList_store_rw rfl 31 _ _ rfl rfl rfl HR2.out info_flt9 rfl (by simp [Value.oneCell']) ?_)
        | fail)
      refine bodyPost_ret (results_cell_row Tryz.results41 _ _ R _ _ _ _ rfl E.out.blk Tryz.underlying31 rfl info_flt9) rfl ?_
      exact ⟨by rw [Hv.out]; rfl, EG.out⟩
    | false =>
      by_cases hlen : nM = nC
      · subst hlen
        have hvp := valid_parts Hmb.out (by have := HN.out; omega)
        have Hvp := hid hvp
        have hlen2 : x.M.length = x.C.length := by have := HN.out; omega
        have Hlen := hid hlen2
        have hlb : ((nM : Int) != (nM : Int)) = false := by simp
        clear hvp hlen2
        have Hz := zero_flt6
        go_wp2_with (first
          | (refine wpList_load_rw rfl 27 _ rfl rfl HB1.out rfl Tryz.underlying27 info_object ?_)
          | fail)
        refine (rcode_any (V := ⟨.slice dp nD dc, .slice cp nM cc, .slice mp nM mc, .slice rp nR rc, .slice qp nQ qc, .slice sp N sc⟩) (HO.out.kept0 HG1.out) HF.out Hlen.out HL.out.2.1).mono ?_
        rintro e w2 ⟨rfl, hg⟩
        obtain ⟨y1, hy1⟩ : ∃ y, scanV (wordF x) x.C.length = y := ⟨_, rfl⟩
        rw [scanV_rword, hy1, f3V_is]
        have Hy1 := hid hy1
        have al := World.grownBy_alloc w2 (.cells #[.int .i64 (fltC y1), .bool (fltB y1), .int .i64 (fltN y1)] 31) none
        have HVF : Hid (VFw W (w2.alloc (.cells #[.int .i64 (fltC y1), .bool (fltB y1), .int .i64 (fltN y1)] 31)) G R w2.heap.size ⟨.slice dp nD dc, .slice cp nM cc, .slice mp nM mc, .slice rp nR rc, .slice qp nQ qc, .slice sp N sc⟩ y1) := hid ⟨(HB1.out.kept0 hg).kept0 al, (HR1.out.kept0 hg).kept0 al, RwAt.new w2 _ _, grown_trans (grown_trans HG1.out hg) al, by
          have h1 := HB1.out.lt
          have h2 := HR1.out.lt
          have h3 := hg.size
          have h4 := HG1.out.size
          omega⟩
        clear hg hy1 al g0 g1 g2 g3 g4 g5
        go_upto_region 6 with (fail)
        obtain ⟨F, hF⟩ : ∃ F, w2.heap.size = F := ⟨_, rfl⟩
        rw [hF] at HVF ⊢
        clear hF Hz
        generalize w2.alloc (.cells #[.int .i64 (fltC y1), .bool (fltB y1), .int .i64 (fltN y1)] 31) = w3 at HVF ⊢
        obtain ⟨y2, hy2⟩ : ∃ y, orF y1 (scanV (symF x) x.S.length) = y := ⟨_, rfl⟩
        have Hy2 := hid hy2
        clear hy2
        obtain ⟨tb, htb⟩ : ∃ tb, decide (fltC y1 = 0) = tb := ⟨_, rfl⟩
        have Htb := hid htb
        clear htb
        go_cut [50] from 48 to 50 (fun u50 wz => u50 = .bool tb ∧ Hid (VFw W wz G R F ⟨.slice dp nD dc, .slice cp nM cc, .slice mp nM mc, .slice rp nR rc, .slice qp nQ qc, .slice sp N sc⟩ y1))
        case first =>
          have f0 := HVF.out.f.cell 0 (v := .int .i64 (fltC y1)) rfl
          have hcb : (fltC y1 == 0) = tb := by rw [← Htb.out]; rfl
          go_wp2
          go_meet
          exact ⟨by first | rfl | rw [hcb], HVF⟩
        case rest =>
          obtain ⟨rfl, HV1⟩ := hcut
          clear HVF
          rename World => wz
          go_upto_if 50 with fail
          go_cut [] from 51 to 52 (fun wz => Hid (VFw W wz G R F ⟨.slice dp nD dc, .slice cp nM cc, .slice mp nM mc, .slice rp nR rc, .slice qp nQ qc, .slice sp N sc⟩ y2))
          case first =>
            cases tb with
            | false =>
              have hne : y1 ≠ none := by intro e; have := Htb.out; rw [e] at this; cases this
              have hcur : y2 = y1 := by rw [← Hy2.out, orF_some hne]
              go_wp2
              go_meet
              exact hid (by rw [hcur]; exact HV1.out)
            | true =>
              have hno : y1 = none := by
                cases h : y1 with
                | none => rfl
                | some z => exact absurd (of_decide_eq_true Htb.out) (by rw [h]; exact fltC_ne _)
              have Hno := hid hno
              clear hno
              go_wp2_with (first
                | (refine wpList_load_rw rfl 27 _ rfl rfl HV1.out.box rfl Tryz.underlying27 info_object ?_)
                | fail)
              refine (rsyms_any (V := ⟨.slice dp nD dc, .slice cp nM cc, .slice mp nM mc, .slice rp nR rc, .slice qp nQ qc, .slice sp N sc⟩) (HO.out.kept0 HV1.out.g) HF.out Hlen.out HL.out.1 HL.out.2.1 HL.out.2.2.2.2.2).mono ?_
              rintro e w4 ⟨rfl, hg⟩
              have hcur : scanV (symF x) x.S.length = y2 := by rw [← Hy2.out, Hno.out]; rfl
              rw [hcur, f3V_is]
              have HV2 := hid (HV1.out.kept0 hg)
              have HV3 := hid (HV2.out.put y2)
              clear hg hcur
              go_wp2_with (first
                | (refine wpList_store_rw rfl 31 _ _ rfl rfl rfl HV2.out.f info_flt9 rfl (by simp [Value.oneCell']) ?_)
                | fail)
              go_meet
              exact HV3
          case rest =>
            have HVF := hcut
            clear HV1
            rename World => wz
            obtain ⟨y3, hy3⟩ : ∃ y, orF y2 (scanV (dataF x) x.R.length) = y := ⟨_, rfl⟩
            have Hy3 := hid hy3
            clear hy3
            obtain ⟨tb, htb⟩ : ∃ tb, decide (fltC y2 = 0) = tb := ⟨_, rfl⟩
            have Htb := hid htb
            clear htb
            go_upto_region 8 with (fail)
            go_cut [55] from 53 to 55 (fun u55 wz => u55 = .bool tb ∧ Hid (VFw W wz G R F ⟨.slice dp nD dc, .slice cp nM cc, .slice mp nM mc, .slice rp nR rc, .slice qp nQ qc, .slice sp N sc⟩ y2))
            case first =>
              have f0 := HVF.out.f.cell 0 (v := .int .i64 (fltC y2)) rfl
              have hcb : (fltC y2 == 0) = tb := by rw [← Htb.out]; rfl
              go_wp2
              go_meet
              exact ⟨by first | rfl | rw [hcb], HVF⟩
            case rest =>
              obtain ⟨rfl, HV1⟩ := hcut
              clear HVF
              rename World => wz
              go_upto_if 55 with fail
              go_cut [] from 56 to 57 (fun wz => Hid (VFw W wz G R F ⟨.slice dp nD dc, .slice cp nM cc, .slice mp nM mc, .slice rp nR rc, .slice qp nQ qc, .slice sp N sc⟩ y3))
              case first =>
                cases tb with
                | false =>
                  have hne : y2 ≠ none := by intro e; have := Htb.out; rw [e] at this; cases this
                  have hcur : y3 = y2 := by rw [← Hy3.out, orF_some hne]
                  go_wp2
                  go_meet
                  exact hid (by rw [hcur]; exact HV1.out)
                | true =>
                  have hno : y2 = none := by
                    cases h : y2 with
                    | none => rfl
                    | some z => exact absurd (of_decide_eq_true Htb.out) (by rw [h]; exact fltC_ne _)
                  have Hno := hid hno
                  clear hno
                  go_wp2_with (first
                    | (refine wpList_load_rw rfl 27 _ rfl rfl HV1.out.box rfl Tryz.underlying27 info_object ?_)
                    | fail)
                  refine (rdrels_any (V := ⟨.slice dp nD dc, .slice cp nM cc, .slice mp nM mc, .slice rp nR rc, .slice qp nQ qc, .slice sp N sc⟩) (HO.out.kept0 HV1.out.g) HL.out.2.2.2.1 HL.out.1 HL.out.2.2.2.2.2).mono ?_
                  rintro e w4 ⟨rfl, hg⟩
                  have hcur : scanV (dataF x) x.R.length = y3 := by rw [← Hy3.out, Hno.out]; rfl
                  rw [hcur, f3V_is]
                  have HV2 := hid (HV1.out.kept0 hg)
                  have HV3 := hid (HV2.out.put y3)
                  clear hg hcur
                  go_wp2_with (first
                    | (refine wpList_store_rw rfl 31 _ _ rfl rfl rfl HV2.out.f info_flt9 rfl (by simp [Value.oneCell']) ?_)
                    | fail)
                  go_meet
                  exact HV3
              case rest =>
                have HVF := hcut
                clear HV1
                rename World => wz
                obtain ⟨y4, hy4⟩ : ∃ y, orF y3 (scanV (codeF x) x.Q.length) = y := ⟨_, rfl⟩
                have Hy4 := hid hy4
                clear hy4
                obtain ⟨tb, htb⟩ : ∃ tb, decide (fltC y3 = 0) = tb := ⟨_, rfl⟩
                have Htb := hid htb
                clear htb
                go_upto_region 10 with (fail)
                go_cut [60] from 58 to 60 (fun u60 wz => u60 = .bool tb ∧ Hid (VFw W wz G R F ⟨.slice dp nD dc, .slice cp nM cc, .slice mp nM mc, .slice rp nR rc, .slice qp nQ qc, .slice sp N sc⟩ y3))
                case first =>
                  have f0 := HVF.out.f.cell 0 (v := .int .i64 (fltC y3)) rfl
                  have hcb : (fltC y3 == 0) = tb := by rw [← Htb.out]; rfl
                  go_wp2
                  go_meet
                  exact ⟨by first | rfl | rw [hcb], HVF⟩
                case rest =>
                  obtain ⟨rfl, HV1⟩ := hcut
                  clear HVF
                  rename World => wz
                  go_upto_if 60 with fail
                  go_cut [] from 61 to 62 (fun wz => Hid (VFw W wz G R F ⟨.slice dp nD dc, .slice cp nM cc, .slice mp nM mc, .slice rp nR rc, .slice qp nQ qc, .slice sp N sc⟩ y4))
                  case first =>
                    cases tb with
                    | false =>
                      have hne : y3 ≠ none := by intro e; have := Htb.out; rw [e] at this; cases this
                      have hcur : y4 = y3 := by rw [← Hy4.out, orF_some hne]
                      go_wp2
                      go_meet
                      exact hid (by rw [hcur]; exact HV1.out)
                    | true =>
                      have hno : y3 = none := by
                        cases h : y3 with
                        | none => rfl
                        | some z => exact absurd (of_decide_eq_true Htb.out) (by rw [h]; exact fltC_ne _)
                      have Hno := hid hno
                      clear hno
                      go_wp2_with (first
                        | (refine wpList_load_rw rfl 27 _ rfl rfl HV1.out.box rfl Tryz.underlying27 info_object ?_)
                        | fail)
                      refine (rcrels_any (V := ⟨.slice dp nD dc, .slice cp nM cc, .slice mp nM mc, .slice rp nR rc, .slice qp nQ qc, .slice sp N sc⟩) (HO.out.kept0 HV1.out.g) HF.out Hlen.out (scanV_no (Hy1.out.trans (orF_no (Hy2.out.trans (orF_no (Hy3.out.trans Hno.out)).1)).1)) HL.out.2.2.2.2.1 HL.out.2.1 HL.out.2.2.2.2.2).mono ?_
                      rintro e w4 ⟨rfl, hg⟩
                      have hcur : scanV (codeF x) x.Q.length = y4 := by rw [← Hy4.out, Hno.out]; rfl
                      rw [hcur, f3V_is]
                      have HV2 := hid (HV1.out.kept0 hg)
                      have HV3 := hid (HV2.out.put y4)
                      clear hg hcur
                      go_wp2_with (first
                        | (refine wpList_store_rw rfl 31 _ _ rfl rfl rfl HV2.out.f info_flt9 rfl (by simp [Value.oneCell']) ?_)
                        | fail)
                      go_meet
                      exact HV3
                  case rest =>
                    have HVF := hcut
                    clear HV1
                    rename World => wz
                    go_wp2
                    go_loopw [6] (fun i wr => ∃ k : Nat, k ≤ nM ∧ i = .int .i64 k ∧ Hid (VFw W wr G R F ⟨.slice dp nD dc, .slice cp nM cc, .slice mp nM mc, .slice rp nR rc, .slice qp nQ qc, .slice sp N sc⟩ (unV y4 x k))) (fun i _ => nM - (intOf i).toNat)
                    case atStart => exact ⟨0, Nat.zero_le _, rfl, hid (by rw [unV_zero]; exact HVF.out)⟩
                    case round =>
                      obtain ⟨k, hk, rfl, HR⟩ := hrel
                      have k0 : (0 : Int) ≤ (k : Int) := by omega
                      have e1 := HR.out.box.cell 1 (v := .slice cp nM cc) rfl
                      have f0 := HR.out.f.cell 0 (v := .int .i64 (fltC (unV y4 x k))) rfl
                      obtain ⟨u, hu⟩ : ∃ u, unV y4 x k = u := ⟨_, rfl⟩
                      have Hu := hid hu
                      rw [hu] at f0 HR
                      clear hu
                      have hend : (k = nM ∨ u ≠ none) → u = validP x := fun h => by
                        have h1 : unV y4 x k = unV y4 x nM := by
                          rcases h with h | h
                          · rw [h]
                          · exact unV_stop hk (by rw [Hu.out]; exact h)
                        rw [← Hu.out, h1, Hvp.out, Hy1.out]
                        unfold unV
                        rw [← Hy4.out, ← Hy3.out, ← Hy2.out]
                        have hC := HN.out.2.1
                        rw [hC]
                        cases y1 with
                        | some z => rfl
                        | none =>
                          simp only [orF_none]
                          cases scanV (symF x) x.S.length with
                          | some z => rfl
                          | none =>
                            simp only [orF_none]
                            cases scanV (dataF x) x.R.length with
                            | some z => rfl
                            | none =>
                              simp only [orF_none]
                              cases scanV (codeF x) x.Q.length with
                              | some z => rfl
                              | none =>
                                simp only [orF_none]
                                cases scanV (unrF x) nM <;> rfl
                      have Hend := hid hend
                      clear hend
                      by_cases hlt : k < nM
                      · have kn : (k : Int) < (nM : Int) := by omega
                        have Hlt := hid hlt
                        by_cases hun : u = none
                        · subst hun
                          have f1 : wr.cell? ⟨F, 0, none⟩ = some (.int .i64 0) := f0
                          clear f0
                          have hw0 : ∀ j, j < x.C.length → wordF x j = none := scanV_no (Hy1.out.trans (orF_no (Hy2.out.trans (orF_no (Hy3.out.trans (orF_no (Hy4.out.trans (orF_no Hu.out).1)).1)).1)).1)
                          have hwant := want_is hw0 (k := k) (by have := HN.out; omega)
                          have hnx := unV_next Hu.out
                          have Hnx := hid hnx
                          clear hnx hw0
                          obtain ⟨y, hy⟩ : ∃ y, x.C[k]? = some y := ⟨_, List.getElem?_eq_getElem (by have := HN.out; omega)⟩
                          obtain ⟨mk, hm⟩ : ∃ mk, x.M[k]? = some mk := ⟨_, List.getElem?_eq_getElem (by have := HN.out; omega)⟩
                          have hyr := HF.out.c y (List.mem_of_getElem? hy)
                          have y0 := hyr.1
                          have y1 := hyr.2
                          have hmap : mapN x k = mk := by unfold mapN; rw [List.getD_eq_getElem?_getD, hm]; rfl
                          have hop : wOp x k = y / 16777216 := by unfold wOp; rw [List.getD_eq_getElem?_getD, hy]; rfl
                          obtain ⟨bc, oc, c', hvc, hbc, hcc⟩ := (HO.out.kept0 HR.out.g).c.at_ (by have := HN.out; omega)
                          simp only [Value.slice.injEq] at hvc
                          obtain ⟨rfl, -, -⟩ := hvc
                          have ey := hcc k y hy
                          obtain ⟨bm, om, cm, hvm, hbm, hcm⟩ := (HO.out.kept0 HR.out.g).m.at_ (by have := HN.out; omega)
                          simp only [Value.slice.injEq] at hvm
                          obtain ⟨rfl, -, -⟩ := hvm
                          have em := hcm k mk hm
                          have e2 := HR.out.box.cell 2 (v := .slice (some ⟨bm, om, none⟩) nM mc) rfl
                          obtain ⟨op, hop2⟩ : ∃ op, y / 16777216 = op := ⟨_, rfl⟩
                          obtain ⟨sb, hsb⟩ : ∃ sb, brB op = sb := ⟨_, rfl⟩
                          obtain ⟨h1, hh1⟩ : ∃ h1, hasRB x k = h1 := ⟨_, rfl⟩
                          obtain ⟨fb, hfb⟩ : ∃ fb, farB op = fb := ⟨_, rfl⟩
                          obtain ⟨h2, hh2⟩ : ∃ h2, hasRB x (k + 1 : Nat) = h2 := ⟨_, rfl⟩
                          rw [hop2] at hop
                          rw [hmap, hop, hsb, hh1, hfb, hh2] at hwant
                          have Hwant := hid hwant
                          have Hmap := hid hmap
                          have Hop := hid hop
                          have Hsb := hid hsb
                          have Hh1 := hid hh1
                          have Hfb := hid hfb
                          have Hh2 := hid hh2
                          have Hop2 := hid hop2
                          clear hwant hmap hop hsb hh1 hfb hh2 hcc hbc hcm hbm hy hm hyr hlt hop2
                          obtain ⟨cb, hcb⟩ : ∃ cb, wantB (decide (mk = 1)) sb h1 fb (decide (op = 15)) h2 = cb := ⟨_, rfl⟩
                          have Hcb := hid hcb
                          rw [hcb] at Hwant
                          clear hcb
                          go_upto_region 16 with (fail)
                          try rw [Hop2.out]
                          go_cut [115] from 82 to 115 (fun u115 wz => u115 = .bool cb ∧ Hid (VFw W wz G R F ⟨.slice dp nD dc, .slice (some ⟨bc, oc, none⟩) nM cc, .slice (some ⟨bm, om, none⟩) nM mc, .slice rp nR rc, .slice qp nQ qc, .slice sp N sc⟩ none))
                          case first =>
                            by_cases h1m : mk = 1
                            · subst h1m
                              go_wp2_with (first
                                | (refine wpList_load_rw_g (by kernel_rfl) 27 _ rfl rfl HR.out.box rfl Tryz.underlying27 info_object ?_)
                                | fail)
                              refine (rshort_any (V := ⟨.slice dp nD dc, .slice (some ⟨bc, oc, none⟩) nM cc, .slice (some ⟨bm, om, none⟩) nM mc, .slice rp nR rc, .slice qp nQ qc, .slice sp N sc⟩) (HO.out.kept0 HR.out.g) HF.out Hlen.out (by have := HN.out; have := Hlt.out; omega) HL.out.2.1 sb (by rw [Hmap.out, Hop.out, Hsb.out]; simp)).mono ?_
                              rintro e w5 ⟨rfl, hg⟩
                              have HR5 := hid (HR.out.kept0 hg)
                              have e4 := HR5.out.box.cell 4 (v := .slice qp nQ qc) rfl
                              clear hg e1 e2 ey em f1
                              cases sb with
                              | true =>
                                go_wp2_with fail
                                refine (rrel_any (HO.out.kept0 HR5.out.g).q HL.out.2.2.2.2.1 (k : Int) h1 (by rw [← Hh1.out]; rfl)).mono ?_
                                rintro e w6 ⟨z0, rfl, hz0, rfl⟩
                                cases h1 with
                                | false =>
                                  have hzl0 : z0 < 0 := hz0.2 rfl
                                  clear hz0
                                  go_wp2
                                  go_meet
                                  exact ⟨by rw [← Hcb.out]; simp [wantB], HR5⟩
                                | true =>
                                  have hzl0 : ¬ (z0 < 0) := fun h => by have := hz0.1 h; cases this
                                  have hzb0 : decide (z0 < 0) = false := by simpa using hzl0
                                  clear hz0 hzl0
                                  go_wp2_with fail
                                  refine (rjmp_any op _).mono ?_
                                  rintro e w7 ⟨rfl, rfl⟩
                                  rw [Hfb.out]
                                  cases fb with
                                  | true =>
                                    go_wp2_with fail
                                    refine (rrel_any (HO.out.kept0 HR5.out.g).q HL.out.2.2.2.2.1 ((k : Int) + 1) h2 (by rw [← Hh2.out]; rfl)).mono ?_
                                    rintro e w9 ⟨z, rfl, hz, rfl⟩
                                    cases h2 with
                                    | false =>
                                      have hzl : z < 0 := hz.2 rfl
                                      clear hz
                                      go_wp2
                                      go_meet
                                      exact ⟨by rw [← Hcb.out]; simp [wantB], HR5⟩
                                    | true =>
                                      have hzl : ¬ (z < 0) := fun h => by have := hz.1 h; cases this
                                      have hzb : decide (z < 0) = false := by simpa using hzl
                                      clear hz hzl
                                      go_wp2
                                      go_meet
                                      exact ⟨by rw [← Hcb.out]; simp [wantB], HR5⟩
                                  | false =>
                                    by_cases hla : op = 15
                                    · have Hla := hid hla
                                      have hlb : (op == 15) = true := by simpa using hla
                                      clear hla
                                      go_wp2_with fail
                                      refine (rrel_any (HO.out.kept0 HR5.out.g).q HL.out.2.2.2.2.1 ((k : Int) + 1) h2 (by rw [← Hh2.out]; rfl)).mono ?_
                                      rintro e w9 ⟨z, rfl, hz, rfl⟩
                                      cases h2 with
                                      | false =>
                                        have hzl : z < 0 := hz.2 rfl
                                        clear hz
                                        go_wp2
                                        go_meet
                                        exact ⟨by rw [← Hcb.out]; simp [wantB, Hla.out], HR5⟩
                                      | true =>
                                        have hzl : ¬ (z < 0) := fun h => by have := hz.1 h; cases this
                                        have hzb : decide (z < 0) = false := by simpa using hzl
                                        clear hz hzl
                                        go_wp2
                                        go_meet
                                        exact ⟨by rw [← Hcb.out]; simp [wantB, Hla.out], HR5⟩
                                    · have hlb : (op == 15) = false := by simpa using hla
                                      have Hla := hid hla
                                      clear hla
                                      go_wp2
                                      go_meet
                                      exact ⟨by rw [← Hcb.out]; simp [wantB, Hla.out], HR5⟩
                              | false =>
                                go_wp2_with fail
                                refine (rjmp_any op _).mono ?_
                                rintro e w7 ⟨rfl, rfl⟩
                                rw [Hfb.out]
                                cases fb with
                                | true =>
                                  go_wp2_with fail
                                  refine (rrel_any (HO.out.kept0 HR5.out.g).q HL.out.2.2.2.2.1 ((k : Int) + 1) h2 (by rw [← Hh2.out]; rfl)).mono ?_
                                  rintro e w9 ⟨z, rfl, hz, rfl⟩
                                  cases h2 with
                                  | false =>
                                    have hzl : z < 0 := hz.2 rfl
                                    clear hz
                                    go_wp2
                                    go_meet
                                    exact ⟨by rw [← Hcb.out]; simp [wantB], HR5⟩
                                  | true =>
                                    have hzl : ¬ (z < 0) := fun h => by have := hz.1 h; cases this
                                    have hzb : decide (z < 0) = false := by simpa using hzl
                                    clear hz hzl
                                    go_wp2
                                    go_meet
                                    exact ⟨by rw [← Hcb.out]; simp [wantB], HR5⟩
                                | false =>
                                  by_cases hla : op = 15
                                  · have Hla := hid hla
                                    have hlb : (op == 15) = true := by simpa using hla
                                    clear hla
                                    go_wp2_with fail
                                    refine (rrel_any (HO.out.kept0 HR5.out.g).q HL.out.2.2.2.2.1 ((k : Int) + 1) h2 (by rw [← Hh2.out]; rfl)).mono ?_
                                    rintro e w9 ⟨z, rfl, hz, rfl⟩
                                    cases h2 with
                                    | false =>
                                      have hzl : z < 0 := hz.2 rfl
                                      clear hz
                                      go_wp2
                                      go_meet
                                      exact ⟨by rw [← Hcb.out]; simp [wantB, Hla.out], HR5⟩
                                    | true =>
                                      have hzl : ¬ (z < 0) := fun h => by have := hz.1 h; cases this
                                      have hzb : decide (z < 0) = false := by simpa using hzl
                                      clear hz hzl
                                      go_wp2
                                      go_meet
                                      exact ⟨by rw [← Hcb.out]; simp [wantB, Hla.out], HR5⟩
                                  · have hlb : (op == 15) = false := by simpa using hla
                                    have Hla := hid hla
                                    clear hla
                                    go_wp2
                                    go_meet
                                    exact ⟨by rw [← Hcb.out]; simp [wantB, Hla.out], HR5⟩
                            · have h1b : (mk == 1) = false := by simpa using h1m
                              have H1m := hid h1m
                              clear h1m
                              go_wp2
                              go_meet
                              exact ⟨by rw [← Hcb.out]; simp [wantB, H1m.out], HR⟩
                          case rest =>
                            obtain ⟨rfl, HC⟩ := hcut
                            clear HR HVF
                            cases cb with
                            | true =>
                              have hx : unV y4 x (k + 1) = some (6, some k) := by rw [Hnx.out, Hwant.out]; rfl
                              have Hx := hid hx
                              clear hx
                              go_wp2_with fail
                              refine (placed_any 107 k (by decide) _).mono ?_
                              rintro e w8 ⟨rfl, hg⟩
                              have HC2 := hid (HC.out.kept0 hg)
                              have HC3 := hid (HC2.out.put (some (6, some k)))
                              clear hg
                              go_wp2_with (first
                                | (refine wpList_store_rw rfl 31 _ _ rfl rfl rfl HC2.out.f info_flt9 rfl (by simp [Value.oneCell']) ?_)
                                | fail)
                              go_roundw
                              case rel => exact ⟨k + 1, Hlt.out, by go_num, hid (by rw [Hx.out]; exact HC3.out)⟩
                              case measure => simp [intOf]; have := Hlt.out; omega
                            | false =>
                              have hx : unV y4 x (k + 1) = none := by rw [Hnx.out, Hwant.out]; rfl
                              have Hx := hid hx
                              clear hx
                              go_wp2
                              go_roundw
                              case rel => exact ⟨k + 1, Hlt.out, by go_num, hid (by rw [Hx.out]; exact HC.out)⟩
                              case measure => simp [intOf]; have := Hlt.out; omega
                        · have hfc : (fltC u == 0) = false := by
                            cases u with
                            | none => exact absurd rfl hun
                            | some z => simpa using fltC_ne z
                          have hfin := Hend.out (.inr hun)
                          have Hfin := hid hfin
                          clear hfin hun hlt
                          have E := hid (HR.out.res.row #[.int .i64 (fltC u), .bool (fltB u), .int .i64 (fltN u)])
                          have EG := hid (grown_setRow HR.out.g HRb.out #[.int .i64 (fltC u), .bool (fltB u), .int .i64 (fltN u)])
                          go_wp2_with (first
                            | (refine wpList_load_rw rfl 31 _ rfl rfl HR.out.f rfl Tryz.underlying31 info_flt9 ?_)
                            | (refine wpList_store_rw rfl 31 _ _ rfl rfl rfl HR.out.res info_flt9 rfl (by simp [Value.oneCell']) ?_)
                            | fail)
                          refine bodyPost_ret (results_cell_row Tryz.results41 _ _ R _ _ _ _ rfl E.out.blk Tryz.underlying31 rfl info_flt9) rfl ?_
                          exact ⟨by rw [← Hfin.out]; rfl, EG.out⟩
                      · obtain rfl : k = nM := by omega
                        have kn : ¬ ((k : Int) < (k : Int)) := by omega
                        have hfin := Hend.out (.inl rfl)
                        have Hfin := hid hfin
                        clear hfin hlt
                        have E := hid (HR.out.res.row #[.int .i64 (fltC u), .bool (fltB u), .int .i64 (fltN u)])
                        have EG := hid (grown_setRow HR.out.g HRb.out #[.int .i64 (fltC u), .bool (fltB u), .int .i64 (fltN u)])
                        go_wp2_with (first
                          | (refine wpList_load_rw rfl 31 _ rfl rfl HR.out.f rfl Tryz.underlying31 info_flt9 ?_)
                          | (refine wpList_store_rw rfl 31 _ _ rfl rfl rfl HR.out.res info_flt9 rfl (by simp [Value.oneCell']) ?_)
                          | fail)
                        refine bodyPost_ret (results_cell_row Tryz.results41 _ _ R _ _ _ _ rfl E.out.blk Tryz.underlying31 rfl info_flt9) rfl ?_
                        exact ⟨by rw [← Hfin.out]; rfl, EG.out⟩
      · have hv : validP x = some (8, none) := by unfold validP; rw [if_neg (by rw [Hmb.out]; simp), if_pos (by have := HN.out; omega)]
        have hlb : ((nM : Int) != (nC : Int)) = true := by simp only [bne_iff_ne]; omega
        have hlb2 : (nM == nC) = false := by simpa using hlen
        have Hv := hid hv
        clear hv hlen
        go_wp2_with fail
        refine (bare_any 109 _).mono ?_
        rintro e w2 ⟨rfl, hg⟩
        rw [faultV]
        have HR2 := hid (HR1.out.kept0 hg)
        have E := hid (HR2.out.row #[.int .i64 109, .bool false, .int .i64 0])
        have EG := hid (grown_setRow (grown_trans HG1.out hg) HRb.out #[.int .i64 109, .bool false, .int .i64 0])
        clear hg
        go_wp2_with (first
          | (refine wpList_store_rw rfl 31 _ _ rfl rfl rfl HR2.out info_flt9 rfl (by simp [Value.oneCell']) ?_)
          | fail)
        refine bodyPost_ret (results_cell_row Tryz.results41 _ _ R _ _ _ _ rfl E.out.blk Tryz.underlying31 rfl info_flt9) rfl ?_
        exact ⟨by rw [Hv.out]; rfl, EG.out⟩
theorem rvalid_any {W : World} {V : OV} {x : PO} (h : OAt W V x) (hf : OFit x) (hL : x.D.length ≤ 1000000 ∧ x.C.length ≤ 1000000 ∧ x.M.length ≤ 1000000 ∧ x.R.length ≤ 1000000 ∧ x.Q.length ≤ 1000000 ∧ x.S.length ≤ 1000000) :
    Calls Tryz.prog 11 #[V.agg] W fun e w' => e = .returned (flV (validP x)) ∧ W.grownBy w' none := by
  obtain ⟨d, c, m, r, q, s⟩ := V
  have HB0 := hid ((RwAt.new W 27 #[d, c, m, r, q, s]).alloc (.cells #[.int .i64 0, .bool false, .int .i64 0] 31))
  have HR0 := hid (RwAt.new2 W (.cells #[d, c, m, r, q, s] 27) 31 #[.int .i64 0, .bool false, .int .i64 0])
  have HG0 := hid (grown_trans (World.grownBy_alloc W (.cells #[d, c, m, r, q, s] 27) none) (World.grownBy_alloc _ (.cells #[.int .i64 0, .bool false, .int .i64 0] 31) none))
  have HO := hid h
  have HF := hid hf
  have HL := hid hL
  clear h hf hL
  have Hz := zero_flt6
  go_enter Tryz.func11, Tryz.ntmps11
  go_upto_region 1 with (fail)
  obtain ⟨R, hR⟩ : ∃ R, W.heap.size + 1 = R := ⟨_, rfl⟩
  have HRb : Hid (W.heap.size ≤ R) := hid (by omega)
  obtain ⟨G, hG⟩ : ∃ G, W.heap.size = G := ⟨_, rfl⟩
  rw [hR] at HR0
  rw [hG] at HB0
  generalize (W.alloc (.cells #[d, c, m, r, q, s] 27)).alloc (.cells #[.int .i64 0, .bool false, .int .i64 0] 31) = w1 at HB0 HR0 HG0 ⊢
  try rw [hR]
  try rw [hG]
  clear hR hG Hz
  go_wp2_with (first
    | (refine wpList_load_rw rfl 27 _ rfl rfl HB0.out rfl Tryz.underlying27 info_object ?_)
    | fail)
  refine (rval_any (V := ⟨d, c, m, r, q, s⟩) (HO.out.kept0 HG0.out) HF.out HL.out).mono ?_
  rintro e w2 ⟨rfl, hg⟩
  rw [f3V_is]
  have HR2 := hid (HR0.out.kept0 hg)
  have E := hid (HR2.out.row #[.int .i64 (fltC (validP x)), .bool (fltB (validP x)), .int .i64 (fltN (validP x))])
  have EG := hid (grown_setRow (grown_trans HG0.out hg) HRb.out #[.int .i64 (fltC (validP x)), .bool (fltB (validP x)), .int .i64 (fltN (validP x))])
  clear hg
  go_wp2_with (first
    | (refine wpList_store_rw rfl 31 _ _ rfl rfl rfl HR2.out info_flt9 rfl (by simp [Value.oneCell']) ?_)
    | fail)
  refine bodyPost_ret (results_cell_row Tryz.results11 _ _ R _ _ _ _ rfl E.out.blk Tryz.underlying31 rfl info_flt9) rfl ?_
  exact ⟨rfl, EG.out⟩
end Go.Proofs.YtgahbpfmiibpeaaGreatDoor
