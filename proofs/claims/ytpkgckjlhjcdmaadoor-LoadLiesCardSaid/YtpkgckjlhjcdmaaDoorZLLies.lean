/- The law LoadLies: walked. -/
import Derived.Test.YtpkgckjlhjcdmaaDoorZGLdC
import Derived.Test.YtpkgckjlhjcdmaaDoorZGRWalk
import Derived.Test.YtpkgckjlhjcdmaaDoorZGWay
import Derived.Deep.Cut
namespace Go.Proofs.YtpkgckjlhjcdmaaDoor
open Go.RowKit
/-- words copied so far -/
def cpL (xs : List Int) (k : Nat) : List Int := xs.take k ++ List.replicate (xs.length - k) 0
theorem cpL_zero (xs : List Int) : cpL xs 0 = List.replicate xs.length 0 := by simp [cpL]
theorem cpL_all (xs : List Int) : cpL xs xs.length = xs := by simp [cpL]
theorem cpL_succ {xs : List Int} {k : Nat} {y : Int} (h : xs[k]? = some y) : (cpL xs k).set k y = cpL xs (k + 1) := by
  have hk := (List.getElem?_eq_some_iff.1 h).1
  unfold cpL
  obtain ⟨m, hm⟩ : ∃ m, xs.length - k = m + 1 := ⟨xs.length - k - 1, by omega⟩
  rw [hm, show xs.length - (k + 1) = m by omega, List.replicate_succ, List.take_add_one, h, List.set_append_right _ _ (by rw [List.length_take]; omega), List.length_take, Nat.min_eq_left (by omega), Nat.sub_self]
  simp
section
variable {x : Ig} {q n : Nat}
theorem lies_data (hq : 17 + pgN x.D ≤ q) (hq2 : q ≤ 256) (hd : pgN x.D ≤ 128) (hc : pgN x.C ≤ 128) (hn : n = q + pgN x.C) {T : Nat} (h : T / 16 < pgN x.D) (wr : Bool) :
    wayB (pageO (memI x q) n 0 ((T : Int) / 16)) n wr true = true ∧ wayV (pageO (memI x q) n 0 ((T : Int) / 16)) n T wr true = (((17 + T / 16) * 16 + T % 16 : Nat) : Int) := by
  have hp := memI_page hq hq2 hd hc hn (T / 16) (by omega)
  rw [show (T : Int) / 16 = ((T / 16 : Nat) : Int) from by omega, hp, if_pos h]
  have hB : wayB (some ((17 + ((T / 16 : Nat) : Int)) * 256 + 7)) n wr true = true := by
    rw [way_some (X := true) (U := true) (by unfold wB; simp; omega) (by unfold uB; simp; omega) (by omega)]
    simp
  refine ⟨hB, ?_⟩
  unfold wayV
  rw [if_pos hB]
  show ((17 + ((T / 16 : Nat) : Int)) * 256 + 7) / 256 * 16 + (T : Int) % 16 = _
  omega
theorem lies_code (hq : 17 + pgN x.D ≤ q) (hq2 : q ≤ 256) (hd : pgN x.D ≤ 128) (hc : pgN x.C ≤ 128) (hn : n = q + pgN x.C) {T : Nat} (h0 : 128 ≤ T / 16) (h : T / 16 < 128 + pgN x.C) :
    wayB (pageO (memI x q) n 0 ((T : Int) / 16)) n false true = true ∧ wayB (pageO (memI x q) n 0 ((T : Int) / 16)) n true true = false ∧ wayV (pageO (memI x q) n 0 ((T : Int) / 16)) n T false true = (((q + (T / 16 - 128)) * 16 + T % 16 : Nat) : Int) := by
  have hp := memI_page hq hq2 hd hc hn (T / 16) (by omega)
  rw [show (T : Int) / 16 = ((T / 16 : Nat) : Int) from by omega, hp, if_neg (by omega), if_pos ⟨h0, h⟩]
  have hB : ∀ wr, wayB (some (((q : Int) + ((T / 16 - 128 : Nat) : Int)) * 256 + 5)) n wr true = !wr := by
    intro wr
    rw [way_some (X := false) (U := true) (by unfold wB; simp; omega) (by unfold uB; simp; omega) (by omega)]
    cases wr <;> rfl
  refine ⟨hB false, hB true, ?_⟩
  unfold wayV
  rw [if_pos (show wayB (some (((q : Int) + ((T / 16 - 128 : Nat) : Int)) * 256 + 5)) n false true = true from hB false)]
  show (((q : Int) + ((T / 16 - 128 : Nat) : Int)) * 256 + 5) / 256 * 16 + (T : Int) % 16 = _
  omega
theorem lies_none (hq : 17 + pgN x.D ≤ q) (hq2 : q ≤ 256) (hd : pgN x.D ≤ 128) (hc : pgN x.C ≤ 128) (hn : n = q + pgN x.C) {T : Nat} (h0 : ¬ T / 16 < pgN x.D) (h : ¬ (128 ≤ T / 16 ∧ T / 16 < 128 + pgN x.C)) (wr : Bool) :
    wayB (pageO (memI x q) n 0 ((T : Int) / 16)) n wr true = false ∧ wayV (pageO (memI x q) n 0 ((T : Int) / 16)) n T wr true = 0 := by
  have hp : pageO (memI x q) n 0 ((T : Int) / 16) = none := by
    by_cases h256 : T / 16 < 256
    · have hp := memI_page hq hq2 hd hc hn (T / 16) h256
      rw [show (T : Int) / 16 = ((T / 16 : Nat) : Int) from by omega, hp, if_neg h0, if_neg h]
    · exact pageO_out (by omega)
  rw [hp]
  exact ⟨rfl, rfl⟩
end
/-- where the walk stands: the image in its box -/
structure LdW (W w : World) (I : Nat) (V : IV) (x : Ig) : Prop where
  g : W.grownBy w none
  box : RwAt w I 29 (imgC V x.e)
  im : ImAt w V x
theorem LdW.kept0 {W w w1 : World} {I : Nat} {V : IV} {x : Ig} (h : LdW W w I V x) (hg : w.grownBy w1 none) : LdW W w1 I V x := ⟨grown_trans h.g hg, h.box.kept0 hg, h.im.kept0 hg⟩
/-- both memories -/
structure LcW (W w : World) (I m b n cap m2 b2 : Nat) (V : IV) (x : Ig) (xs ys : List Int) : Prop where
  l : LdW W w I V x
  mem : MemAt w m b n cap xs
  ref : RefAt w m2 b2 (n * 16) ys
  ap : W.heap.size ≤ b2 ∧ m ≠ b2 ∧ b ≠ b2 ∧ I ≠ b2
theorem LcW.kept0 {W w w1 : World} {I m b n cap m2 b2 : Nat} {V : IV} {x : Ig} {xs ys : List Int} (h : LcW W w I m b n cap m2 b2 V x xs ys) (hg : w.grownBy w1 none) : LcW W w1 I m b n cap m2 b2 V x xs ys := ⟨h.l.kept0 hg, h.mem.kept0 hg, h.ref.kept0 hg, h.ap⟩
theorem LcW.write {W w w1 : World} {I m b n cap m2 b2 : Nat} {V : IV} {x : Ig} {xs ys zs : List Int} (h : LcW W w I m b n cap m2 b2 V x xs ys) (h0 : ImAt W V x) (hr : RefAt w1 m2 b2 (n * 16) zs) (hg : w.grownBy w1 (some b2)) : LcW W w1 I m b n cap m2 b2 V x xs zs := by
  have hW := grown_new' (grown_trans (grown_none h.l.g) hg) (fun j hj => by obtain rfl := Option.some.inj hj; exact h.ap.1)
  exact ⟨⟨hW, h.l.box.kept hg (fun e => h.ap.2.2.2 (Option.some.inj e)), h0.kept0 hW⟩, h.mem.kept hg (fun e => h.ap.2.1 (Option.some.inj e)) (fun e => h.ap.2.2.1 (Option.some.inj e)), hr, h.ap⟩
set_option maxRecDepth 100000 in
set_option maxHeartbeats 16000000 in
theorem lies_walk (V : IV) (x : Ig) (q at0 : Int) (W : World) (A : Nat → Addr) (hE : LdE W A) (hi : ImAt W V x) (q0 : -9223372036854775808 ≤ q) (q1 : q ≤ 9223372036854775807) (a0 : 0 ≤ at0) (a1 : at0 ≤ 4294967295) :
    Calls Tryd.prog 6 #[.agg (imgC V x.e), .int .i64 q, .int .u32 at0] W fun e W' => e = .returned (.bool true) ∧ Below W.heap.size W W' := by
  have al := World.grownBy_alloc W (.cells (imgC V x.e) 29) none
  have HL0 : Hid (LdW W (W.alloc (.cells (imgC V x.e) 29)) W.heap.size V x) := hid ⟨al, RwAt.new W _ _, hi.kept0 al⟩
  have HI := hid hi
  have HE := hid hE
  obtain ⟨T, hT⟩ : ∃ T : Nat, at0 % 4200 = (T : Int) := ⟨(at0 % 4200).toNat, by omega⟩
  have hT2 : T < 4200 := by omega
  have HIe : Hid (∀ j, W.heap.size + 1 ≤ j → W.heap.size ≠ j) := hid (fun j h => by omega)
  clear hi hE al
  go_enter Tryd.func6, Tryd.ntmps6
  go_upto_region 1 with (fail)
  have HIs : Hid (W.heap.size + 1 ≤ (W.alloc (.cells (imgC V x.e) 29)).heap.size) := hid (by simp)
  generalize W.alloc (.cells (imgC V x.e) 29) = w1 at HL0 HIs ⊢
  obtain ⟨I, hI⟩ : ∃ I, W.heap.size = I := ⟨_, rfl⟩
  rw [hI] at HL0 HIs HIe ⊢
  clear hI
  go_wp2_with fail
  refine (first14_any _).mono ?_; rintro e w2 ⟨rfl, hg⟩
  have HL2 := hid (HL0.out.kept0 hg)
  have HIs2 := hid (Nat.le_trans HIs.out hg.size)
  clear hg HL0 HIs
  go_wp2_with (first
    | (refine wpList_load_im (by kernel_rfl) _ rfl rfl HL2.out.box ?_)
    | fail)
  by_cases hl : lightI V 300 = true
  · refine (limage_any V x.e _ 300 300 rfl true hl).mono ?_; rintro e w3 ⟨rfl, hg⟩
    have HL3 := hid (HL2.out.kept0 hg)
    have HIs3 := hid (Nat.le_trans HIs2.out hg.size)
    clear hg HL2 HIs2
    have HE3 := hid (HE.out.kept0 HL3.out.g)
    obtain ⟨dp, dn, dc, cp, cn, cc, rp, rn, rc, pp, pn, pc, sp, sn, sc⟩ := V
    unfold lightI at hl
    have hl := of_decide_eq_true hl
    simp only at hl
    obtain ⟨l1, l2, _⟩ := hl
    go_wp2_with (first
      | (refine wpList_load_im (by kernel_rfl) _ rfl rfl HL3.out.box ?_)
      | fail)
    by_cases hcode : codeB x q = 0
    · obtain ⟨hv, hq1, hq2⟩ := codeB_fine hcode
      unfold quoI at hq1
      obtain ⟨Q, hQ⟩ := Int.eq_ofNat_of_zero_le (show 0 ≤ q by omega)
      subst hQ
      obtain ⟨n, hn⟩ : ∃ n, Q + pgN x.C = n := ⟨_, rfl⟩
      refine (bare_yes HL3.out.im HE3.out (Q : Int) Q rfl hcode n hn).mono ?_
      rintro e w4 ⟨p, rfl, hB⟩
      have hdl := HL3.out.im.dl
      have hcl := HL3.out.im.cl
      simp only at hdl hcl
      have hpd : pgN x.D ≤ 19 := by unfold pgN; omega
      have hpc : pgN x.C ≤ 19 := by unfold pgN; omega
      have Hq : Hid (17 + pgN x.D ≤ Q ∧ Q ≤ 256 ∧ pgN x.D ≤ 128 ∧ pgN x.C ≤ 128 ∧ n = Q + pgN x.C) := hid ⟨by omega, by omega, by omega, by omega, hn.symm⟩
      have hwU := mem_u32 HL3.out.im (Q := Q) (by omega)
      have HU := hid hwU
      have HL4 := hid (HL3.out.kept0 hB.old)
      have HIs4 := hid (Nat.le_trans HIs3.out hB.old.size)
      have HB := hid hB
      clear hwU hB HL3 HE3 HIs3 hcode hv
      go_wp2_with fail
      refine (mb_mem HB.out).mono ?_
      rintro e w5 ⟨m, b, cap, rfl, hm, hb, hM, hg⟩
      have HL5 := hid (HL4.out.kept0 hg)
      have HM5 : Hid (MemAt w5 m b n cap (memI x Q)) := hid hM
      have Hlen : Hid ((memI x Q).length = n * 16) := hid hM.len
      clear hm hb hM hg HL4 HB
      go_wp2_with fail
      refine (frames_any HM5.out).mono ?_; rintro e w6 ⟨rfl, rfl⟩
      go_wp2_with fail
      refine (rnew_of _ n rfl (by have := Hq.out; omega)).mono ?_
      rintro e w6 ⟨m2, b2, rfl, hm2, hb2, hR, hg⟩
      have HC : Hid (LcW W w6 I m b n cap m2 b2 ⟨dp, dn, dc, cp, cn, cc, rp, rn, rc, pp, pn, pc, sp, sn, sc⟩ x (memI x Q) (cpL (memI x Q) 0)) := hid ⟨HL5.out.kept0 hg, HM5.out.kept0 hg, by rw [cpL_zero, Hlen.out]; exact hR,
        ⟨Nat.le_trans HL5.out.g.size hb2, by have := HM5.out.mlt; omega, by have := HM5.out.blt; omega, by have := HL5.out.box.lt; omega⟩⟩
      clear hm2 hb2 hR hg HL5 HM5
      obtain ⟨N, hN⟩ : ∃ N, n * 16 = N := ⟨_, rfl⟩
      have hN1 : 16 * (n : Int) = (N : Int) := by omega
      have HN := hid hN
      have hN2 : (N : Int) ≤ 20000 := by have := Hq.out; omega
      have n0 : (0 : Int) ≤ (n : Int) := by omega
      have n1 : (n : Int) ≤ 1024 := by have := Hq.out; omega
      clear hN
      go_wp2
      go_loopw [12] (fun i wr => ∃ k : Nat, k ≤ N ∧ i = .int .i64 k ∧ Hid (LcW W wr I m b n cap m2 b2 ⟨dp, dn, dc, cp, cn, cc, rp, rn, rc, pp, pn, pc, sp, sn, sc⟩ x (memI x Q) (cpL (memI x Q) k))) (fun i _ => N - (intOf i).toNat)
      case atStart => exact ⟨0, Nat.zero_le _, rfl, HC⟩
      case round =>
        clear HC
        obtain ⟨k, hk, rfl, HC⟩ := hrel
        have k0 : (0 : Int) ≤ (k : Int) := by omega
        go_wp2_with fail
        refine (frames_any HC.out.mem).mono ?_; rintro e w6 ⟨rfl, rfl⟩
        by_cases hlt : k < N
        · have k1 : (k : Int) < (N : Int) := by omega
          obtain ⟨y, hy⟩ : ∃ y, (memI x Q)[k]? = some y := ⟨_, List.getElem?_eq_getElem (by rw [Hlen.out, HN.out]; exact hlt)⟩
          have Hy := hid hy
          clear hy
          go_wp2_with fail
          refine (read_of HC.out.mem _ k y rfl Hy.out).mono ?_; rintro e w7 ⟨rfl, rfl⟩
          go_wp2_with fail
          refine (rwrite_yes HC.out.ref k y (by rw [HN.out]; exact hlt)).mono ?_
          rintro e w8 ⟨rfl, hr, hg⟩
          rw [cpL_succ Hy.out] at hr
          have HC2 := hid (HC.out.write HI.out hr hg)
          clear hr hg HC
          go_wp2
          go_roundw
          case rel => exact ⟨k + 1, by omega, by go_num, HC2⟩
          case measure => simp [intOf]; omega
        · have k1 : ¬ (k : Int) < (N : Int) := by omega
          have hkN : k = (memI x Q).length := by rw [Hlen.out, HN.out]; omega
          have hc0 := HC.out
          rw [hkN, cpL_all] at hc0
          have HC1 := hid hc0
          clear hc0 HC hkN
          obtain ⟨d, hd⟩ : ∃ d, (dn + 15) / 16 = d := ⟨_, rfl⟩
          obtain ⟨c, hc⟩ : ∃ c, (cn + 15) / 16 = c := ⟨_, rfl⟩
          have Hd : Hid (pgN x.D = d ∧ pgN x.C = c) := hid (by unfold pgN; rw [hdl, hcl]; exact ⟨hd, hc⟩)
          go_wp2_with (first
            | (refine wpList_load_im (by kernel_rfl) _ rfl rfl HC1.out.l.box ?_)
            | fail)
          refine (pages_any ⟨dp, dn, dc, cp, cn, cc, rp, rn, rc, pp, pn, pc, sp, sn, sc⟩ x.e _ (by simp only; omega) (by simp only; omega) d c hd hc).mono ?_; rintro e w9 ⟨rfl, hg⟩
          have HC2 := hid (HC1.out.kept0 hg)
          clear hg HC1
          have d0 : (0 : Int) ≤ (d : Int) := by omega
          have d1 : (d : Int) ≤ 19 := by omega
          have c0 : (0 : Int) ≤ (c : Int) := by omega
          have c1 : (c : Int) ≤ 19 := by omega
          have t0 : (0 : Int) ≤ (T : Int) := by omega
          have t1 : (T : Int) < 4200 := by omega
          obtain ⟨P, hP⟩ : ∃ P, T / 16 = P := ⟨_, rfl⟩
          have hP1 : (T : Int) / 16 = (P : Int) := by omega
          have HPp := hid hP
          have p0 : (0 : Int) ≤ (P : Int) := by omega
          have p1 : (P : Int) < 263 := by omega
          clear hd hc k0 k1 hk hlt hN1 hN2 hP
          by_cases hc1 : T / 16 < pgN x.D
          · have hpd1 : (P : Int) < (d : Int) := by have := Hd.out; have := HPp.out; omega
            have hp128 : ¬ (128 : Int) ≤ (P : Int) := by omega
            have h1 := lies_data Hq.out.1 Hq.out.2.1 Hq.out.2.2.1 Hq.out.2.2.2.1 Hq.out.2.2.2.2 hc1 false
            have h2 := lies_data Hq.out.1 Hq.out.2.1 Hq.out.2.2.1 Hq.out.2.2.2.1 Hq.out.2.2.2.2 hc1 true
            have hgz := memI_data Hq.out.1 hc1
            obtain ⟨R, hR⟩ : ∃ R, (17 + T / 16) * 16 + T % 16 = R := ⟨_, rfl⟩
            rw [hR] at h1 h2 hgz
            have H1 := hid h1
            have H2 := hid h2
            have Hg0 := hid hgz
            have Hc1 := hid hc1
            clear h1 h2 hgz hR hc1
            go_wp2_with fail
            refine (rwalk_any HC2.out.ref rfl (by have := Hq.out; omega) HU.out 0 (T : Int) (by omega) (by omega) false true _ _ H1.out.1 H1.out.2).mono ?_
            rintro e w10 ⟨rfl, hg⟩
            have HC3 := hid (HC2.out.kept0 hg)
            clear hg HC2
            go_wp2_with fail
            refine (rwalk_any HC3.out.ref rfl (by have := Hq.out; omega) HU.out 0 (T : Int) (by omega) (by omega) true true _ _ H2.out.1 H2.out.2).mono ?_
            rintro e w11 ⟨rfl, hg⟩
            have HC5 := hid (HC3.out.kept0 hg)
            clear hg HC3 H1 H2
            obtain ⟨z, hz⟩ : ∃ z, x.D.getD T 0 = z := ⟨_, rfl⟩
            have hgz := Hg0.out
            rw [hz] at hgz
            have HGz := hid hgz
            have Hz := hid hz
            clear hgz hz
            go_wp2_with fail
            refine (read_of HC5.out.mem _ _ z rfl HGz.out).mono ?_; rintro e w6 ⟨rfl, rfl⟩
            have hbox := HC5.out.l.box
            have c1 := hbox.cell 1 (v := .slice dp dn dc) rfl
            have c2 := hbox.cell 2 (v := .slice cp cn cc) rfl
            clear hbox
            by_cases hin : T < dn
            · have hin1 : (T : Int) < (dn : Int) := by omega
              obtain ⟨bb, o, cap', hv, hb, hcell⟩ := sl_at HC5.out.l.im.d (by have e := HC5.out.l.im.dl; simp only at e; omega)
              simp only [Value.slice.injEq] at hv
              obtain ⟨rfl, hv2, rfl⟩ := hv
              have hcd := hcell T z (by
                have e := HC5.out.l.im.dl
                simp only at e
                have hz := Hz.out
    
                rw [List.getD, List.getElem?_eq_getElem (by omega)] at hz
                rw [List.getElem?_eq_getElem (by omega)]
                exact congrArg some hz)
              clear hv2 hcell hb
              go_wp2
              go_ret
              exact ⟨rfl, grown_below HC5.out.l.g⟩
            · have hin1 : ¬ (T : Int) < (dn : Int) := by omega
              have hz0 : z = 0 := by
                have e := HC5.out.l.im.dl
                simp only at e
                rw [← Hz.out, List.getD, List.getElem?_eq_none (by omega)]; rfl
              subst hz0
              go_wp2
              go_ret
              exact ⟨rfl, grown_below HC5.out.l.g⟩
          · have hpd1 : ¬ (P : Int) < (d : Int) := by have := Hd.out; have := HPp.out; omega
            by_cases hc2 : 128 ≤ T / 16 ∧ T / 16 < 128 + pgN x.C
            · have hp128 : (128 : Int) ≤ (P : Int) := by have := HPp.out; omega
              have hpc1 : (P : Int) < 128 + (c : Int) := by have := Hd.out; have := HPp.out; omega
              have h1 := lies_code Hq.out.1 Hq.out.2.1 Hq.out.2.2.1 Hq.out.2.2.2.1 Hq.out.2.2.2.2 hc2.1 hc2.2
              have hgz := memI_code Hq.out.1 (show 2048 ≤ T by omega) (show T / 16 - 128 < pgN x.C by omega)
              obtain ⟨R, hR⟩ : ∃ R, (Q + (T / 16 - 128)) * 16 + T % 16 = R := ⟨_, rfl⟩
              have h2048 : 2048 ≤ T := by omega
              rw [hR] at h1 hgz
              have H1 := hid h1
              have Hg0 := hid hgz
              clear h1 hgz hR hc1 hc2
              go_wp2_with fail
              refine (rwalk_any HC2.out.ref rfl (by have := Hq.out; omega) HU.out 0 (T : Int) (by omega) (by omega) false true _ _ H1.out.1 H1.out.2.2).mono ?_
              rintro e w10 ⟨rfl, hg⟩
              have HC3 := hid (HC2.out.kept0 hg)
              clear hg HC2
              obtain ⟨v2, hv2⟩ : ∃ v2, wayV (pageO (memI x Q) n 0 ((T : Int) / 16)) n T true true = v2 := ⟨_, rfl⟩
              have Hv2 := hid hv2
              clear hv2
              go_wp2_with fail
              refine (rwalk_any HC3.out.ref rfl (by have := Hq.out; omega) HU.out 0 (T : Int) (by omega) (by omega) true true _ _ H1.out.2.1 Hv2.out).mono ?_
              rintro e w11 ⟨rfl, hg⟩
              have HC5 := hid (HC3.out.kept0 hg)
              clear hg HC3 H1 Hv2
              obtain ⟨z, hz⟩ : ∃ z, x.C.getD (T - 2048) 0 = z := ⟨_, rfl⟩
              have hgz := Hg0.out
              rw [hz] at hgz
              have HGz := hid hgz
              have Hz := hid hz
              clear hgz hz
              go_wp2_with fail
              refine (read_of HC5.out.mem _ _ z rfl HGz.out).mono ?_; rintro e w6 ⟨rfl, rfl⟩
              have hbox := HC5.out.l.box
              have c1 := hbox.cell 1 (v := .slice dp dn dc) rfl
              have c2 := hbox.cell 2 (v := .slice cp cn cc) rfl
              clear hbox
              obtain ⟨U, hU⟩ : ∃ U, T = 2048 + U := ⟨T - 2048, by omega⟩
              have hU1 : (T : Int) - 2048 = (U : Int) := by omega
              by_cases hin : U < cn
              · have hin1 : (U : Int) < (cn : Int) := by omega
                obtain ⟨bb, o, cap', hv, hb, hcell⟩ := sl_at HC5.out.l.im.c (by have e := HC5.out.l.im.cl; simp only at e; omega)
                simp only [Value.slice.injEq] at hv
                obtain ⟨rfl, hv2, rfl⟩ := hv
                have hcd := hcell U z (by
                  have e := HC5.out.l.im.cl
                  simp only at e
                  have hz := Hz.out
                  rw [hU, show 2048 + U - 2048 = U from by omega] at hz
                  rw [List.getD, List.getElem?_eq_getElem (by omega)] at hz
                  rw [List.getElem?_eq_getElem (by omega)]
                  exact congrArg some hz)
                clear hv2 hcell hb
                go_wp2
                go_ret
                exact ⟨rfl, grown_below HC5.out.l.g⟩
              · have hin1 : ¬ (U : Int) < (cn : Int) := by omega
                have hz0 : z = 0 := by
                  have e := HC5.out.l.im.cl
                  simp only at e
                  rw [← Hz.out, List.getD, List.getElem?_eq_none (by omega)]; rfl
                subst hz0
                go_wp2
                go_ret
                exact ⟨rfl, grown_below HC5.out.l.g⟩
            · have H1 := hid (lies_none Hq.out.1 Hq.out.2.1 Hq.out.2.2.1 Hq.out.2.2.2.1 Hq.out.2.2.2.2 hc1 hc2 false)
              have H2 := hid (lies_none Hq.out.1 Hq.out.2.1 Hq.out.2.2.1 Hq.out.2.2.2.1 Hq.out.2.2.2.2 hc1 hc2 true)
              have hor : ¬ (128 : Int) ≤ (P : Int) ∨ ¬ (P : Int) < 128 + (c : Int) := by have := Hd.out; have := HPp.out; omega
              have Hor := hid hor
              clear hor
              go_wp2_with fail
              refine (rwalk_any HC2.out.ref rfl (by have := Hq.out; omega) HU.out 0 (T : Int) (by omega) (by omega) false true _ _ H1.out.1 H1.out.2).mono ?_
              rintro e w10 ⟨rfl, hg⟩
              have HC3 := hid (HC2.out.kept0 hg)
              clear hg HC2
              go_wp2_with fail
              refine (rwalk_any HC3.out.ref rfl (by have := Hq.out; omega) HU.out 0 (T : Int) (by omega) (by omega) true true _ _ H2.out.1 H2.out.2).mono ?_
              rintro e w11 ⟨rfl, hg⟩
              have HC5 := hid (HC3.out.kept0 hg)
              clear hg HC3 H1 H2
              rcases Hor.out with hp128 | hpc1
              · clear Hor
                go_wp2
                all_goals try (exfalso; omega)
                go_ret
                exact ⟨rfl, grown_below HC5.out.l.g⟩
              · clear Hor
                by_cases hp128 : (128 : Int) ≤ (P : Int)
                · go_wp2
                  all_goals try (exfalso; omega)
                  go_ret
                  exact ⟨rfl, grown_below HC5.out.l.g⟩
                · exfalso; omega
    · refine (bare_no HL3.out.im HE3.out (by simp only; omega) (by simp only; omega) q q0 q1 hcode).mono ?_
      rintro e w4 ⟨rfl, hg⟩
      have HL4 := hid (HL3.out.kept0 hg)
      have hcv : codeB x q = 104 ∨ codeB x q = 103 := by
        unfold codeB at hcode ⊢
        rcases valI_cases x with h | h | h <;> rw [h] at hcode ⊢
        · exact .inl rfl
        · exact .inr rfl
        · rw [if_neg (by decide)] at hcode ⊢
          by_cases h2 : q < (quoI x : Int) ∨ 256 < q
          · rw [if_pos h2]; exact .inr rfl
          · rw [if_neg h2] at hcode; exact absurd rfl hcode
      clear hg HL3 HE3 hcode
      rcases hcv with h | h
      · rw [h, lvV_many]
        have hn := run_err_nil (A 3)
        unfold errV at hn ⊢
        clear h
        go_wp2
        go_ret
        exact ⟨rfl, grown_below HL4.out.g⟩
      · rw [h, lvV_range]
        have hn := run_err_nil (A 2)
        unfold errV at hn ⊢
        clear h
        go_wp2
        go_ret
        exact ⟨rfl, grown_below HL4.out.g⟩
  · have hl := Bool.eq_false_iff.2 hl
    refine (limage_any V x.e _ 300 300 rfl false hl).mono ?_; rintro e w3 ⟨rfl, hg⟩
    have HL3 := hid (HL2.out.kept0 hg)
    clear hg HL2
    go_wp2
    go_ret
    exact ⟨rfl, grown_below HL3.out.g⟩
end Go.Proofs.YtpkgckjlhjcdmaaDoor
