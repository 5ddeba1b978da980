/- The document's Bools and Relax: contracts. -/
import Derived.Test.YtmhkghkfpkekbaaRel9
namespace Go.Proofs.Ytmhkghkfpkekbaa
open Go.RowKit
structure B9W (W w : World) (v : Value) (n : Nat) (xs : List Bool) : Prop where
  gr : W.grownBy w none
  own : w.ownsRow W.heap.size 4 1 v n (xs.map Value.bool)
set_option maxRecDepth 100000 in
set_option maxHeartbeats 4000000 in
theorem bools_any {W : World} {vb : Value} {B : List Bool} (hb : BlAt W vb B) (hB : B.length ≤ 1000000) :
    Calls Try.prog 20 #[vb] W fun e w' => ∃ u, e = .returned u ∧ w'.ownsRow W.heap.size 4 1 u B.length (B.map Value.bool) ∧ W.grownBy w' none := by
  obtain ⟨p, c, hv⟩ := hb.len
  subst hv
  obtain ⟨n, hn⟩ : ∃ n, B.length = n := ⟨_, rfl⟩
  have HNe := hid hn
  have HBl := hid hb
  have Hn1 : Hid (n ≤ 1000000) := hid (by omega)
  rw [hn]
  have n0 : (0 : Int) ≤ (n : Int) := by omega
  have n1 : (n : Int) ≤ 1000000 := by omega
  obtain ⟨i, hi, hz0, hz1, hz2⟩ := info_boolR
  have Hi := hid hi
  have Hz0 := hid hz0
  have Hz1 := hid hz1
  have Hz2 := hid hz2
  obtain ⟨w1, hmk, how, hgr⟩ := run_make_own (P := Try.prog) W W.heap.size 24 4 i _ 1 Try.underlying24 hi hz0 hz1 .i64 .i64 n (by rw [hz2]; omega) (by unfold maxLen; omega) (Nat.le_refl _)
  have HA : Hid (B9W W w1 (.slice (some ⟨W.heap.size, 0, none⟩) 0 n) 0 (B.take 0)) := hid ⟨hgr, how⟩
  clear hi hz0 hz1 hz2 how hgr hb hB hn
  go_enter Try.func20, Try.ntmps20
  go_wp2
  clear hmk
  go_loopw [3, 4] (fun u j wr => ∃ k : Nat, k ≤ n ∧ j = .int .i64 k ∧ Hid (B9W W wr u k (B.take k))) (fun _ j _ => n - (intOf j).toNat)
  case atStart => exact ⟨0, Nat.zero_le _, rfl, HA⟩
  case round =>
    obtain ⟨k, hk, rfl, HR⟩ := hrel
    clear HA
    have k0 : (0 : Int) ≤ (k : Int) := by omega
    obtain ⟨up, uc, rfl⟩ := own_slice HR.out.own
    by_cases hlt : k < n
    · have kn : (k : Int) < (n : Int) := by omega
      have Hlt := hid hlt
      obtain ⟨bb, ob, cb', hvb, hbb, cB⟩ := BlAt.item (HBl.out.kept0 HR.out.gr) (k := k) (by rw [HNe.out]; exact hlt)
      simp only [Value.slice.injEq] at hvb
      obtain ⟨rfl, -, -⟩ := hvb
      have Htk : Hid (B.take (k + 1) = B.take k ++ [B.getD k false]) := hid (by rw [List.take_add_one, List.getD_eq_getElem?_getD, List.getElem?_eq_getElem (by rw [HNe.out]; exact hlt)]; rfl)
      generalize B.getD k false = x at cB Htk
      have al := World.grownBy_alloc wr (.cells #[.bool x] 4) none
      have HRa : Hid (B9W W (wr.alloc (.cells #[.bool x] 4)) (.slice up k uc) k (B.take k)) := hid ⟨grown_trans HR.out.gr al, HR.out.own.kept al (by cases (Value.slice up k uc).ownBlock <;> simp)⟩
      have HNw : Hid (∀ j u, [Value.bool x][j]? = some u → (wr.alloc (.cells #[.bool x] 4)).cell? ((⟨wr.heap.size, 0, none⟩ : Addr).add j) = some u) := hid (World.news_of_block (heap_alloc_new wr _))
      clear hlt hk hbb al
      go_wp2_with (first
        | (refine wpList_append_lies _ rfl _ _ 24 rfl W.heap.size 4 i _ 1 1 Try.underlying24 Hi.out Hz0.out Hz1.out Hz2.out rfl (by decide) _ k _ rfl HRa.out.own ⟨wr.heap.size, 0, none⟩ 1 1 _ rfl rfl HNw.out (by simp [Value.oneCell']) (by decide) (by have := Hlt.out; have := Hn1.out; unfold maxLen; omega) (by have := Hlt.out; have := Hn1.out; omega) HRa.out.gr.size _ rfl ?_
           intro g5 cap w5 hown hgrow hat hlt2
           have HO := hid hown
           have hgrow0 : (wr.alloc (.cells #[.bool x] 4)).grownBy w5 (Value.slice up k uc).ownBlock := hgrow
           have hgw : wr.grownBy w5 (Value.slice up k uc).ownBlock := grown_trans (World.grownBy_alloc wr _ _) hgrow0
           have hgW : W.grownBy w5 none := grown_new' (grown_trans (grown_none HR.out.gr) hgw) (fun j hj => (HR.out.own.lt j hj).1)
           have HGW := hid hgW
           clear hown hgrow hat hlt2 hgrow0 hgw hgW)
        | fail)
      go_roundw
      case rel =>
        refine ⟨k + 1, Hlt.out, by go_num, hid ⟨HGW.out, ?_⟩⟩
        rw [Htk.out, List.map_append]
        exact HO.out
      case measure => simp [intOf]; have := Hlt.out; omega
    · obtain rfl : k = n := by omega
      clear hlt
      have kn : ¬ ((k : Int) < (k : Int)) := by omega
      go_wp2
      go_ret
      have h1 := HR.out.own
      rw [List.take_of_length_le (by rw [HNe.out]; exact Nat.le_refl _)] at h1
      exact ⟨_, rfl, h1, HR.out.gr⟩
theorem farR_ne {L : List RIt} {B : List Bool} {k : Nat} : (!decide (farR L B (k + 1) = [])) = ((!decide (farR L B k = [])) || tooB L B k) := by
  cases h : tooB L B k
  · rw [farR_succ_no h]; simp
  · rw [farR_succ_yes h]; simp
theorem stR_far_yes {L : List RIt} {B : List Bool} {k : Nat} (h : tooB L B k = true) : stR B (farR L B (k + 1)) = (stR B (farR L B k)).set k true := by
  rw [farR_succ_yes h, stR_snoc, Int.toNat_natCast]
theorem stR_far_no {L : List RIt} {B : List Bool} {k : Nat} (h : tooB L B k = false) : stR B (farR L B (k + 1)) = stR B (farR L B k) := by
  rw [farR_succ_no h]
/-- the loop within: what is long now, where each begins, what becomes long -/
structure R9W (W w : World) (n : Nat) (B : List Bool) (lv av nv : Value) (L : List RIt) (k : Nat) : Prop where
  gr : W.grownBy w none
  lng : w.ownsRow W.heap.size 4 1 lv n (B.map Value.bool)
  at_ : SlAt w .i64 av (plsR L B (n + 1))
  nxt : w.ownsRow W.heap.size 4 1 nv n ((stR B (farR L B k)).map Value.bool)
  n1 : lv.ownBlock = none ∨ lv.ownBlock ≠ nv.ownBlock
  n2 : av.ownBlock = none ∨ av.ownBlock ≠ nv.ownBlock
theorem R9W.kept0 {W w w1 : World} {n k : Nat} {B : List Bool} {lv av nv : Value} {L : List RIt} (h : R9W W w n B lv av nv L k) (hg : w.grownBy w1 none) : R9W W w1 n B lv av nv L k :=
  ⟨grown_trans h.gr hg, h.lng.kept hg (by cases lv.ownBlock <;> simp), h.at_.kept0 hg, h.nxt.kept hg (by cases nv.ownBlock <;> simp), h.n1, h.n2⟩
theorem R9W.skip {W w : World} {n k : Nat} {B : List Bool} {lv av nv : Value} {L : List RIt} (h : R9W W w n B lv av nv L k) (hf : tooB L B k = false) : R9W W w n B lv av nv L (k + 1) :=
  ⟨h.gr, h.lng, h.at_, by rw [stR_far_no hf]; exact h.nxt, h.n1, h.n2⟩
theorem R9W.set {W w : World} {n k : Nat} {B : List Bool} {lv av : Value} {g cap : Nat} {L : List RIt} (h : R9W W w n B lv av (.slice (some ⟨g, 0, none⟩) n cap) L k) (hf : tooB L B k = true) :
    R9W W (w.setCell ⟨g, k, none⟩ (.bool true)) n B lv av (.slice (some ⟨g, 0, none⟩) n cap) L (k + 1) := by
  obtain ⟨h1, h2⟩ := h.nxt.stored k (.bool true)
  have hge := (h.nxt.lt g rfl).1
  refine ⟨grown_new' (grown_trans (grown_none h.gr) h2) (fun j hj => by obtain rfl := Option.some.inj hj; exact hge), h.lng.kept h2 h.n1, h.at_.kept h2 h.n2, ?_, h.n1, h.n2⟩
  rw [stR_far_yes hf, List.map_set]
  exact h1
set_option maxRecDepth 100000 in
set_option maxHeartbeats 8000000 in
theorem relax9_rel {W : World} {v : Value} {L : List RIt} {K : Nat} (h : RiAt W v L) (hv : validR L = true) (hK : RndR L K) :
    Calls Try.prog 16 #[v] W fun e w' => ∃ u, e = .returned (.tuple #[u, .int .i64 K]) ∧ w'.ownsRow W.heap.size 4 1 u L.length ((itR L K).map Value.bool) ∧ W.grownBy w' none := by
  unfold validR at hv
  rw [Bool.and_eq_true, decide_eq_true_eq] at hv
  have hL := hv.1
  have HO := hid hv.2
  obtain ⟨p, c, hvv⟩ := h.len
  subst hvv
  have HA := hid h
  have HK := hid hK
  have HKb := hid (rnd_bound hK)
  obtain ⟨n, hn⟩ : ∃ n, L.length = n := ⟨_, rfl⟩
  have HNe := hid hn
  rw [hn] at hL ⊢
  have n0 : (0 : Int) ≤ (n : Int) := by omega
  have n1 : (n : Int) ≤ 4096 := by omega
  have Hn1 := hid hL
  have HPl : Hid (∀ (w : World) (vb : Value) (B : List Bool), W.grownBy w none → BlAt w vb B → B.length = n → Calls Try.prog 18 #[.slice p n c, vb] w fun e w' => ∃ u, e = .returned u ∧ w'.ownsRow w.heap.size 3 1 u (n + 1) ((plsR L B (n + 1)).map (Value.int .i64)) ∧ w.grownBy w' none) := hid (fun w vb B hg hb hB => by
    have := places9_rel (HA.out.kept0 hg) hb (by rw [HNe.out]; exact hB) HO.out (by rw [HNe.out]; omega)
    rw [HNe.out] at this
    exact this)
  have HBo : Hid (∀ (w : World) (vb : Value) (B : List Bool), BlAt w vb B → B.length = n → Calls Try.prog 20 #[vb] w fun e w' => ∃ u, e = .returned u ∧ w'.ownsRow w.heap.size 4 1 u n (B.map Value.bool) ∧ w.grownBy w' none) := hid (fun w vb B hb hB => by
    have := bools_any hb (by omega)
    rw [hB] at this
    exact this)
  obtain ⟨i, hi, hz0, hz1, hz2⟩ := info_boolR
  have Hi := hid hi
  have Hz0 := hid hz0
  have Hz1 := hid hz1
  have Hz2 := hid hz2
  clear h hv hK hL hn hi hz0 hz1 hz2
  go_enter Try.func16, Try.ntmps16
  go_wp2_with (first
    | (refine wpList_make_full _ rfl _ _ 24 rfl W.heap.size 4 i _ 1 Try.underlying24 Hi.out Hz0.out Hz1.out .i64 .i64 _ _ n rfl rfl (by first | rfl | omega) (by first | rfl | omega) (by rw [Hz2.out]; have := Hn1.out; omega) (by have := Hn1.out; unfold maxLen; omega) (Nat.le_refl _) ?_
       intro w3 hmk hgr
       rw [show (Value.bool false).cells = Array.replicate 1 (.bool false) from rfl, toList_madeZero _ _ 1 (by omega), Array.toList_replicate, Nat.mul_one] at hmk
       have HP : Hid (B9W W w3 (.slice (some ⟨W.heap.size, 0, none⟩) n n) n (itR L 0)) := hid ⟨hgr, by
         unfold itR; rw [List.map_replicate, HNe.out]; exact hmk⟩
       clear hmk hgr)
    | fail)
  go_loopw [4, 5] (fun lv r wr => ∃ j : Nat, j ≤ K ∧ r = .int .i64 j ∧ Hid (B9W W wr lv n (itR L j))) (fun _ r _ => K - (intOf r).toNat)
  case atStart => exact ⟨0, Nat.zero_le _, rfl, HP⟩
  case round =>
    obtain ⟨j, hj, rfl, HR⟩ := hrel
    clear HP
    have j0 : (0 : Int) ≤ (j : Int) := by omega
    have j1 : (j : Int) ≤ 4096 := by have := HKb.out; have := HNe.out; omega
    have Hj := hid hj
    obtain ⟨lp, lc, rfl⟩ := own_slice HR.out.own
    have HBln : Hid ((itR L j).length = n) := hid (by rw [itR_length, HNe.out])
    have HB0 : Hid (∀ w', BlAt w' (.slice lp n lc) (itR L j) = CsAt w' (.slice lp n lc) n ((itR L j).map Value.bool)) := hid (fun w' => by unfold BlAt; rw [HBln.out])
    clear hj
    go_wp2_with fail
    refine (HPl.out _ _ _ HR.out.gr (by rw [HB0.out]; exact CsAt.own HR.out.own) HBln.out).mono ?_
    rintro e w4 ⟨av, rfl, hat, hg⟩
    have HAt := hid hat
    have HR4 : Hid (B9W W w4 (.slice lp n lc) n (itR L j)) := hid ⟨grown_trans HR.out.gr hg, HR.out.own.kept hg (by cases (Value.slice lp n lc).ownBlock <;> simp)⟩
    have HGa := hid HR.out.gr.size
    clear hat hg HR
    go_wp2_with fail
    refine (HBo.out _ _ _ (by rw [HB0.out]; exact CsAt.own HR4.out.own) HBln.out).mono ?_
    rintro e w5 ⟨nv, rfl, hnx, hg⟩
    have HW : Hid (R9W W w5 n (itR L j) (.slice lp n lc) av nv L 0) := hid (by
      refine ⟨grown_trans HR4.out.gr hg, HR4.out.own.kept hg (by cases (Value.slice lp n lc).ownBlock <;> simp), (SlAt.own HAt.out : SlAt w4 .i64 av _).kept0 hg, own_base hnx HR4.out.gr.size, ?_, ?_⟩
      · cases e : (Value.slice lp n lc).ownBlock with
        | none => exact .inl rfl
        | some b =>
          refine .inr (fun e2 => ?_)
          have h1 := (HR4.out.own.lt b e).2
          have h2 := (hnx.lt b e2.symm).1
          omega
      · cases e : av.ownBlock with
        | none => exact .inl rfl
        | some b =>
          refine .inr (fun e2 => ?_)
          have h1 := (HAt.out.lt b e).2
          have h2 := (hnx.lt b e2.symm).1
          omega)
    obtain ⟨np, nc, rfl⟩ := own_slice hnx
    have h0 : (!decide (farR L (itR L j) 0 = [])) = false := by simp [farR]
    clear hnx hg HR4 HAt
    obtain ⟨B, hBj⟩ : ∃ B, itR L j = B := ⟨_, rfl⟩
    have HBj := hid hBj
    rw [hBj] at HW HBln h0
    clear hBj HB0
    go_wp2
    go_loopw [8, 9] (fun mo i w2 => ∃ k : Nat, k ≤ n ∧ i = .int .i64 k ∧ mo = .bool (!decide (farR L B k = [])) ∧ Hid (R9W W w2 n B (.slice lp n lc) av (.slice np n nc) L k)) (fun _ i _ => n - (intOf i).toNat)
    case atStart => exact ⟨0, Nat.zero_le _, rfl, by rw [h0], HW⟩
    case round =>
      obtain ⟨k, hk, rfl, rfl, HI⟩ := hrel
      clear HW h0
      have k0 : (0 : Int) ≤ (k : Int) := by omega
      have hmo := farR_ne (L := L) (B := B) (k := k)
      obtain ⟨mb, hmb⟩ : ∃ mb, (!decide (farR L B k = [])) = mb := ⟨_, rfl⟩
      rw [hmb] at hmo ⊢
      have HMo := hid hmo
      have HMb := hid hmb
      clear hmo hmb
      by_cases hlt : k < n
      · have kn : (k : Int) < (n : Int) := by omega
        have Hlt := hid hlt
        obtain ⟨r, hr⟩ : ∃ r, L[k]? = some r := ⟨_, List.getElem?_eq_getElem (by have := HNe.out; omega)⟩
        have hfar : tooB L B k = (r.b && !(B.getD k false) && !(nearR (plR L B r.t.toNat - plR L B k))) := by unfold tooB; rw [hr]
        have hrt : r.b = true → 0 ≤ r.t ∧ r.t ≤ (n : Int) := fun hb => by
          have := List.all_eq_true.1 HO.out r (List.mem_of_getElem? hr)
          simp only [okRI, Bool.and_eq_true, Bool.or_eq_true, Bool.not_eq_true', hb, decide_eq_true_eq, HNe.out] at this
          simpa using this.2
        obtain ⟨b, o, c', hv, hb, c0, c1, c2⟩ := RiAt.item (HA.out.kept0 HI.out.gr) hr
        simp only [Value.slice.injEq] at hv
        obtain ⟨rfl, -, -⟩ := hv
        have hbl : BlAt _ (.slice lp n lc) B := (by unfold BlAt; rw [HBln.out]; exact CsAt.own HI.out.lng)
        obtain ⟨bb, ob, cb', hvb, hbb, cB⟩ := BlAt.item hbl (by rw [HBln.out]; exact hlt)
        simp only [Value.slice.injEq] at hvb
        obtain ⟨rfl, -, -⟩ := hvb
        obtain ⟨s, t, br⟩ := r
        simp only at c0 c1 c2 hfar hrt
        obtain ⟨bk, hbk⟩ : ∃ bk, B.getD k false = bk := ⟨_, rfl⟩
        rw [hbk] at cB hfar
        have Hfar := hid hfar
        have Hrt := hid hrt
        clear hr hlt hb hk hbl hbb hfar hrt hbk
        cases br
        · have HF : Hid (tooB L B k = false) := hid (by rw [Hfar.out]; simp)
          go_wp2
          go_roundw
          case rel => exact ⟨k + 1, Hlt.out, by go_num, by rw [HMo.out, HF.out]; simp, hid (HI.out.skip HF.out)⟩
          case measure => simp [intOf]; have := Hlt.out; omega
        · cases bk
          · obtain ⟨T, rfl⟩ := Int.eq_ofNat_of_zero_le (Hrt.out rfl).1
            have hT := (Hrt.out rfl).2
            obtain ⟨P, hP⟩ : ∃ P, plR L B k = P := ⟨_, rfl⟩
            obtain ⟨Q, hQ⟩ : ∃ Q, plR L B T = Q := ⟨_, rfl⟩
            have hPb := plR_bd HO.out k (B := B)
            have hQb := plR_bd HO.out T (B := B)
            obtain ⟨ff, hff⟩ : ∃ ff, nearR (Q - P) = ff := ⟨_, rfl⟩
            have HF := Hfar.out
            rw [Int.toNat_natCast, hP, hQ, hff] at HF
            have HF := hid HF
            rw [hP] at hPb
            rw [hQ] at hQb
            obtain ⟨ab, ao, ac, hva, hab, hca⟩ := HI.out.at_.at_ (by rw [plsR_length]; omega)
            rw [plsR_length] at hva
            subst hva
            have cT := hca T Q (by rw [plsR_get (by omega), hQ])
            have ck := hca k P (by rw [plsR_get (by have := Hlt.out; omega), hP])
            have Hfit := fits9_any (s := s) (br := true) (c := ac) (N := n + 1) (by omega) (by have := Hlt.out; omega) (by have := Hn1.out; omega) hab cT ck (by have := Hlt.out; have := Hn1.out; omega) (by have := Hn1.out; omega)
            rw [hff] at Hfit
            have Hfit := hid Hfit
            clear hT hP hQ hPb hQb hff hab hca cT ck Hfar Hrt
            go_wp2_with fail
            refine Hfit.out.mono ?_
            rintro e w6 ⟨rfl, hg⟩
            have HI6 := hid (HI.out.kept0 hg)
            clear hg HI Hfit
            cases ff
            · have HF2 : Hid (tooB L B k = true) := hid (by rw [HF.out]; rfl)
              obtain ⟨g, hg⟩ : ∃ g, np = some ⟨g, 0, none⟩ := by
                rcases HI6.out.nxt.2 with ⟨h, h0⟩ | ⟨g, cap, cur, h, _⟩
                · have := Hlt.out; omega
                · simp only [Value.slice.injEq] at h; exact ⟨g, h.1⟩
              subst hg
              have HI7 := hid (HI6.out.set HF2.out)
              obtain ⟨cc, ec⟩ : ∃ cc, _ = some (Value.bool cc) := ⟨_, (HI6.out.nxt.cellAt k (by have := Hlt.out; omega)).trans (by rw [List.getElem?_map, List.getElem?_eq_getElem (by rw [stR_length, HBln.out]; exact Hlt.out), Option.map_some])⟩
              have fz := HI6.out.nxt.frozenAt k
              clear HI6
              go_wp2
              go_roundw
              case rel => exact ⟨k + 1, Hlt.out, by go_num, by rw [HMo.out, HF2.out]; simp, HI7⟩
              case measure => simp [intOf]; have := Hlt.out; omega
            · have HF2 : Hid (tooB L B k = false) := hid (by rw [HF.out]; rfl)
              go_wp2
              go_roundw
              case rel => exact ⟨k + 1, Hlt.out, by go_num, by rw [HMo.out, HF2.out]; simp, hid (HI6.out.skip HF2.out)⟩
              case measure => simp [intOf]; have := Hlt.out; omega
          · have HF : Hid (tooB L B k = false) := hid (by rw [Hfar.out]; simp)
            go_wp2
            go_roundw
            case rel => exact ⟨k + 1, Hlt.out, by go_num, by rw [HMo.out, HF.out]; simp, hid (HI.out.skip HF.out)⟩
            case measure => simp [intOf]; have := Hlt.out; omega
      · obtain rfl : k = n := by omega
        clear hlt
        have kn : ¬ ((k : Int) < (k : Int)) := by omega
        have h1 := HMb.out
        by_cases hF : farR L B k = []
        · obtain rfl : mb = false := by rw [← h1, hF]; rfl
          have hjK : j = K := by
            by_cases e : j < K
            · have := HK.out.2 j e
              rw [HNe.out, HBj.out] at this
              exact absurd hF this
            · have := Hj.out; omega
          subst hjK
          clear h1 hF
          go_wp2
          refine bodyPost_ret (v := .tuple #[.slice lp k lc, .int .i64 j]) (by simp [results, Try.results16, go_sem]) rfl ?_
          exact ⟨_, rfl, by rw [HBj.out]; exact HI.out.lng, HI.out.gr⟩
        · obtain rfl : mb = true := by rw [← h1]; simpa using hF
          have hjK : j < K := by
            rcases Nat.lt_or_ge j K with e | e
            · exact e
            · obtain rfl : j = K := by have := Hj.out; omega
              have h2 := HK.out.1
              rw [HNe.out, HBj.out] at h2
              exact absurd h2 hF
          have HjK := hid hjK
          have h3 := HI.out.nxt
          have hst : stR B (farR L B k) = itR L (j + 1) := by
            rw [← HBj.out, ← HNe.out, stR_next (itR_length j)]; rfl
          rw [hst] at h3
          have HP : Hid (B9W W _ (.slice np k nc) k (itR L (j + 1))) := hid ⟨HI.out.gr, h3⟩
          clear h1 hF hjK h3 hst HI
          go_wp2
          go_roundw
          case rel => exact ⟨j + 1, HjK.out, by go_num, HP⟩
          case measure => simp [intOf]; have := HjK.out; omega
end Go.Proofs.Ytmhkghkfpkekbaa
