/- Package link: all code laid out: contracts. -/
import Derived.Test.YtnpnafidhcnkhaaGreatDoorYRel5
import Derived.Test.YtnpnafidhcnkhaaGreatDoorYLnkR
import Derived.Test.YtnpnafidhcnkhaaGreatDoorYLnk7
namespace Go.Proofs.YtnpnafidhcnkhaaGreatDoor
open Go.RowKit
theorem info_wholeL : (Tryz.prog.info? 75).map (·.size) = some 5 := by kernel_rfl
/-- what is asked of a whole -/
structure WhQ (W : World) (v2 v3 v5 : Value) (X : Wh) : Prop where
  c : ∃ p c, v2 = .slice p X.C.length c
  k : SlAt W .u8 v3 X.K
  q : CsAt W v5 X.Q.length (fxsL X.Q)
  l : X.K.length = X.C.length
  n : X.C.length ≤ 1000000
  m : X.Q.length ≤ 1000000
  z : X.K[0]? ≠ some 0
  b : ∀ r ∈ X.Q, r.k = 2 → ∃ a c : Nat, r.a = a ∧ a < X.C.length ∧ r.t.a = c ∧ c < X.C.length
theorem WhQ.kept0 {W W1 : World} {v2 v3 v5 : Value} {X : Wh} (h : WhQ W v2 v3 v5 X) (hg : W.grownBy W1 none) : WhQ W1 v2 v3 v5 X := ⟨h.c, h.k.kept0 hg, h.q.kept0 hg, h.l, h.n, h.m, h.z, h.b⟩
def ItsAt (W : World) (X : Wh) (e : Ending) (w' : World) : Prop :=
  ∃ vi vo : Value, e = .returned (.tuple #[vi, vo]) ∧ w'.ownsRow W.heap.size 150 3 vi (itsP X).length (itsC (itsP X)) ∧ w'.ownsRow W.heap.size 3 1 vo X.C.length ((ofL X.K X.C.length X.C.length).map (Value.int .i64)) ∧ W.grownBy w' none
theorem WhQ.items {W : World} {v2 v3 v5 : Value} {X : Wh} (h : WhQ W v2 v3 v5 X) (v1 v4 : Value) : Calls Tryz.prog 51 #[.agg #[v1, v2, v3, v4, v5]] W (ItsAt W X) := items_any W v1 v2 v3 v4 v5 X h.c h.k h.q h.l h.n h.m h.z h.b
theorem RiAt.ownL {w : World} {B n : Nat} {t : TypeId} {v : Value} {l : List RIt} (h : w.ownsRow B t 3 v n (itsC l)) (hl : l.length = n) : RiAt w v l := by
  subst hl
  exact CsAt.own h
set_option maxRecDepth 100000 in
set_option maxHeartbeats 8000000 in
theorem layOut_no (W : World) (v1 v2 v3 v4 v5 : Value) (X : Wh) (h : WhQ W v2 v3 v5 X) (hv : validR (itsP X) = false) :
    Calls Tryz.prog 39 #[.agg #[v1, v2, v3, v4, v5]] W fun e w' => e = .returned (.tuple #[.slice none 0 0, .bool false]) ∧ W.grownBy w' none := by
  have HB := hid (RwAt.new W 75 #[v1, v2, v3, v4, v5])
  have HG := hid (World.grownBy_alloc W (.cells #[v1, v2, v3, v4, v5] 75) none)
  have HQ := hid (h.kept0 HG.out)
  have HV := hid hv
  clear h hv
  go_enter Tryz.func39, Tryz.ntmps39
  go_upto_region 1 with (fail)
  generalize W.alloc (.cells #[v1, v2, v3, v4, v5] 75) = w1 at HB HG HQ ⊢
  obtain ⟨b, hb⟩ : ∃ b, W.heap.size = b := ⟨_, rfl⟩
  rw [hb] at HB ⊢
  clear hb
  go_wp2_with (first
    | (refine wpList_load_rw rfl 75 _ rfl rfl HB.out rfl Tryz.underlying75 info_wholeL ?_)
    | fail)
  refine (HQ.out.items v1 v4).mono ?_
  rintro e w2 ⟨vi, vo, rfl, h1, h2, hg⟩
  have HG2 := hid (grown_trans HG.out hg)
  have HRi := hid (RiAt.ownL h1 rfl)
  have hJ : (itsP X).length ≤ 1000000 := by
    rw [← itB_all, itB_length (by rw [HQ.out.l]; exact Nat.le_refl _)]
    exact Nat.le_trans (itN_le _ _) HQ.out.n
  have HJ := hid hJ
  clear h1 h2 hg hJ HB HG HQ
  go_wp2_with fail
  refine (do_noR HRi.out HJ.out HV.out).mono ?_
  rintro e w3 ⟨rfl, hg⟩
  have HG3 := hid (grown_trans HG2.out hg)
  clear hg
  go_wp2
  go_ret2
  exact ⟨rfl, HG3.out⟩
/-- where the loop over the words stands -/
structure LdW (w5 w : World) (g N : Nat) (F : List Int) : Prop where
  gr : w5.grownBy w none
  ld : w.ownsRow w5.heap.size 3 1 (.slice (some ⟨g, 0, none⟩) N N) N (F.map (Value.int .i64))
theorem LdW.kept0 {w5 w w1 : World} {g N : Nat} {F : List Int} (h : LdW w5 w g N F) (hg : w.grownBy w1 none) : LdW w5 w1 g N F := ⟨grown_trans h.gr hg, h.ld.kept hg (.inr (fun e => by cases e))⟩
theorem LdW.set {w5 w : World} {g N : Nat} {F : List Int} (h : LdW w5 w g N F) (k : Nat) (v : Int) : LdW w5 (w.setCell ⟨g, k, none⟩ (.int .i64 v)) g N (F.set k v) := by
  have hs := h.ld.stored k (.int .i64 v)
  refine ⟨grown_new' (grown_trans (grown_none h.gr) hs.2) (fun k hk => (h.ld.lt k hk).1), ?_⟩
  rw [List.map_set]
  exact hs.1
set_option maxRecDepth 100000 in
set_option maxHeartbeats 16000000 in
theorem layOut_yes (W : World) (v1 v2 v3 v4 v5 : Value) (X : Wh) (h : WhQ W v2 v3 v5 X) (hv : validR (itsP X) = true) {Kr : Nat} (hr : RndR (itsP X) Kr) :
    Calls Tryz.prog 39 #[.agg #[v1, v2, v3, v4, v5]] W fun e w' => ∃ vl, e = .returned (.tuple #[vl, .bool true]) ∧ w'.ownsRow W.heap.size 3 1 vl (X.C.length + 1) ((ldL X (itR (itsP X) Kr)).map (Value.int .i64)) ∧ W.grownBy w' none := by
  obtain ⟨p2, c2, rfl⟩ := h.c
  obtain ⟨n, hn⟩ : ∃ n, X.C.length = n := ⟨_, rfl⟩
  obtain ⟨N, hN⟩ : ∃ N, n + 1 = N := ⟨_, rfl⟩
  have HNN := hid hN
  have Hn := hid hn
  have hnb := h.n
  rw [hn] at hnb ⊢
  rw [hN]
  have Hnb := hid hnb
  have n0 : (0 : Int) ≤ (n : Int) := by omega
  have n1 : (n : Int) ≤ 1000000 := by omega
  have N0 : (0 : Int) ≤ (N : Int) := by omega
  have N1 : (N : Int) ≤ 1000001 := by omega
  have nN : (n : Int) + 1 = (N : Int) := by omega
  have nNw : IntKind.i64.wrap ((n : Int) + 1) = (N : Int) := by rw [IntKind.wrap_i64]; omega
  obtain ⟨i', hi', hy0, hy1, hy2⟩ := info_intL
  have Hi' := hid hi'
  have Hy0 := hid hy0
  have Hy1 := hid hy1
  have Hy2 := hid hy2
  have HB := hid (RwAt.new W 75 #[v1, .slice p2 n c2, v3, v4, v5])
  have HG := hid (World.grownBy_alloc W (.cells #[v1, .slice p2 n c2, v3, v4, v5] 75) none)
  have HQ := hid (h.kept0 HG.out)
  rw [hn] at HQ
  have HV := hid hv
  have HR := hid hr
  clear h hv hr hn hN hnb hi' hy0 hy1 hy2
  go_enter Tryz.func39, Tryz.ntmps39
  go_upto_region 1 with (fail)
  generalize W.alloc (.cells #[v1, .slice p2 n c2, v3, v4, v5] 75) = w1 at HB HG HQ ⊢
  obtain ⟨b, hb⟩ : ∃ b, W.heap.size = b := ⟨_, rfl⟩
  have Hbe := hid hb
  rw [hb] at HB ⊢
  clear hb
  go_wp2_with (first
    | (refine wpList_load_rw rfl 75 _ rfl rfl HB.out rfl Tryz.underlying75 info_wholeL ?_)
    | fail)
  refine (HQ.out.items v1 v4).mono ?_
  rintro e w2 ⟨vi, vo, rfl, h1, h2, hg⟩
  rw [Hn.out] at h2
  have HG2 := hid (grown_trans HG.out hg)
  have HB2 := hid (HB.out.kept0 hg)
  have HQ2 := hid (HQ.out.kept0 hg)
  have HRi := hid (RiAt.ownL h1 rfl)
  have HOf := hid (SlAt.own h2)
  have hlen : (itsP X).length = itN X.K n := by rw [← itB_all, itB_length (by rw [HQ.out.l]; exact Nat.le_refl _), Hn.out]
  have HLen := hid hlen
  obtain ⟨J, hJ⟩ : ∃ J, (itsP X).length = J := ⟨_, rfl⟩
  have hJ4 : J ≤ 4096 := by have h := HV.out; unfold validR at h; rw [Bool.and_eq_true, decide_eq_true_eq] at h; omega
  have HOk : Hid (okR (itsP X) = true) := hid (by have h := HV.out; unfold validR at h; rw [Bool.and_eq_true] at h; exact h.2)
  have HJ := hid hJ
  have J0 : (0 : Int) ≤ (J : Int) := by omega
  have J1 : (J : Int) ≤ 4096 := by omega
  have HJ4 := hid hJ4
  obtain ⟨pi, ci, rfl⟩ := own_slice h1
  obtain ⟨po, co, rfl⟩ := own_slice h2
  rw [hJ] at HRi ⊢
  clear h1 h2 hg hlen hJ hJ4 HB HG HQ
  go_wp2_with fail
  refine (do_yesR HRi.out HV.out HR.out).mono ?_
  rintro e w3 ⟨ga, rfl, hoa, hg⟩
  rw [HJ.out] at hoa ⊢
  obtain ⟨B, hB⟩ : ∃ B, itR (itsP X) Kr = B := ⟨_, rfl⟩
  have HBl : Hid (B.length = (itsP X).length) := hid (by rw [← hB]; exact itR_length Kr)
  have HBe := hid hB
  rw [hB] at hoa
  have HA3 : Hid (BlAt w3 (.slice (some ⟨ga, 0, none⟩) J J) B) := hid (by have := CsAt.own hoa; unfold BlAt; rw [HBl.out, HJ.out]; exact this)
  have HG3 := hid (grown_trans HG2.out hg)
  have HB3 := hid (HB2.out.kept0 hg)
  have HQ3 := hid (HQ2.out.kept0 hg)
  have HRi3 := hid (HRi.out.kept0 hg)
  have HOf3 := hid (HOf.out.kept0 hg)
  clear hoa hg hB HG2 HB2 HQ2 HRi HOf HR HV
  go_wp2_with fail
  refine (places_rel HRi3.out HA3.out HBl.out HOk.out (by rw [HJ.out]; have := HJ4.out; omega)).mono ?_
  rintro e w4 ⟨gp, rfl, hop, hg⟩
  rw [HJ.out] at hop ⊢
  obtain ⟨M, hM⟩ : ∃ M, J + 1 = M := ⟨_, rfl⟩
  have HM := hid hM
  have jm : (J : Int) < (M : Int) := by omega
  have nlN : (n : Int) < (N : Int) := by omega
  rw [hM] at hop ⊢
  have HP4 := hid (SlAt.own hop)
  have HG4 := hid (grown_trans HG3.out hg)
  have HB4 := hid (HB3.out.kept0 hg)
  have HQ4 := hid (HQ3.out.kept0 hg)
  have HOf4 := hid (HOf3.out.kept0 hg)
  clear hop hg hM HG3 HB3 HQ3 HRi3 HOf3 HA3
  have q1 := HB4.out.cell 1 (v := .slice p2 n c2) rfl
  go_upto_region 7 with (first
    | (refine wpList_make_full _ rfl _ _ 43 rfl w4.heap.size 3 i' _ 1 Tryz.underlying43 Hi'.out Hy0.out Hy1.out .i64 .i64 _ _ N rfl rfl (by first | rfl | omega) (by first | rfl | omega) (by rw [Hy2.out]; have := Hnb.out; have := HNN.out; omega) (by have := Hnb.out; have := HNN.out; unfold maxLen; omega) (Nat.le_refl _) ?_
       intro w5 hmk hgr
       rw [show (Value.int .i64 0).cells = Array.replicate 1 (.int .i64 0) from rfl, toList_madeZero _ _ 1 (by omega), Array.toList_replicate, Nat.mul_one] at hmk
       have HL0 : Hid (LdW w4 w5 w4.heap.size N (ldF X B 0)) := hid ⟨hgr, by rw [ldF_zero, List.map_replicate, Hn.out, HNN.out]; exact hmk⟩
       clear hmk hgr)
    | fail)
  obtain ⟨g, hg⟩ : ∃ g, w4.heap.size = g := ⟨_, rfl⟩
  rw [hg] at HL0 ⊢
  clear hg q1
  go_upto_region 8 with (fail)
  go_loopw [36] (fun i wr => ∃ k : Nat, k ≤ n ∧ i = .int .i64 k ∧ Hid (LdW w4 wr g N (ldF X B k))) (fun i _ => n - (intOf i).toNat)
  case atStart => exact ⟨0, Nat.zero_le _, rfl, HL0⟩
  case round =>
    obtain ⟨k, hk, rfl, HL⟩ := hrel
    clear HL0
    have k0 : (0 : Int) ≤ (k : Int) := by omega
    by_cases hlt : k < n
    · have kn : (k : Int) < (n : Int) := by omega
      have kN : (k : Int) < (N : Int) := by omega
      have Hlt := hid hlt
      have hKl : X.K.length = n := by rw [HQ4.out.l, Hn.out]
      obtain ⟨m, hm⟩ : ∃ m, X.K[k]? = some m := ⟨_, List.getElem?_eq_getElem (by omega)⟩
      have Hm := hid hm
      obtain ⟨bm, om, mc, hv, hbm, hcm⟩ := HQ4.out.k.at_ (by omega)
      rw [hKl] at hv
      subst hv
      have Hem : Hid (∀ w, w4.grownBy w none → w.cell? ⟨bm, om + k, none⟩ = some (.int .u8 m)) := hid (fun w hw => (grown_cell hw (p := ⟨bm, om + k, none⟩) hbm (by simp)).trans (hcm k m hm))
      obtain ⟨bo, oo, oc, hv, hbo, hco⟩ := HOf4.out.at_ (by rw [ofL_length]; omega)
      rw [ofL_length] at hv
      simp only [Value.slice.injEq, true_and] at hv
      obtain ⟨rfl, rfl⟩ := hv
      obtain ⟨T, hT⟩ : ∃ T, itOf X.K k = T := ⟨_, rfl⟩
      have HT := hid hT
      have eo := (grown_cell HL.out.gr (p := ⟨bo, oo + k, none⟩) hbo (by simp)).trans (hco k (T : Int) (by rw [ofL_get hlt, if_pos hlt, hT]))
      have hTJ : T < J := by have h := itOf_lt HQ4.out.z (n := k) (by rw [hKl]; exact hlt); rw [hKl, ← HLen.out, HJ.out, hT] at h; exact h
      obtain ⟨P, hP⟩ : ∃ P, plR (itsP X) B T = P := ⟨_, rfl⟩
      have HP := hid hP
      have hPb := plR_bd HOk.out T (B := B)
      rw [hP] at hPb
      obtain ⟨P0, P1⟩ := hPb
      have P2 : P ≤ 10000000 := by have := HJ4.out; omega
      obtain ⟨bp, op, pc, hv, hbp, hcp⟩ := HP4.out.at_ (by rw [plsR_length]; have := HM.out; omega)
      simp only [Value.slice.injEq, Option.some.injEq, Addr.mk.injEq, and_true] at hv
      obtain ⟨⟨rfl, rfl⟩, -, rfl⟩ := hv
      have ep := (grown_cell HL.out.gr (p := ⟨gp, 0 + T, none⟩) hbp (by simp)).trans (hcp T P (by rw [plsR_get (by have := HM.out; omega), hP]))
      rw [Nat.zero_add] at ep
      have T0 : (0 : Int) ≤ (T : Int) := by omega
      have tm : (T : Int) < (M : Int) := by have := HM.out; omega
      have e0 := HL.out.ld.cellAt k (by have := HNN.out; omega)
      rw [List.getElem?_map, ldF_get (by rw [Hn.out]; omega)] at e0
      simp only [Option.map_some] at e0
      have f0 := HL.out.ld.frozenAt k
      have HS1 := hid (HL.out.set k P)
      clear hm hcm hbm hco hbo hT hTJ hP P1 hcp hbp hKl hlt hk
      go_upto_region 11 with (fail)
      clear eo ep e0 f0 HL
      generalize wr.setCell ⟨g, k, none⟩ (.int .i64 P) = wC at HS1 ⊢
      have c2 := (HB4.out.kept0 HS1.out.gr).cell 2 (v := .slice (some ⟨bm, om, none⟩) n mc) rfl
      have em := Hem.out _ HS1.out.gr
      have hget : X.K.getD k 0 = m := getD_of Hm.out
      have HN0 := hid (ldN_in (W := X) (L := B) (k := k) (by rw [Hn.out]; exact Hlt.out))
      rw [hget, HT.out, HP.out] at HN0
      clear hget
      by_cases hm0 : m = 0
      · subst hm0
        rw [if_pos rfl] at HN0
        have e1 := HS1.out.ld.cellAt k (by have := HNN.out; have := Hlt.out; omega)
        rw [List.getElem?_map, List.getElem?_set_self (by rw [ldF_length, Hn.out]; have := Hlt.out; omega)] at e1
        simp only [Option.map_some] at e1
        have f1 := HS1.out.ld.frozenAt k
        have HS2 := hid (HS1.out.set k (P + 1))
        rw [← HN0.out, ldF_set2] at HS2
        rw [HN0.out] at HS2
        go_wp2
        go_roundw
        case rel => exact ⟨k + 1, Hlt.out, by go_num, HS2⟩
        case measure => simp [intOf]; have := Hlt.out; omega
      · have hb : (m == 0) = false := by simpa using hm0
        rw [if_neg hm0, Int.add_zero] at HN0
        have HS2 : Hid (LdW w4 wC g N (ldF X B (k + 1))) := hid (by
          have h := HS1.out
          rw [← HN0.out, ldF_set] at h
          exact h)
        clear hm0 HS1
        go_wp2
        go_roundw
        case rel => exact ⟨k + 1, Hlt.out, by go_num, HS2⟩
        case measure => simp [intOf]; have := Hlt.out; omega
    · obtain rfl : k = n := by omega
      have kn : ¬ ((k : Int) < (k : Int)) := by omega
      clear hlt hk
      obtain ⟨P, hP⟩ : ∃ P, plR (itsP X) B J = P := ⟨_, rfl⟩
      have HP := hid hP
      have hgd : wr.grownBy wr.drew none := grown_drew (grown_refl wr none)
      have HLd := hid (HL.out.kept0 hgd)
      have q1 := (HB4.out.kept0 HLd.out.gr).cell 1 (v := .slice p2 k c2) rfl
      obtain ⟨bp, op, pc, hv, hbp, hcp⟩ := HP4.out.at_ (by rw [plsR_length]; have := HM.out; omega)
      simp only [Value.slice.injEq, Option.some.injEq, Addr.mk.injEq, and_true] at hv
      obtain ⟨⟨rfl, rfl⟩, -, rfl⟩ := hv
      have ep := (grown_cell HLd.out.gr (p := ⟨gp, 0 + J, none⟩) hbp (by simp)).trans (hcp J P (by rw [plsR_get (by have := HM.out; omega), hP]))
      rw [Nat.zero_add] at ep
      have e0 := HLd.out.ld.cellAt k (by have := HNN.out; omega)
      rw [List.getElem?_map, ldF_get (by rw [Hn.out]; omega)] at e0
      simp only [Option.map_some] at e0
      have f0 := HLd.out.ld.frozenAt k
      have HS1 := hid ((HL.out.set k P).kept0 (grown_drew (grown_refl _ none)))
      clear hP hcp hbp hgd
      go_upto_region 14 with (fail)
      go_region
      go_wp2
      go_ret2
      refine ⟨.slice (some ⟨g, 0, none⟩) N N, rfl, ?_, grown_trans HG4.out HS1.out.gr⟩
      have h := HS1.out.ld
      have hn1 := ldN_end X B
      rw [HJ.out, HP.out] at hn1
      have hF := ldF_set (W := X) (L := B) (n := X.C.length)
      rw [ldF_all, hn1, Hn.out] at hF
      rw [hF] at h
      rw [HBe.out]
      exact own_baseL h HG4.out.size
end Go.Proofs.YtnpnafidhcnkhaaGreatDoor
namespace Go.Proofs.YtnpnafidhcnkhaaGreatDoor
open Go.RowKit
theorem zero_program (w : World) : (zeroValue 78).run Tryz.prog w = .ok (.agg #[.slice none 0 0, .slice none 0 0, .slice none 0 0, .slice none 0 0, .slice none 0 0, .slice none 0 0, .map none]) w := by kernel_rfl
theorem build_program0 (w : World) : (Instr.build 78 #[]).run Tryz.prog w = .ok (.agg #[.slice none 0 0, .slice none 0 0, .slice none 0 0, .slice none 0 0, .slice none 0 0, .slice none 0 0, .map none]) w := by kernel_rfl
theorem build_program (p1 p2 p3 p4 p5 p6 : Option Addr) (n1 c1 n2 c2 n3 c3 n4 c4 n5 c5 n6 c6 b : Nat) (w : World) : (Instr.build 78 #[(0, .agg #[.slice p1 n1 c1, .slice p2 n2 c2, .slice p3 n3 c3, .slice p4 n4 c4, .slice p5 n5 c5]), (1, .slice p6 n6 c6), (2, .map (some b))]).run Tryz.prog w
    = .ok (.agg #[.slice p1 n1 c1, .slice p2 n2 c2, .slice p3 n3 c3, .slice p4 n4 c4, .slice p5 n5 c5, .slice p6 n6 c6, .map (some b)]) w := by kernel_rfl
theorem own_aprt9 {w : World} {Y B n z : Nat} {t e : TypeId} {Z : Array Value} {v : Value} {xs : List Value} (ho : w.ownsRow B e z v n xs) (hy : RwAt w Y t Z) (he : e ≠ t) : v.ownBlock ≠ some Y := by
  intro e1
  rcases ho.2 with ⟨rfl, _⟩ | ⟨g, cap, cur, rfl, _, hb, _⟩
  · cases e1
  · obtain rfl : g = Y := Option.some.inj e1
    have h2 := hb.symm.trans hy.blk
    simp only [Option.some.injEq, Obj.cells.injEq] at h2
    exact he h2.2.1
theorem grown_row (w : World) (R : Nat) (c : Array Value) : w.grownBy (w.setRow R c) (some R) := ⟨rfl, rfl, rfl, by simp [World.setRow], fun i _ hi => setRow_other w R i c (fun e => hi (by rw [e]))⟩
theorem lft_is_e {A : Nat → Addr} {w : World} {v : Value} {f : Nat × Option Nat × Option Nat} (h : LftAt A w v (some f)) : ∃ t p, v = .iface t p ∧ ∀ W, (binOp .neq 47 (.iface t p) .nilIface).run Tryz.prog W = .ok (.bool true) W := by
  obtain ⟨c, k, p⟩ := f
  cases k with
  | none =>
    obtain ⟨t, q, h1, _, h2⟩ := flt_is_e (y := some (c, p)) h (by simp)
    exact ⟨t, q, h1, h2⟩
  | some k =>
    obtain ⟨B, u, h1, _⟩ := h
    exact ⟨_, _, h1, fun W => run_at_neq_nil B W⟩
theorem RwAt.apart {w : World} {B R : Nat} {t t' : TypeId} {cs cs' : Array Value} (h : RwAt w B t cs) (h' : RwAt w R t' cs') (hn : t ≠ t') : B ≠ R := by
  rintro rfl
  have h2 := h.blk.symm.trans h'.blk
  simp only [Option.some.injEq, Obj.cells.injEq] at h2
  exact hn h2.2.1
theorem RwAt.rowOf {w : World} {B R : Nat} {t t' : TypeId} {cs cs' : Array Value} (h : RwAt w B t cs) (h' : RwAt w R t' cs') (hn : t ≠ t') (c : Array Value) : RwAt (w.setRow R c) B t cs :=
  ⟨(setRow_other w R B c (h.apart h' hn)).trans h.blk⟩
/-- what is wrong, where another struct is written -/
theorem lft_row {A : Nat → Addr} {w : World} {v : Value} {y : Lf} {R : Nat} {t : TypeId} {cs : Array Value} (h : LftAt A w v y) (hr : RwAt w R t cs) (hn : 91 ≠ t) (c : Array Value) : LftAt A (w.setRow R c) v y := by
  match y, h with
  | none, h => exact h
  | some (_, none, none), h => exact h
  | some (_, none, some p), ⟨B, hv, hb⟩ => exact ⟨B, hv, hb.rowOf hr hn c⟩
  | some (_, some k, none), ⟨B, u, hv, hb, h⟩ => exact ⟨B, u, hv, hb.rowOf hr hn c, h⟩
  | some (_, some k, some p), ⟨B, u, hv, hb, B', hu, hb'⟩ => exact ⟨B, u, hv, hb.rowOf hr hn c, B', hu, hb'.rowOf hr hn c⟩
abbrev zPr : Array Value := #[.slice none 0 0, .slice none 0 0, .slice none 0 0, .slice none 0 0, .slice none 0 0, .slice none 0 0, .map none]
def ProAt (W : World) (L : List Ob) (A : Nat → Addr) (e : Ending) (w' : World) : Prop :=
  match joinP (L.map (·.x)) with
  | (some f, _) => ∃ u, e = .returned (.tuple #[.agg zPr, u]) ∧ u ≠ .nilIface ∧ LftAt A w' u (some f) ∧ W.grownBy w' none
  | (none, J) => ∃ K, RndR (itsP (whP J)) K ∧ if lngB (whP J) K = true then e = .returned (.tuple #[.agg zPr, errV (A 3)]) ∧ W.grownBy w' none
    else ∃ v1 v2 v3 v4 v5 vl B, e = .returned (.tuple #[.agg #[v1, v2, v3, v4, v5, vl, .map (some B)], .nilIface]) ∧ (∀ r ∈ whRo v1 v2 v3 v4 v5 (whP J), w'.ownsRow W.heap.size r.e r.z r.v r.n r.xs) ∧
      w'.ownsRow W.heap.size 3 1 vl ((whP J).C.length + 1) ((ldL (whP J) (itR (itsP (whP J)) K)).map (Value.int .i64)) ∧ MpAt w' B J.M ∧ JnOk J ∧ (∀ p ∈ J.ps, PtOk p) ∧ (∀ g, v1.ownBlock = some g → v2.ownBlock ≠ some g) ∧ W.grownBy w' none
theorem sum_le {α : Type} (f : α → Nat) (c : Nat) : ∀ l : List α, (∀ a ∈ l, f a ≤ c) → (l.map f).sum ≤ l.length * c
  | [], _ => by simp
  | a :: l, h => by
    have h1 := h a List.mem_cons_self
    have h2 := sum_le f c l (fun b hb => h b (List.mem_cons_of_mem _ hb))
    rw [List.map_cons, List.sum_cons, List.length_cons, Nat.succ_mul]
    omega
theorem whP_Ql {J : Jn} (h : JnOk J) (hn : J.ps.length ≤ 16) : (whP J).Q.length ≤ 1000000 := by
  rw [whP_Q, len_flat]
  have h1 := sum_le (fun p : Pt => (p.x.Q.map (fxOf J.M p p.c)).length) 1024 J.ps (fun p hp => by
    have hok := valid_ok (h.v p hp)
    have hmany := hok.many
    unfold manyB at hmany
    simp only [decide_eq_false_iff_not] at hmany
    have hQl : (woC p.x).Q.length = p.x.Q.length := woQn_length p.x _
    simp only [List.length_map]
    omega)
  omega
theorem whq_of {w : World} {b : Nat} {v1 v2 v3 v4 v5 : Value} {J : Jn} (h : JnOk J) (ho : ∀ p ∈ J.ps, PtOk p) (hm : J.ps.any (missB J.M) = false) (hl : J.ps.any (leadB J.M) = false) (hc : J.c ≤ 60000) (hn : J.ps.length ≤ 16)
    (hr : ∀ r ∈ whRo v1 v2 v3 v4 v5 (whP J), w.ownsRow b r.e r.z r.v r.n r.xs) : WhQ w v2 v3 v5 (whP J) := by
  have r2 := hr ⟨v2, 27, 1, (whP J).C.length, (whP J).C.map (Value.int .u32)⟩ (by simp [whRo])
  have r3 := hr ⟨v3, 5, 1, (whP J).K.length, (whP J).K.map (Value.int .u8)⟩ (by simp [whRo])
  have r5 := hr ⟨v5, 106, 5, (whP J).Q.length, fxsL (whP J).Q⟩ (by simp [whRo])
  simp only at r2 r3 r5
  exact ⟨own_slice r2, SlAt.own r3, CsAt.own r5, by rw [whP_Kl h, whP_Cl h], by rw [whP_Cl h]; omega, whP_Ql h hn, whP_first h ho, branch_ok h ho hm hl⟩
theorem own_notMap {w : World} {B : Nat} {M : Mp} {b z n : Nat} {e : TypeId} {v : Value} {xs : List Value} (h : w.ownsRow b e z v n xs) (hm : MpAt w B M) : v.ownBlock ≠ some B := by
  intro e1
  rcases h.2 with ⟨rfl, _⟩ | ⟨g, cap, cur, rfl, _, hb, _⟩
  · cases e1
  · obtain rfl : g = B := Option.some.inj e1
    obtain ⟨a, c, h2, _⟩ := hm
    rw [h2] at hb
    cases hb
set_option maxRecDepth 100000 in
set_option maxHeartbeats 16000000 in
theorem prog_any {W : World} {v : Value} {L : List Ob} {A : Nat → Addr} (h : ObsAt W v L) (he : ErrC W A) (hb : ∀ o ∈ L, ObB o.x) (hl : L.length ≤ 1000000) :
    Calls Tryz.prog 27 #[v] W (ProAt W L A) := by
  have Hzp := zero_program
  have hbp := build_program0
  have HR0 := hid (RwAt.new W 78 zPr)
  have HG0 := hid (World.grownBy_alloc W (.cells zPr 78) none)
  have HC := hid (join_any (h.kept0 HG0.out) (he.kept0 HG0.out) hb hl)
  have HS0 : Hid ((W.alloc (.cells zPr 78)).heap.size = W.heap.size + 1) := hid (by simp)
  have HE := hid he
  clear h he hb hl
  go_enter Tryz.func27, Tryz.ntmps27
  go_upto_region 1 with (fail)
  obtain ⟨R, hR⟩ : ∃ R, W.heap.size = R := ⟨_, rfl⟩
  have HRe := hid hR
  rw [hR] at HR0 HS0 ⊢
  clear hR Hzp
  unfold zPr at *
  generalize W.alloc (.cells #[.slice none 0 0, .slice none 0 0, .slice none 0 0, .slice none 0 0, .slice none 0 0, .slice none 0 0, .map none] 78) = w1 at HR0 HG0 HS0 HC ⊢
  have Hzj := zero_joined
  go_wp2_with fail
  refine HC.out.mono ?_
  rintro e w2 hJ
  unfold JoAt at hJ
  cases hjp : joinP (L.map (·.x)) with
  | mk f J =>
    have Hjp := hid hjp
    rw [hjp] at hJ
    cases f with
    | some f =>
      obtain ⟨u, rfl, hne, hlft, hg⟩ := hJ
      obtain ⟨ut, up, rfl, hnn⟩ := lft_is_e hlft
      have HR2 := hid (HR0.out.kept0 hg)
      have HG2 := hid (grown_trans HG0.out hg)
      have Hl := hid hlft
      clear hlft hg hjp HR0 HG0 HC
      have hal := World.grownBy_alloc w2 (.cells #[.slice none 0 0, .int .i64 0, .int .i64 0, .map none] 99) none
      have HR3 := hid (HR2.out.kept0 hal)
      have HG3 := hid (grown_trans HG2.out hal)
      have Hl3 := hid (Hl.out.kept0 hal)
      have Hne := hid hne
      clear hal HR2 HG2 Hl hne
      go_wp2_with (first
        | (refine wpList_store_rw rfl 78 _ _ rfl rfl rfl HR3.out info_program rfl (by simp [Value.oneCell']) ?_)
        | fail)
      have hw := HR3.out.row #[.slice none 0 0, .slice none 0 0, .slice none 0 0, .slice none 0 0, .slice none 0 0, .slice none 0 0, .map none]
      have q0 := hw.cell 0 (v := .slice none 0 0) rfl
      have q1 := hw.cell 1 (v := .slice none 0 0) rfl
      have q2 := hw.cell 2 (v := .slice none 0 0) rfl
      have q3 := hw.cell 3 (v := .slice none 0 0) rfl
      have q4 := hw.cell 4 (v := .slice none 0 0) rfl
      have q5 := hw.cell 5 (v := .slice none 0 0) rfl
      have q6 := hw.cell 6 (v := .map none) rfl
      refine bodyPost_ret (v := .tuple #[.agg zPr, .iface ut up]) (by simp [results, Tryz.results27, go_sem, q0, q1, q2, q3, q4, q5, q6]) rfl ?_
      unfold ProAt
      rw [Hjp.out]
      exact ⟨_, rfl, Hne.out, lft_row Hl3.out HR3.out (by decide) _, grown_setRow HG3.out (Nat.le_of_eq HRe.out) _⟩
    | none =>
      obtain ⟨pv, B, Q, rfl, hown, hmp, hQ, hea, hd, hc, hps, hg⟩ := hJ
      obtain ⟨pp, pc, rfl⟩ := own_slice hown
      obtain ⟨hok, hmi, hle, _⟩ := joinP_ok hjp
      have hpt : ∀ p ∈ J.ps, PtOk p := fun p hp => by
        rw [← hQ] at hp
        obtain ⟨q, hq, rfl⟩ := List.mem_map.1 hp
        exact (hea q hq).2
      have HOk := hid hok
      have HPt := hid hpt
      have HMi := hid (And.intro hmi hle)
      have HDc := hid (And.intro hd (And.intro hc hps))
      have hal := World.grownBy_alloc w2 (.cells #[.slice pp Q.length pc, .int .i64 (J.d : Int), .int .i64 (J.c : Int), .map (some B)] 99) none
      have HR3 := hid (HR0.out.kept0 (grown_trans hg hal))
      have HG3 := hid (grown_trans HG0.out (grown_trans hg hal))
      have HJn : Hid (JnAt 0 (w2.alloc (.cells #[.slice pp Q.length pc, .int .i64 (J.d : Int), .int .i64 (J.c : Int), .map (some B)] 99)) w2.heap.size B (.slice pp Q.length pc) Q J) := hid ⟨RwAt.new w2 _ _, own_baseL (hown.kept hal (by cases (Value.slice pp Q.length pc).ownBlock <;> simp)) (Nat.zero_le _), hmp.kept0 hal, hQ, by have := hmp.lt; omega, fun e => by have := (hown.lt _ e).2; omega, own_notMap hown hmp, Nat.zero_le _, Nat.zero_le _⟩
      have HEa := hid (fun q hq => And.intro ((hea q hq).1.kept0 (grown_trans hg hal)) (hea q hq).2)
      have HQn : Hid (Q.length ≤ 20) := hid (by have h1 := congrArg List.length hQ; rw [List.length_map] at h1; omega)
      clear hown hmp hQ hea hd hc hps hg hal hjp hok hmi hle hpt HR0 HG0 HC
      go_upto_region 4 with (fail)
      obtain ⟨G, hG⟩ : ∃ G, w2.heap.size = G := ⟨_, rfl⟩
      rw [hG] at HJn ⊢
      clear hG Hzj
      generalize w2.alloc (.cells #[.slice pp Q.length pc, .int .i64 (J.d : Int), .int .i64 (J.c : Int), .map (some B)] 99) = w3 at HR3 HG3 HJn HEa ⊢
      have HRl := hid HR3.out.lt
      go_wp2_with fail
      refine (whole_any w3 HJn.out HEa.out ⟨HDc.out.1, HDc.out.2.1⟩ HQn.out).mono ?_
      rintro e w4 ⟨v1, v2, v3, v4, v5, rfl, hrow, hap, hg⟩
      have HG4 := hid (grown_trans HG3.out hg)
      have HR4 := hid (HR3.out.kept0 hg)
      have HM4 := hid (HJn.out.mp.kept0 hg)
      have HG4j := hid (HJn.out.row.kept0 hg)
      have r1 := hrow ⟨v1, 27, 1, (whP J).D.length, (whP J).D.map (Value.int .u32)⟩ (by simp [whRo])
      have r2 := hrow ⟨v2, 27, 1, (whP J).C.length, (whP J).C.map (Value.int .u32)⟩ (by simp [whRo])
      have r3 := hrow ⟨v3, 5, 1, (whP J).K.length, (whP J).K.map (Value.int .u8)⟩ (by simp [whRo])
      have r4 := hrow ⟨v4, 106, 5, (whP J).R.length, fxsL (whP J).R⟩ (by simp [whRo])
      have r5 := hrow ⟨v5, 106, 5, (whP J).Q.length, fxsL (whP J).Q⟩ (by simp [whRo])
      obtain ⟨p1, c1, e1⟩ := own_slice r1
      obtain ⟨p2, c2, e2⟩ := own_slice r2
      obtain ⟨p3, c3, e3⟩ := own_slice r3
      obtain ⟨p4, c4, e4⟩ := own_slice r4
      obtain ⟨p5, c5, e5⟩ := own_slice r5
      simp only at e1 e2 e3 e4 e5
      obtain ⟨n, hn⟩ : ∃ n, (whP J).C.length = n := ⟨_, rfl⟩
      obtain ⟨d, hdn⟩ : ∃ d, (whP J).D.length = d := ⟨_, rfl⟩
      obtain ⟨kn, hkn⟩ : ∃ d, (whP J).K.length = d := ⟨_, rfl⟩
      obtain ⟨rn, hrn⟩ : ∃ d, (whP J).R.length = d := ⟨_, rfl⟩
      obtain ⟨qn, hqn⟩ : ∃ d, (whP J).Q.length = d := ⟨_, rfl⟩
      have Hn := hid hn
      have Hd := hid hdn
      rw [hdn] at e1
      rw [hn] at e2
      rw [hkn] at e3
      rw [hrn] at e4
      rw [hqn] at e5
      subst e1 e2 e3 e4 e5
      have Hrow := hid hrow
      have HAp := hid hap
      clear hap
      have hw := World.grownBy_alloc w4 (.cells #[.slice p1 d c1, .slice p2 n c2, .slice p3 kn c3, .slice p4 rn c4, .slice p5 qn c5] 75) none
      have HW5 := hid (RwAt.new w4 75 #[.slice p1 d c1, .slice p2 n c2, .slice p3 kn c3, .slice p4 rn c4, .slice p5 qn c5])
      have Hrow5 : Hid (∀ r ∈ whRo (.slice p1 d c1) (.slice p2 n c2) (.slice p3 kn c3) (.slice p4 rn c4) (.slice p5 qn c5) (whP J), (w4.alloc (.cells #[.slice p1 d c1, .slice p2 n c2, .slice p3 kn c3, .slice p4 rn c4, .slice p5 qn c5] 75)).ownsRow w3.heap.size r.e r.z r.v r.n r.xs) := hid (fun r hr => (Hrow.out r hr).kept hw (by cases r.v.ownBlock <;> simp))
      have HG5 := hid (grown_trans HG4.out hw)
      have HR5 := hid (HR4.out.kept0 hw)
      have HM5 := hid (HM4.out.kept0 hw)
      have HJ5 := hid (HG4j.out.kept0 hw)
      have HQ5 := hid (whq_of HOk.out HPt.out HMi.out.1 HMi.out.2 HDc.out.2.1 HDc.out.2.2 Hrow5.out)
      have Hzw := zero_whole
      clear r1 r2 r3 r4 r5 hrow Hrow hw hg HG3 HR3 HG4 HR4 HM4 HG4j HJn HEa hn hdn hkn hrn hqn
      go_upto_region 5 with (fail)
      generalize w4.alloc (.cells #[.slice p1 d c1, .slice p2 n c2, .slice p3 kn c3, .slice p4 rn c4, .slice p5 qn c5] 75) = w5 at HW5 Hrow5 HG5 HR5 HM5 HJ5 HQ5 ⊢
      obtain ⟨H, hH⟩ : ∃ H, w4.heap.size = H := ⟨_, rfl⟩
      rw [hH] at HW5 ⊢
      clear hH Hzw
      go_wp2_with (first
        | (refine wpList_load_rw rfl 75 _ rfl rfl HW5.out rfl Tryz.underlying75 info_wholeL ?_)
        | fail)
      obtain ⟨K, _, hK1, hK2⟩ := rounds_ex (itsP (whP J))
      have HK : Hid (RndR (itsP (whP J)) K) := hid ⟨hK1, hK2⟩
      clear hK1 hK2
      cases hv : validR (itsP (whP J)) with
      | false =>
        have Hv := hid hv
        refine (layOut_no w5 (.slice p1 d c1) (.slice p2 n c2) (.slice p3 kn c3) (.slice p4 rn c4) (.slice p5 qn c5) (whP J) HQ5.out hv).mono ?_
        rintro e w6 ⟨rfl, hg⟩
        have HR6 := hid (HR5.out.kept0 hg)
        have HG6 := hid (grown_trans HG5.out hg)
        clear hg
        have hg0 : w6.grownBy w6.drew none := grown_drew (grown_refl _ none)
        have e3 : w6.drew.cell? ⟨1, 0, none⟩ = some (.iface 200 (.pointer (some (A 3)))) := ((HE.out.kept0 HG6.out).kept0 hg0).c3
        have HR7 := hid (HR6.out.kept0 hg0)
        have HG7 := hid (grown_trans HG6.out hg0)
        have HgR : Hid (1 ≠ R) := hid (by have h1 := World.block_lt_of_cell? W _ HE.out.c3; have h2 := HRe.out; simp only at h1; omega)
        go_upto_region 7 with (fail)
        refine wp_region_held_drew (S := fun W => W.cell? ⟨1, 0, none⟩ = some (.iface 200 (.pointer (some (A 3))))) (by kernel_rfl) e3 (fun hS0 => ?_)
        clear e3 hg0
        generalize w6.drew = w7 at HR7 HG7 hS0 ⊢
        refine wpAnyH_take (i := 0) (v := ?_) rfl (by kernel_rfl) (by kernel_rfl) (by kernel_rfl) (fun _ _ _ h => h) (Or.inl ⟨by kernel_rfl, ?_⟩) hS0 ?_
        rotate_left
        · (intro W hSw; clear hSw; go_simp; try with_reducible rfl)
        try simp only [Act.put, List.setIfInBounds_toArray, List.set_cons_zero, List.set_cons_succ, List.getElem_toArray, List.getElem_cons_zero]
        refine wpAnyH_take (i := 1) (v := ?_) rfl (by kernel_rfl) (by kernel_rfl) (by kernel_rfl) (fun _ _ _ h => h) (Or.inl ⟨by kernel_rfl, ?_⟩) hS0 ?_
        rotate_left
        · (intro W hSw; have hc := hSw; clear hSw; go_simp; try with_reducible rfl)
        try simp only [Act.put, List.setIfInBounds_toArray, List.set_cons_zero, List.set_cons_succ, List.getElem_toArray, List.getElem_cons_succ, List.getElem_cons_zero]
        refine wpAnyH_ready (rs := [2]) (by kernel_rfl) (by simp) ?_
        refine AllReadyH.cons rfl (fun KK hKK => ?_) AllReadyH.nil
        refine wp_store_row 78 (.tmp 2) (.tmp 41) rfl R zPr rfl rfl _ _ HR7.out.blk info_program rfl (by simp [Value.oneCell']) ?_
        have hS1 : (w7.setRow R zPr).cell? ⟨1, 0, none⟩ = some (.iface 200 (.pointer (some (A 3)))) := (World.cell?_of_block (setRow_other _ _ _ _ HgR.out)).trans hS0
        refine hKK.out _ _ hS1 (fun _ => ?_)
        clear hKK KK hS0
        have hS0 := hS1
        clear hS1
        try simp only [Act.put, List.getElem_toArray, List.getElem_cons_succ, List.getElem_cons_zero]
        refine wpAnyH_take (i := 3) (v := ?_) rfl (by kernel_rfl) (by kernel_rfl) (by kernel_rfl) (fun _ _ _ h => h) (Or.inl ⟨by kernel_rfl, ?_⟩) hS0 ?_
        rotate_left
        · (intro W hSw; clear hSw; go_simp; try with_reducible rfl)
        try simp only [Act.put, List.setIfInBounds_toArray, List.set_cons_zero, List.set_cons_succ, List.getElem_toArray, List.getElem_cons_succ, List.getElem_cons_zero]
        refine wpAnyH_done (by kernel_rfl) ?_ _
        go_wp2
        have hw := HR7.out.row zPr
        have q0 := hw.cell 0 (v := .slice none 0 0) rfl
        have q1 := hw.cell 1 (v := .slice none 0 0) rfl
        have q2 := hw.cell 2 (v := .slice none 0 0) rfl
        have q3 := hw.cell 3 (v := .slice none 0 0) rfl
        have q4 := hw.cell 4 (v := .slice none 0 0) rfl
        have q5 := hw.cell 5 (v := .slice none 0 0) rfl
        have q6 := hw.cell 6 (v := .map none) rfl
        refine bodyPost_ret (v := .tuple #[.agg zPr, errV (A 3)]) (by simp [results, Tryz.results27, go_sem, q0, q1, q2, q3, q4, q5, q6, errV]) rfl ?_
        unfold ProAt
        rw [Hjp.out]
        refine ⟨K, HK.out, ?_⟩
        rw [if_pos (by unfold lngB; rw [Hv.out]; rfl)]
        exact ⟨rfl, grown_setRow HG7.out (Nat.le_of_eq HRe.out) _⟩
      | true =>
        have Hv := hid hv
        refine (layOut_yes w5 (.slice p1 d c1) (.slice p2 n c2) (.slice p3 kn c3) (.slice p4 rn c4) (.slice p5 qn c5) (whP J) HQ5.out hv HK.out).mono ?_
        rintro e w6 ⟨vl, rfl, hlo, hg⟩
        have HR6 := hid (HR5.out.kept0 hg)
        have HG6 := hid (grown_trans HG5.out hg)
        have HW6 := hid (HW5.out.kept0 hg)
        have HG5s := hid HG5.out.size
        have HM6 := hid (HM5.out.kept0 hg)
        have HJ6 := hid (HJ5.out.kept0 hg)
        have Hrow6 : Hid (∀ r ∈ whRo (.slice p1 d c1) (.slice p2 n c2) (.slice p3 kn c3) (.slice p4 rn c4) (.slice p5 qn c5) (whP J), w6.ownsRow w3.heap.size r.e r.z r.v r.n r.xs) := hid (fun r hr => (Hrow5.out r hr).kept hg (by cases r.v.ownBlock <;> simp))
        have Hlo := hid hlo
        obtain ⟨P, hP⟩ : ∃ P, ldN (whP J) (itR (itsP (whP J)) K) (whP J).C.length = P := ⟨_, rfl⟩
        have HP := hid hP
        obtain ⟨bl, ol, cl, hvl, hbl, hcl⟩ := (SlAt.own hlo).at_ (by simp [ldL])
        have hll : (ldL (whP J) (itR (itsP (whP J)) K)).length = n + 1 := by rw [← Hn.out]; simp [ldL]
        rw [hll] at hvl
        subst hvl
        have el := hcl n P (by rw [← Hn.out]; unfold ldL; rw [List.getElem?_map, List.getElem?_range (by omega), ← hP]; rfl)
        obtain ⟨M, hM⟩ : ∃ M, n + 1 = M := ⟨_, rfl⟩
        have HM := hid hM
        have n0 : (0 : Int) ≤ (n : Int) := by omega
        have nM : (n : Int) < (M : Int) := by omega
        rw [hM]
        have x0 := HW6.out.cell 0 (v := .slice p1 d c1) rfl
        have x1 := HW6.out.cell 1 (v := .slice p2 n c2) rfl
        clear hlo hbl hcl hll hP hM hg HR5 HG5 HW5 HM5 HJ5 Hrow5 HQ5
        by_cases hp : (2048 : Int) < P
        · have hpb : decide ((2048 : Int) < P) = true := by simpa using hp
          have Hp := hid hpb
          have hg0 : w6.grownBy w6.drew none := grown_drew (grown_refl _ none)
          have e3 : w6.drew.cell? ⟨1, 0, none⟩ = some (.iface 200 (.pointer (some (A 3)))) := ((HE.out.kept0 HG6.out).kept0 hg0).c3
          have HR7 := hid (HR6.out.kept0 hg0)
          have HG7 := hid (grown_trans HG6.out hg0)
          have HgR : Hid (1 ≠ R) := hid (by have h1 := World.block_lt_of_cell? W _ HE.out.c3; have h2 := HRe.out; simp only at h1; omega)
          go_upto_region 7 with (fail)
          refine wp_region_held_drew (S := fun W => W.cell? ⟨1, 0, none⟩ = some (.iface 200 (.pointer (some (A 3))))) (by kernel_rfl) e3 (fun hS0 => ?_)
          clear e3 hg0
          generalize w6.drew = w7 at HR7 HG7 hS0 ⊢
          refine wpAnyH_take (i := 0) (v := ?_) rfl (by kernel_rfl) (by kernel_rfl) (by kernel_rfl) (fun _ _ _ h => h) (Or.inl ⟨by kernel_rfl, ?_⟩) hS0 ?_
          rotate_left
          · (intro W hSw; clear hSw; go_simp; try with_reducible rfl)
          try simp only [Act.put, List.setIfInBounds_toArray, List.set_cons_zero, List.set_cons_succ, List.getElem_toArray, List.getElem_cons_zero]
          refine wpAnyH_take (i := 1) (v := ?_) rfl (by kernel_rfl) (by kernel_rfl) (by kernel_rfl) (fun _ _ _ h => h) (Or.inl ⟨by kernel_rfl, ?_⟩) hS0 ?_
          rotate_left
          · (intro W hSw; have hc := hSw; clear hSw; go_simp; try with_reducible rfl)
          try simp only [Act.put, List.setIfInBounds_toArray, List.set_cons_zero, List.set_cons_succ, List.getElem_toArray, List.getElem_cons_succ, List.getElem_cons_zero]
          refine wpAnyH_ready (rs := [2]) (by kernel_rfl) (by simp) ?_
          refine AllReadyH.cons rfl (fun KK hKK => ?_) AllReadyH.nil
          refine wp_store_row 78 (.tmp 2) (.tmp 41) rfl R zPr rfl rfl _ _ HR7.out.blk info_program rfl (by simp [Value.oneCell']) ?_
          have hS1 : (w7.setRow R zPr).cell? ⟨1, 0, none⟩ = some (.iface 200 (.pointer (some (A 3)))) := (World.cell?_of_block (setRow_other _ _ _ _ HgR.out)).trans hS0
          refine hKK.out _ _ hS1 (fun _ => ?_)
          clear hKK KK hS0
          have hS0 := hS1
          clear hS1
          try simp only [Act.put, List.getElem_toArray, List.getElem_cons_succ, List.getElem_cons_zero]
          refine wpAnyH_take (i := 3) (v := ?_) rfl (by kernel_rfl) (by kernel_rfl) (by kernel_rfl) (fun _ _ _ h => h) (Or.inl ⟨by kernel_rfl, ?_⟩) hS0 ?_
          rotate_left
          · (intro W hSw; clear hSw; go_simp; try with_reducible rfl)
          try simp only [Act.put, List.setIfInBounds_toArray, List.set_cons_zero, List.set_cons_succ, List.getElem_toArray, List.getElem_cons_succ, List.getElem_cons_zero]
          refine wpAnyH_done (by kernel_rfl) ?_ _
          go_wp2
          have hw := HR7.out.row zPr
          have q0 := hw.cell 0 (v := .slice none 0 0) rfl
          have q1 := hw.cell 1 (v := .slice none 0 0) rfl
          have q2 := hw.cell 2 (v := .slice none 0 0) rfl
          have q3 := hw.cell 3 (v := .slice none 0 0) rfl
          have q4 := hw.cell 4 (v := .slice none 0 0) rfl
          have q5 := hw.cell 5 (v := .slice none 0 0) rfl
          have q6 := hw.cell 6 (v := .map none) rfl
          refine bodyPost_ret (v := .tuple #[.agg zPr, errV (A 3)]) (by simp [results, Tryz.results27, go_sem, q0, q1, q2, q3, q4, q5, q6, errV]) rfl ?_
          unfold ProAt
          rw [Hjp.out]
          refine ⟨K, HK.out, ?_⟩
          rw [if_pos (by unfold lngB; rw [HP.out, Hp.out]; simp)]
          exact ⟨rfl, grown_setRow HG7.out (Nat.le_of_eq HRe.out) _⟩
        · have hpb : decide ((2048 : Int) < P) = false := by simpa using hp
          by_cases hd2 : (2048 : Int) < (d : Int)
          · have hdb : decide ((2048 : Int) < (d : Int)) = true := by simpa using hd2
            have Hd2 := hid hd2
            have hg0 : w6.grownBy w6.drew none := grown_drew (grown_refl _ none)
            have e3 : w6.drew.cell? ⟨1, 0, none⟩ = some (.iface 200 (.pointer (some (A 3)))) := ((HE.out.kept0 HG6.out).kept0 hg0).c3
            have HR7 := hid (HR6.out.kept0 hg0)
            have HG7 := hid (grown_trans HG6.out hg0)
            have HgR : Hid (1 ≠ R) := hid (by have h1 := World.block_lt_of_cell? W _ HE.out.c3; have h2 := HRe.out; simp only at h1; omega)
            go_upto_region 7 with (fail)
            refine wp_region_held_drew (S := fun W => W.cell? ⟨1, 0, none⟩ = some (.iface 200 (.pointer (some (A 3))))) (by kernel_rfl) e3 (fun hS0 => ?_)
            clear e3 hg0
            generalize w6.drew = w7 at HR7 HG7 hS0 ⊢
            refine wpAnyH_take (i := 0) (v := ?_) rfl (by kernel_rfl) (by kernel_rfl) (by kernel_rfl) (fun _ _ _ h => h) (Or.inl ⟨by kernel_rfl, ?_⟩) hS0 ?_
            rotate_left
            · (intro W hSw; clear hSw; go_simp; try with_reducible rfl)
            try simp only [Act.put, List.setIfInBounds_toArray, List.set_cons_zero, List.set_cons_succ, List.getElem_toArray, List.getElem_cons_zero]
            refine wpAnyH_take (i := 1) (v := ?_) rfl (by kernel_rfl) (by kernel_rfl) (by kernel_rfl) (fun _ _ _ h => h) (Or.inl ⟨by kernel_rfl, ?_⟩) hS0 ?_
            rotate_left
            · (intro W hSw; have hc := hSw; clear hSw; go_simp; try with_reducible rfl)
            try simp only [Act.put, List.setIfInBounds_toArray, List.set_cons_zero, List.set_cons_succ, List.getElem_toArray, List.getElem_cons_succ, List.getElem_cons_zero]
            refine wpAnyH_ready (rs := [2]) (by kernel_rfl) (by simp) ?_
            refine AllReadyH.cons rfl (fun KK hKK => ?_) AllReadyH.nil
            refine wp_store_row 78 (.tmp 2) (.tmp 41) rfl R zPr rfl rfl _ _ HR7.out.blk info_program rfl (by simp [Value.oneCell']) ?_
            have hS1 : (w7.setRow R zPr).cell? ⟨1, 0, none⟩ = some (.iface 200 (.pointer (some (A 3)))) := (World.cell?_of_block (setRow_other _ _ _ _ HgR.out)).trans hS0
            refine hKK.out _ _ hS1 (fun _ => ?_)
            clear hKK KK hS0
            have hS0 := hS1
            clear hS1
            try simp only [Act.put, List.getElem_toArray, List.getElem_cons_succ, List.getElem_cons_zero]
            refine wpAnyH_take (i := 3) (v := ?_) rfl (by kernel_rfl) (by kernel_rfl) (by kernel_rfl) (fun _ _ _ h => h) (Or.inl ⟨by kernel_rfl, ?_⟩) hS0 ?_
            rotate_left
            · (intro W hSw; clear hSw; go_simp; try with_reducible rfl)
            try simp only [Act.put, List.setIfInBounds_toArray, List.set_cons_zero, List.set_cons_succ, List.getElem_toArray, List.getElem_cons_succ, List.getElem_cons_zero]
            refine wpAnyH_done (by kernel_rfl) ?_ _
            go_wp2
            have hw := HR7.out.row zPr
            have q0 := hw.cell 0 (v := .slice none 0 0) rfl
            have q1 := hw.cell 1 (v := .slice none 0 0) rfl
            have q2 := hw.cell 2 (v := .slice none 0 0) rfl
            have q3 := hw.cell 3 (v := .slice none 0 0) rfl
            have q4 := hw.cell 4 (v := .slice none 0 0) rfl
            have q5 := hw.cell 5 (v := .slice none 0 0) rfl
            have q6 := hw.cell 6 (v := .map none) rfl
            refine bodyPost_ret (v := .tuple #[.agg zPr, errV (A 3)]) (by simp [results, Tryz.results27, go_sem, q0, q1, q2, q3, q4, q5, q6, errV]) rfl ?_
            unfold ProAt
            rw [Hjp.out]
            refine ⟨K, HK.out, ?_⟩
            rw [if_pos (by unfold lngB; rw [Hd.out]; simp; right; right; have := Hd2.out; omega)]
            exact ⟨rfl, grown_setRow HG7.out (Nat.le_of_eq HRe.out) _⟩
          · have hdb : decide ((2048 : Int) < (d : Int)) = false := by simpa using hd2
            have Hlng : Hid (lngB (whP J) K = false) := hid (by
              unfold lngB
              rw [Hv.out, HP.out, Hd.out, hpb]
              simp
              omega)
            have x3 := HJ6.out.cell 3 (v := .map (some B)) rfl
            have hbp3 := build_program p1 p2 p3 p4 p5 (some ⟨bl, ol, none⟩) d c1 n c2 kn c3 rn c4 qn c5 M cl B
            clear hbp
            go_wp2_with (first
              | (refine wpList_load_rw rfl 75 _ rfl rfl HW6.out rfl Tryz.underlying75 info_wholeL ?_)
              | (refine wpList_store_rw rfl 78 _ _ rfl rfl rfl HR6.out info_program rfl (by simp [Value.oneCell']) ?_)
              | fail)
            have hw := HR6.out.row #[.slice p1 d c1, .slice p2 n c2, .slice p3 kn c3, .slice p4 rn c4, .slice p5 qn c5, .slice (some ⟨bl, ol, none⟩) M cl, .map (some B)]
            have q0 := hw.cell 0 (v := .slice p1 d c1) rfl
            have q1 := hw.cell 1 (v := .slice p2 n c2) rfl
            have q2 := hw.cell 2 (v := .slice p3 kn c3) rfl
            have q3 := hw.cell 3 (v := .slice p4 rn c4) rfl
            have q4 := hw.cell 4 (v := .slice p5 qn c5) rfl
            have q5 := hw.cell 5 (v := .slice (some ⟨bl, ol, none⟩) M cl) rfl
            have q6 := hw.cell 6 (v := .map (some B)) rfl
            refine bodyPost_ret (v := .tuple #[.agg #[.slice p1 d c1, .slice p2 n c2, .slice p3 kn c3, .slice p4 rn c4, .slice p5 qn c5, .slice (some ⟨bl, ol, none⟩) M cl, .map (some B)], .nilIface]) (by simp [results, Tryz.results27, go_sem, q0, q1, q2, q3, q4, q5, q6]) rfl ?_
            unfold ProAt
            rw [Hjp.out]
            refine ⟨K, HK.out, ?_⟩
            rw [if_neg (by rw [Hlng.out]; simp)]
            have hgr := grown_row w6 R #[.slice p1 d c1, .slice p2 n c2, .slice p3 kn c3, .slice p4 rn c4, .slice p5 qn c5, .slice (some ⟨bl, ol, none⟩) M cl, .map (some B)]
            refine ⟨_, _, _, _, _, _, B, rfl, ?_, ?_, ?_, HOk.out, HPt.out, HAp.out, grown_setRow HG6.out (Nat.le_of_eq HRe.out) _⟩
            · intro r hr
              refine own_baseL ((Hrow6.out r hr).kept hgr (.inr (own_aprt9 (Hrow6.out r hr) HR6.out ?_))) (by have := HRl.out; have := HRe.out; omega)
              simp only [whRo, List.mem_cons, List.not_mem_nil, or_false] at hr
              rcases hr with rfl | rfl | rfl | rfl | rfl <;> (simp only; decide)
            · have h := Hlo.out
              rw [HM.out] at h
              exact own_baseL (h.kept hgr (.inr (own_aprt9 h HR6.out (by decide)))) HG5s.out
            · refine HM6.out.kept hgr ?_
              intro e
              obtain rfl := Option.some.inj e
              obtain ⟨es, ck, h1, _⟩ := HM6.out.ex
              have h2 := h1.symm.trans HR6.out.blk
              cases h2
end Go.Proofs.YtnpnafidhcnkhaaGreatDoor
namespace Go.Proofs.YtnpnafidhcnkhaaGreatDoor
open Go.RowKit
/-! ### places in lists one behind the other -/
theorem flat_at {α : Type} : ∀ (Ls : List (List α)) (i j : Nat) (q : List α), Ls[i]? = some q → j < q.length → Ls.flatten[((Ls.take i).flatten).length + j]? = q[j]?
  | [], _, _, _, h, _ => by simp at h
  | x :: Ls, 0, j, q, h, hj => by
    obtain rfl : x = q := by simpa using h
    rw [List.take_zero, List.flatten_nil, List.length_nil, Nat.zero_add, List.flatten_cons, List.getElem?_append_left hj]
  | x :: Ls, i + 1, j, q, h, hj => by
    rw [List.take_succ_cons, List.flatten_cons, List.flatten_cons, List.length_append, List.getElem?_append_right (by omega), ← flat_at Ls i j q (by simpa using h) hj]
    congr 1; omega
theorem take_sum (f : Pt → List Int) (l : List Pt) (i : Nat) : (((l.map f).take i).flatten).length = ((l.take i).map fun p => (f p).length).sum := by
  rw [← List.map_take, len_flat]
theorem getD_congr {l l' : List Int} {k k' : Nat} (h : l[k]? = l'[k']?) : l.getD k 0 = l'.getD k' 0 := by rw [List.getD_eq_getElem?_getD, List.getD_eq_getElem?_getD, h]
section
variable {J : Jn}
/-- a part's words among all -/
theorem whP_Cat (h : JnOk J) {p : Pt} (hp : p ∈ J.ps) {j : Nat} (hj : j < p.x.C.length) : (whP J).C[p.c + j]? = p.x.C[j]? := by
  obtain ⟨i, hi⟩ := List.getElem?_of_mem hp
  rw [whP_C, (h.o i p hi).2, show sumCL (J.ps.take i) = (((J.ps.map (·.x.C)).take i).flatten).length by rw [take_sum]; rfl]
  exact flat_at _ i j _ (by rw [List.getElem?_map, hi]; rfl) hj
theorem whP_Kat (h : JnOk J) (ho : ∀ p ∈ J.ps, PtOk p) {p : Pt} (hp : p ∈ J.ps) {j : Nat} (hj : j < p.x.C.length) : (whP J).K[p.c + j]? = p.x.M[j]? := by
  obtain ⟨i, hi⟩ := List.getElem?_of_mem hp
  have hs : sumCL (J.ps.take i) = (((J.ps.map (·.x.M)).take i).flatten).length := by
    rw [take_sum]
    unfold sumCL
    congr 1
    exact List.map_congr_left fun q hq => ((ho q (List.mem_of_mem_take hq)).len).symm
  rw [whP_K, (h.o i p hi).2, hs]
  exact flat_at _ i j _ (by rw [List.getElem?_map, hi]; rfl) (by rw [(ho p hp).len]; exact hj)
/-- relocations rise -/
theorem rel_rise {x : PO} (hv : validP (woC x) = none) : x.Q.Pairwise fun a b => a.a < b.a := by
  have hok := valid_ok hv
  have hQl : (woC x).Q.length = x.Q.length := woQn_length x _
  have step : ∀ (k : Nat) (r s : Rl), x.Q[k]? = some r → x.Q[k + 1]? = some s → r.a < s.a := by
    intro k r s hr hs
    have hkl := (List.getElem?_eq_some_iff.1 hs).1
    have hw : ∀ (j : Nat) (q : Rl), x.Q[j]? = some q → (woC x).Q[j]? = some (woQ x q) := by
      intro j q hq
      show (woQn x x.Q.length)[j]? = _
      rw [woQn_get hq, if_pos (List.getElem?_eq_some_iff.1 hq).1]
    have h1 := hok.cod (k + 1) (by rw [hQl]; exact hkl)
    unfold codeF at h1
    by_cases h2 : inB (woC x) (woC x).Q (k + 1) (woC x).C.length = false ∨ ((rlN (woC x).Q (k + 1)).k ≠ 1 ∧ (rlN (woC x).Q (k + 1)).k ≠ 2)
    · rw [if_pos h2] at h1; cases h1
    · rw [not_or] at h2
      have h3 : inB (woC x) (woC x).Q (k + 1) (woC x).C.length = true := by simpa using h2.1
      unfold inB at h3
      have h4 := (of_decide_eq_true h3).1
      rw [Nat.add_sub_cancel, rlN_get (hw k r hr), rlN_get (hw (k + 1) s hs), (woQ_same x r).1, (woQ_same x s).1] at h4
      omega
  rw [List.pairwise_iff_getElem]
  intro i j hi hj hij
  have all : ∀ d i, (hi : i < x.Q.length) → (hj : i + 1 + d < x.Q.length) → (x.Q[i]'hi).a < (x.Q[i + 1 + d]'hj).a := by
    intro d
    induction d with
    | zero => exact fun i hi hj => step i _ _ (List.getElem?_eq_getElem hi) (List.getElem?_eq_getElem hj)
    | succ d ih =>
      intro i hi hj
      have h1 := ih i hi (by omega)
      have h2 := step (i + 1 + d) _ _ (List.getElem?_eq_getElem (by omega)) (List.getElem?_eq_getElem hj)
      omega
  have := all (j - i - 1) i hi (by omega)
  have e : i + 1 + (j - i - 1) = j := by omega
  simp only [e] at this
  exact this
theorem whP_Qne (h : JnOk J) (ho : ∀ p ∈ J.ps, PtOk p) : (whP J).Q.Pairwise fun a b => a.a.toNat ≠ b.a.toNat := by
  rw [whP_Q, List.pairwise_flatten]
  constructor
  · intro l hl
    obtain ⟨p, hp, rfl⟩ := List.mem_map.1 hl
    rw [List.pairwise_map]
    refine (rel_rise (h.v p hp)).imp_of_mem (fun {a b} ha hb hab => ?_)
    have h1 := ((ho p hp).q a ha).1
    have h2 := ((ho p hp).q b hb).1
    show ((p.c : Int) + a.a).toNat ≠ ((p.c : Int) + b.a).toNat
    omega
  · rw [List.pairwise_map, List.pairwise_iff_getElem]
    intro i j hi hj hij x hx y hy
    obtain ⟨a, ha, rfl⟩ := List.mem_map.1 hx
    obtain ⟨b, hb, rfl⟩ := List.mem_map.1 hy
    have hpi : J.ps[i] ∈ J.ps := List.getElem_mem hi
    have hpj : J.ps[j] ∈ J.ps := List.getElem_mem hj
    have h1 := ((ho _ hpi).q a ha).1
    have h2 := ((ho _ hpj).q b hb).1
    have oi := (h.o i _ (List.getElem?_eq_getElem hi)).2
    have oj := (h.o j _ (List.getElem?_eq_getElem hj)).2
    have hs : sumCL (J.ps.take (i + 1)) ≤ sumCL (J.ps.take j) := by
      have := sumCL_take (J.ps.take j) (i + 1)
      rw [List.take_take, Nat.min_eq_left (by omega)] at this
      exact this
    rw [List.take_add_one, List.getElem?_eq_getElem hi, Option.toList_some, sumCL_snoc] at hs
    show (((J.ps[i]).c : Int) + a.a).toNat ≠ (((J.ps[j]).c : Int) + b.a).toNat
    omega
end
end Go.Proofs.YtnpnafidhcnkhaaGreatDoor
namespace Go.Proofs.YtnpnafidhcnkhaaGreatDoor
open Go.RowKit
theorem opN_woC {x : PO} {k : Nat} (hk : k < x.C.length) (h : opN (woC x) k ≠ 14) : opN (woC x) k = if mapN x k = 1 then opW (x.C.getD k 0) else 0 := by
  unfold opN at h ⊢
  have hm : mapN (woC x) k = mapN x k := rfl
  rw [hm] at h ⊢
  by_cases e : mapN x k = 1
  · rw [if_pos e] at h ⊢
    rw [if_pos e]
    have hc : (woC x).C.getD k 0 = woW x k := by
      show (woCn x x.C.length).getD k 0 = _
      rw [List.getD, woCn_get hk, if_pos hk]; rfl
    rw [hc] at h ⊢
    unfold woW at h ⊢
    by_cases c : calB x k = true
    · rw [if_pos c] at h; exact absurd (by decide) h
    · rw [if_neg c]
  · rw [if_neg e, if_neg e]
theorem mapN_wo (x : PO) (k : Nat) : mapN (woC x) k = mapN x k := rfl
theorem symN_wo (x : PO) (k : Nat) : symN (woC x) k = symN x k := rfl
/-- a relocation of code: what Valid lets by -/
theorem rel_ok {x : PO} (hv : validP (woC x) = none) {r : Rl} (hr : r ∈ x.Q) : repB (woC x) (woQ x r) = true ∧ (r.d ≠ 0 → toB x r = true) ∧ (r.k = 2 → woQ x r = r) ∧ 0 ≤ r.a ∧ r.a < x.C.length := by
  have hok := valid_ok hv
  have hQl : (woC x).Q.length = x.Q.length := woQn_length x _
  obtain ⟨k, hk⟩ := List.getElem?_of_mem hr
  have hkl := (List.getElem?_eq_some_iff.1 hk).1
  have hw : (woC x).Q[k]? = some (woQ x r) := by
    show (woQn x x.Q.length)[k]? = _
    rw [woQn_get hk, if_pos hkl]
  have h1 := hok.cod k (by rw [hQl]; exact hkl)
  unfold codeF at h1
  split at h1
  · cases h1
  · split at h1
    · cases h1
    · rename_i h2 h3
      rw [not_or] at h2 h3
      rw [rlN_get hw] at h3
      have h4 := in_ok (y := woC x) (l := (woC x).Q) (k := k) (n := ((woC x).C.length : Int)) (by simpa using h2.1)
      have hCl : (woC x).C.length = x.C.length := woCn_length x _
      rw [rlN_get hw, (woQ_same x r).1, hCl] at h4
      refine ⟨by simpa using h3.1, fun hd => ?_, fun h => by unfold woQ; rw [if_neg (by rw [h]; simp)], h4.1, h4.2.1⟩
      have h5 := h3.2
      unfold outB at h5
      rw [(woQ_same x r).2.2.1] at h5
      have h6 : toB (woC x) (woQ x r) = toB x r := by unfold toB; rw [symN_wo, (woQ_same x r).2.1]
      rw [h6] at h5
      simpa [hd] using h5
/-- a branch is of a branching word -/
theorem rel_br {x : PO} (hv : validP (woC x) = none) {r : Rl} (hr : r ∈ x.Q) (h2 : r.k = 2) : mapN x r.a.toNat = 1 ∧ brB (opW (x.C.getD r.a.toNat 0)) = true ∧ toB x r = false := by
  obtain ⟨h1, _, h3, a0, a1⟩ := rel_ok hv hr
  rw [h3 h2] at h1
  unfold repB at h1
  rw [if_pos h2, Bool.and_eq_true] at h1
  have hb := h1.1
  have hn14 : opN (woC x) r.a.toNat ≠ 14 := by intro e; rw [e] at hb; exact absurd hb (by decide)
  rw [opN_woC (by omega) hn14] at hb
  by_cases m : mapN x r.a.toNat = 1
  · rw [if_pos m] at hb
    refine ⟨m, hb, ?_⟩
    have h4 : toB (woC x) r = toB x r := rfl
    rw [h4] at h1
    simpa using h1.2
  · rw [if_neg m] at hb; exact absurd hb (by decide)
/-- a word's relocation is of no word where an instruction begins -/
theorem rel_word {x : PO} (hv : validP (woC x) = none) {r : Rl} (hr : r ∈ x.Q) (h1 : r.k = 1) : mapN x r.a.toNat ≠ 1 := by
  obtain ⟨hR, _, _, a0, a1⟩ := rel_ok hv hr
  intro hm
  have hok := valid_ok hv
  have hCl : (woC x).C.length = x.C.length := woCn_length x _
  by_cases hc : calI x (r.a - 1) = true
  · unfold calI at hc
    rw [Bool.and_eq_true] at hc
    have h2 := of_decide_eq_true hc.1
    have h3 := hc.2
    unfold calB at h3
    simp only [Bool.and_eq_true, decide_eq_true_eq] at h3
    have h4 := h3.2.2.1
    rw [show (r.a - 1).toNat + 1 = r.a.toNat by omega] at h4
    unfold mapN at hm
    omega
  · have hq : woQ x r = r := by unfold woQ; rw [if_neg (by simp [hc])]
    rw [hq] at hR
    unfold repB at hR
    rw [if_neg (by omega), mapN_wo, if_neg (by omega)] at hR
    have h14 : twoB (opB (woC x) r.a.toNat) = true := by
      unfold farB at hR
      simp only [Bool.or_eq_true, Bool.and_eq_true, decide_eq_true_eq] at hR
      unfold twoB
      simp only [decide_eq_true_eq]
      omega
    unfold opB at h14
    by_cases k0 : r.a.toNat = 0
    · rw [if_pos k0] at h14; exact absurd h14 (by decide)
    · rw [if_neg k0] at h14
      have hw := hok.word (r.a.toNat - 1) (by omega)
      unfold wordF at hw
      by_cases m1 : mapN (woC x) (r.a.toNat - 1) = 1
      · rw [if_pos m1] at hw
        unfold firstF at hw
        split at hw
        · cases hw
        · rw [if_pos ⟨h14, .inr (by rw [show r.a.toNat - 1 + 1 = r.a.toNat by omega, mapN_wo]; omega)⟩] at hw
          cases hw
      · unfold opN at h14
        rw [if_neg m1] at h14; exact absurd h14 (by decide)
section
variable {J : Jn}
/-- a symbol of the part's own that stands in code -/
theorem ptSp_mark (h : JnOk J) (ho : ∀ p ∈ J.ps, PtOk p) {p : Pt} (hp : p ∈ J.ps) {s : Sy} (hs : s ∈ p.x.S) (h2 : s.i = 2) : (whP J).K.getD (ptSp p s).a.toNat 0 = 1 := by
  obtain ⟨⟨v0, _⟩, _, _, h4⟩ := (ho p hp).s s hs
  obtain ⟨h5, h6⟩ := h4 h2
  have e : (ptSp p s).a.toNat = p.c + s.v.toNat := by unfold ptSp; rw [if_neg (by omega)]; simp only; omega
  rw [e, getD_congr (whP_Kat h ho hp (by omega))]
  exact h6
theorem ptSp_i (p : Pt) (s : Sy) : (ptSp p s).i = s.i := by unfold ptSp; split <;> rfl
theorem lkp_mark (h : JnOk J) (ho : ∀ p ∈ J.ps, PtOk p) {n : ByteArray} {q : Sp} (hq : lkp J.M n = some q) (h2 : q.i = 2) : (whP J).K.getD q.a.toNat 0 = 1 := by
  obtain ⟨e, he, rfl⟩ := lkp_mem hq
  obtain ⟨p', hp', s', hs', _, hq'⟩ := h.m e he
  rw [hq'] at h2 ⊢
  rw [ptSp_i] at h2
  exact ptSp_mark h ho hp' hs' h2
theorem spOf_mark (h : JnOk J) (ho : ∀ p ∈ J.ps, PtOk p) {p : Pt} (hp : p ∈ J.ps) {s : Sy} (hs : s ∈ p.x.S) (h2 : (spOf J.M p s).i = 2) : (whP J).K.getD (spOf J.M p s).a.toNat 0 = 1 := by
  unfold spOf at h2 ⊢
  split at h2 <;> rename_i e
  · rw [if_pos e]
    cases hq : lkp J.M s.n with
    | none => unfold lkD at h2; rw [hq] at h2; exact absurd h2 (by decide)
    | some q => rw [lkD_some hq] at h2 ⊢; exact lkp_mark h ho hq h2
  · rw [if_neg e]
    rw [ptSp_i] at h2
    exact ptSp_mark h ho hp hs h2
/-- what is known of a repair of code -/
structure QOk (J : Jn) (r : Fx) : Prop where
  a : ∃ a : Nat, r.a = a ∧ a < (whP J).C.length
  k : r.k = 1 ∨ r.k = 2
  t : TgtOk (whP J).C.length r.t
  m : r.t.i = 2 → (whP J).K.getD r.t.a.toNat 0 = 1 ∧ r.d = 0
  b : r.k = 2 → r.t.i = 2 ∧ (whP J).K.getD r.a.toNat 0 = 1 ∧ brB (opW ((whP J).C.getD r.a.toNat 0)) = true
  w : r.k = 1 → (whP J).K.getD r.a.toNat 0 ≠ 1
theorem spOf_two {p : Pt} {s : Sy} (h : (spOf J.M p s).i = 2) : s.i ≠ 1 := by
  intro e
  unfold spOf at h
  rw [if_neg (by omega), ptSp_i] at h
  omega
/-- where code is jumped to, it is code -/
theorem jump_code (h : JnOk J) (ho : ∀ p ∈ J.ps, PtOk p) (hm : J.ps.any (missB J.M) = false) (hl : J.ps.any (leadB J.M) = false) {p : Pt} (hp : p ∈ J.ps) {r : Rl} (hr : r ∈ p.x.Q) (hj : jumpB p.x r = true) (ht : toB p.x r = false) : (spOf J.M p (symN p.x r.s.toNat)).i = 2 := by
  obtain ⟨_, ⟨s0, s1⟩, _⟩ := (ho p hp).q r hr
  have hsm := symN_mem s0 s1
  have htg := spOf_tgt h ho hm hp hsm
  have hn1 : (spOf J.M p (symN p.x r.s.toNat)).i ≠ 1 := by
    intro e
    by_cases i3 : (symN p.x r.s.toNat).i = 3
    · rw [List.any_eq_false] at hl
      have hl1 := hl p hp
      unfold leadB at hl1
      rw [Bool.not_eq_true, List.any_eq_false] at hl1
      have hl2 := hl1 r hr
      simp [i3, e, hj] at hl2
    · unfold spOf at e
      rw [if_neg i3, ptSp_i] at e
      unfold toB at ht
      simp [e] at ht
  exact (htg.2 hn1).1
theorem whP_QQ (h : JnOk J) (ho : ∀ p ∈ J.ps, PtOk p) (hm : J.ps.any (missB J.M) = false) (hl : J.ps.any (leadB J.M) = false) : ∀ r ∈ (whP J).Q, QOk J r := by
  intro r hr
  have hf := whP_Qok h ho hm r hr
  rw [whP_Q] at hr
  obtain ⟨l, hl1, hr⟩ := List.mem_flatten.1 hr
  obtain ⟨p, hp, rfl⟩ := List.mem_map.1 hl1
  obtain ⟨r0, hr0, rfl⟩ := List.mem_map.1 hr
  obtain ⟨⟨a0, a1⟩, ⟨s0, s1⟩, _⟩ := (ho p hp).q r0 hr0
  have hsm := symN_mem s0 s1
  have hv := h.v p hp
  obtain ⟨_, hd, _, _, _⟩ := rel_ok hv hr0
  have ea : (fxOf J.M p p.c r0).a.toNat = p.c + r0.a.toNat := by show ((p.c : Int) + r0.a).toNat = _; omega
  have hK := getD_congr (whP_Kat h ho hp (j := r0.a.toNat) (by omega))
  have hC := getD_congr (whP_Cat h hp (j := r0.a.toNat) (by omega))
  refine ⟨hf.a, hf.k, hf.t, fun h2 => ⟨spOf_mark h ho hp hsm h2, ?_⟩, fun h2 => ?_, fun h1 => ?_⟩
  · show r0.d = 0
    by_cases e : r0.d = 0
    · exact e
    · have h3 := hd e
      unfold toB at h3
      exact absurd (of_decide_eq_true h3) (spOf_two h2)
  · have h2' : r0.k = 2 := h2
    obtain ⟨b1, b2, b3⟩ := rel_br hv hr0 h2'
    refine ⟨jump_code h ho hm hl hp hr0 (jump_two h2') b3, ?_, ?_⟩
    · rw [ea, hK]; exact b1
    · rw [ea, hC]; exact b2
  · rw [ea, hK]
    exact rel_word hv hr0 h1
end
end Go.Proofs.YtnpnafidhcnkhaaGreatDoor
