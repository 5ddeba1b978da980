/- Package relax: Places, Fits: contracts. -/
import Derived.Test.YtmhkghkfpkekbaaRel5
namespace Go.Proofs.Ytmhkghkfpkekbaa
open Go.RowKit
/-- the places ahead of j, behind them nothing yet -/
def pfI (L : List RIt) (B : List Bool) (j N : Nat) : List Int := (List.range N).map fun k => if k < j then plR L B k else 0
theorem pfI_length (L : List RIt) (B : List Bool) (j N : Nat) : (pfI L B j N).length = N := by simp [pfI]
theorem pfI_get {L : List RIt} {B : List Bool} {j N k : Nat} (h : k < N) : (pfI L B j N)[k]? = some (if k < j then plR L B k else 0) := by simp [pfI, h]
theorem pfI_zero (L : List RIt) (B : List Bool) (N : Nat) : pfI L B 0 N = List.replicate N 0 := by
  apply List.ext_getElem?
  intro k
  by_cases h : k < N
  · rw [pfI_get h, List.getElem?_replicate, if_pos h, if_neg (by omega)]
  · rw [List.getElem?_eq_none (by rw [pfI_length]; omega), List.getElem?_eq_none (by rw [List.length_replicate]; omega)]
theorem pfI_set {L : List RIt} {B : List Bool} {j N : Nat} : (pfI L B j N).set j (plR L B j) = pfI L B (j + 1) N := by
  apply List.ext_getElem?
  intro k
  by_cases h : k < N
  · rw [List.getElem?_set, pfI_get h, pfI_get h, pfI_length]
    by_cases e : j = k
    · subst e
      rw [if_pos rfl, if_pos h, if_pos (Nat.lt_succ_self _)]
    · rw [if_neg e]
      congr 1
      by_cases e2 : k < j
      · rw [if_pos e2, if_pos (by omega)]
      · rw [if_neg e2, if_neg (by omega)]
  · rw [List.getElem?_eq_none (by rw [List.length_set, pfI_length]; omega), List.getElem?_eq_none (by rw [pfI_length]; omega)]
theorem pfI_all {L : List RIt} {B : List Bool} {N : Nat} : pfI L B N N = plsR L B N := by
  unfold pfI plsR
  refine List.map_congr_left fun k hk => ?_
  rw [if_pos (List.mem_range.1 hk)]
structure PsW (W w : World) (g gs : Nat) (L : List RIt) (B : List Bool) (N j : Nat) : Prop where
  gr : W.grownBy w none
  own : w.ownsRow W.heap.size 3 1 (.slice (some ⟨g, 0, none⟩) N N) N ((pfI L B j N).map (Value.int .i64))
  sm : SmAt w gs N L B
  ne : gs ≠ g
  ge : W.heap.size ≤ g
theorem PsW.kept0 {W w w1 : World} {g gs : Nat} {L : List RIt} {B : List Bool} {N j : Nat} (h : PsW W w g gs L B N j) (hg : w.grownBy w1 none) : PsW W w1 g gs L B N j :=
  ⟨grown_trans h.gr hg, h.own.kept hg (by simp [Value.ownBlock]), h.sm.kept0 hg, h.ne, h.ge⟩
theorem PsW.step {W w : World} {g gs : Nat} {L : List RIt} {B : List Bool} {N j : Nat} (h : PsW W w g gs L B N j) : PsW W (w.setCell ⟨g, j, none⟩ (.int .i64 (plR L B j))) g gs L B N (j + 1) := by
  obtain ⟨h1, h2⟩ := h.own.stored j (.int .i64 (plR L B j))
  rw [← List.map_set, pfI_set] at h1
  exact ⟨grown_new' (grown_trans (grown_none h.gr) h2) (fun k hk => by obtain rfl := Option.some.inj hk; exact h.ge), h1, h.sm.kept h2 (by simpa using h.ne), h.ne, h.ge⟩
set_option maxRecDepth 100000 in
set_option maxHeartbeats 8000000 in
theorem places_rel {W : World} {v vb : Value} {L : List RIt} {B : List Bool} (h : RiAt W v L) (hb : BlAt W vb B) (hB : B.length = L.length) (hok : okR L = true) (hL : L.length ≤ 5000) :
    Calls Try.prog 12 #[v, vb] W fun e w' => ∃ g, e = .returned (.slice (some ⟨g, 0, none⟩) (L.length + 1) (L.length + 1)) ∧ w'.ownsRow W.heap.size 3 1 (.slice (some ⟨g, 0, none⟩) (L.length + 1) (L.length + 1)) (L.length + 1) ((plsR L B (L.length + 1)).map (Value.int .i64)) ∧ W.grownBy w' none := by
  have HBg := hid (fun (w : World) (hg : W.grownBy w none) => begins_rel (h.kept0 hg) (hb.kept0 hg) hB hok hL)
  have HK := hid hok
  obtain ⟨p, c, hv⟩ := h.len
  subst hv
  obtain ⟨pb, cb, hvb⟩ := hb.len
  subst hvb
  rw [hB] at HBg ⊢
  obtain ⟨n, hn⟩ : ∃ n, L.length = n := ⟨_, rfl⟩
  rw [hn] at hL HBg ⊢
  obtain ⟨N, hN⟩ : ∃ N, n + 1 = N := ⟨_, rfl⟩
  have HN := hid hN
  rw [hN] at HBg ⊢
  have n0 : (0 : Int) ≤ (n : Int) := by omega
  have n1 : (n : Int) ≤ 5000 := by omega
  have nN : (n : Int) + 1 = (N : Int) := by omega
  have nNw : IntKind.i64.wrap ((n : Int) + 1) = (N : Int) := by rw [IntKind.wrap_i64]; omega
  have N0 : (0 : Int) ≤ (N : Int) := by omega
  have N1 : (N : Int) ≤ 5001 := by omega
  have HN1 := hid (show N ≤ 5001 by omega)
  obtain ⟨i, hi, hz0, hz1, hz2⟩ := info_intR
  have Hi := hid hi
  have Hz0 := hid hz0
  have Hz1 := hid hz1
  have Hz2 := hid hz2
  clear h hb hB hok hL hn hN hi hz0 hz1 hz2
  go_enter Try.func12, Try.ntmps12
  go_wp2_with (first
    | (refine wpList_make_full _ rfl _ _ 30 rfl W.heap.size 3 i _ 1 Try.underlying30 Hi.out Hz0.out Hz1.out .i64 .i64 _ _ N rfl rfl (by first | rfl | omega) (by first | rfl | omega) (by rw [Hz2.out]; have := HN1.out; omega) (by have := HN1.out; unfold maxLen; omega) (Nat.le_refl _) ?_
       intro w3 hmk hgr
       rw [show (Value.int .i64 0).cells = Array.replicate 1 (.int .i64 0) from rfl, toList_madeZero _ _ 1 (by omega), Array.toList_replicate, Nat.mul_one] at hmk
       have Hmk := hid hmk
       have HG3 := hid hgr
       clear hmk hgr)
    | fail)
  obtain ⟨g, hg⟩ : ∃ g, W.heap.size = g := ⟨_, rfl⟩
  have Hge := hid (Nat.le_of_eq hg)
  rw [hg] at Hmk ⊢
  refine (HBg.out _ HG3.out).mono ?_
  rintro e w4 ⟨gs, rfl, hown, hg4⟩
  have HP : Hid (PsW W w4 g gs L B N 0) := hid ⟨grown_trans HG3.out hg4, by
    rw [pfI_zero, List.map_replicate, hg]; exact Hmk.out.kept hg4 (by simp [Value.ownBlock]), SmAt.own hown, by
    have h1 := (hown.lt gs rfl).1
    have h2 := (Hmk.out.lt g rfl).2
    omega, Hge.out⟩
  clear hown hg hg4 HG3 Hmk HBg
  go_wp2
  go_loopw [21] (fun i wr => ∃ k : Nat, k ≤ N ∧ i = .int .i64 k ∧ Hid (PsW W wr g gs L B N k)) (fun i _ => N - (intOf i).toNat)
  case atStart => exact ⟨0, Nat.zero_le _, rfl, HP⟩
  case round =>
    obtain ⟨k, hk, rfl, HR⟩ := hrel
    clear HP
    have k0 : (0 : Int) ≤ (k : Int) := by omega
    by_cases hlt : k < N
    · have kN : (k : Int) < (N : Int) := by omega
      have Hlt := hid hlt
      obtain ⟨P, hP⟩ : ∃ P, plR L B k = P := ⟨_, rfl⟩
      have hPb := plR_bd HK.out k (B := B)
      rw [hP] at hPb
      have HPb : Hid (0 ≤ P ∧ P ≤ 10300000) := hid (by have := HN1.out; omega)
      have hS := HR.out.step
      rw [hP] at hS
      have c0 := HR.out.sm.c0 k hlt
      have c1 := HR.out.sm.c1 k hlt
      rw [hP] at c0 c1
      have HX := hid (RwAt.new wr 50 #[.int .u64 (smH P), .int .u64 (smL P)])
      have HQ := hid (HR.out.kept0 (World.grownBy_alloc wr (.cells #[.int .u64 (smH P), .int .u64 (smL P)] 50) none))
      clear hS hPb hlt hk
      go_upto_region 7 with (fail)
      obtain ⟨X, hX⟩ : ∃ X, wr.heap.size = X := ⟨_, rfl⟩
      rw [hX] at HX ⊢
      clear hX c0 c1 HR
      generalize wr.alloc (.cells #[.int .u64 (smH P), .int .u64 (smL P)] 50) = w2 at HX HQ ⊢
      have x0 := HX.out.cell 0 (v := .int .u64 (smH P)) rfl
      have x1 := HX.out.cell 1 (v := .int .u64 (smL P)) rfl
      go_wp2_with fail
      refine (cut_any (z := P) HPb.out.1 (by have := HPb.out; omega) _).mono ?_
      rintro e w5 ⟨rfl, hg⟩
      have HQ5 := hid (HQ.out.kept0 hg)
      have hS := HQ5.out.step
      rw [hP] at hS
      have HS := hid hS
      have e0 := HQ5.out.own.cellAt k (by have := Hlt.out; omega)
      rw [List.getElem?_map, pfI_get Hlt.out, if_neg (by omega)] at e0
      have f0 := HQ5.out.own.frozenAt k
      clear hg hS x0 x1 HX HQ hP
      go_wp2
      go_roundw
      case rel => exact ⟨k + 1, Hlt.out, by go_num, HS⟩
      case measure => simp [intOf]; have := Hlt.out; omega
    · obtain rfl : k = N := by omega
      clear hlt
      have kN : ¬ ((k : Int) < (k : Int)) := by omega
      go_wp2
      refine bodyPost_ret (v := .slice (some ⟨g, 0, none⟩) k k) (by simp [results, Try.results12, go_sem]) rfl ?_
      have h1 := HR.out.own
      rw [pfI_all] at h1
      exact ⟨g, rfl, h1, HR.out.gr⟩
set_option maxRecDepth 100000 in
theorem places_nil {W : World} {p pb : Option Addr} {n m c cb : Nat} (h : m ≠ n) (_hn : n ≤ 1000000) (_hm : m ≤ 1000000) :
    Calls Try.prog 12 #[.slice p n c, .slice pb m cb] W fun e w' => e = .returned (.slice none 0 0) ∧ W.grownBy w' none := by
  have hz : ((m : Int) == (n : Int)) = false := by simp; omega
  have hz2 : (m == n) = false := by simpa using h
  have Hr := hid (grown_refl W none)
  go_enter Try.func12, Try.ntmps12
  go_wp2
  go_ret
  exact ⟨rfl, Hr.out⟩
set_option maxRecDepth 100000 in
theorem fits_rel {W : World} {v vb : Value} {L : List RIt} {B : List Bool} (h : RiAt W v L) (hb : BlAt W vb B) (hB : B.length = L.length) (hok : okR L = true) (hL : L.length ≤ 5000) {r : Bool} (hr : decide (farR L B L.length = []) = r) :
    Calls Try.prog 19 #[v, vb] W fun e w' => e = .returned (.bool r) ∧ W.grownBy w' none := by
  have HT := hid (tooFar_rel h hb hB hok hL)
  obtain ⟨p, c, hv⟩ := h.len
  subst hv
  obtain ⟨pb, cb, hvb⟩ := hb.len
  subst hvb
  rw [hB] at HT ⊢
  have Hr := hid hr
  obtain ⟨n, hn⟩ : ∃ n, L.length = n := ⟨_, rfl⟩
  rw [hn] at hL HT Hr ⊢
  have n0 : (0 : Int) ≤ (n : Int) := by omega
  have n1 : (n : Int) ≤ 5000 := by omega
  clear h hb hB hok hn hr
  go_enter Try.func19, Try.ntmps19
  go_wp2_with fail
  refine HT.out.mono ?_
  rintro e w2 ⟨u, rfl, ho, hg⟩
  obtain ⟨up, uc, rfl⟩ := own_slice ho
  obtain ⟨M, hM⟩ : ∃ M, (farR L B n).length = M := ⟨_, rfl⟩
  have hr2 := Hr.out
  rw [hM]
  have e1 : ((M : Int) == 0) = r := by
    rw [← hr2]
    by_cases e : farR L B n = []
    · have : M = 0 := by rw [← hM, e]; rfl
      subst this
      rw [e]; rfl
    · have : M ≠ 0 := by rw [← hM]; intro h; exact e (List.length_eq_zero_iff.1 h)
      simp [e, this]
  have HG := hid hg
  clear ho hg hM hr2
  go_wp2
  go_ret
  exact ⟨rfl, HG.out⟩
end Go.Proofs.Ytmhkghkfpkekbaa
