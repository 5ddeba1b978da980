/- The document's Places, Bools and Relax: contracts. -/
import Derived.Test.YtmhkghkfpkekbaaRel6
import Derived.Test.YtmhkghkfpkekbaaRel8
namespace Go.Proofs.Ytmhkghkfpkekbaa
open Go.RowKit
theorem plsR_succ (L : List RIt) (B : List Bool) (k : Nat) : plsR L B (k + 1) = plsR L B k ++ [plR L B k] := by
  unfold plsR; rw [List.range_succ, List.map_append]; rfl
theorem szR_item {L : List RIt} {B : List Bool} {k : Nat} {r : RIt} (hr : L[k]? = some r) : szR L B k = r.s + (if B.getD k false = true then 1 else 0) := by unfold szR sR; rw [hr]
structure P9W (W w : World) (v : Value) (n : Nat) (xs : List Int) : Prop where
  gr : W.grownBy w none
  own : w.ownsRow W.heap.size 3 1 v n (xs.map (Value.int .i64))
set_option maxRecDepth 100000 in
set_option maxHeartbeats 8000000 in
theorem places9_rel {W : World} {v vb : Value} {L : List RIt} {B : List Bool} (h : RiAt W v L) (hb : BlAt W vb B) (hB : B.length = L.length) (hok : okR L = true) (hL : L.length ≤ 5000) :
    Calls Try.prog 18 #[v, vb] W fun e w' => ∃ u, e = .returned u ∧ w'.ownsRow W.heap.size 3 1 u (L.length + 1) ((plsR L B (L.length + 1)).map (Value.int .i64)) ∧ W.grownBy w' none := by
  obtain ⟨p, c, hv⟩ := h.len
  subst hv
  have HBl := hid hb
  obtain ⟨pb, cb, hvb⟩ := hb.len
  subst hvb
  rw [hB]
  have HBle := hid hB
  have HA := hid h
  have HK := hid hok
  obtain ⟨n, hn⟩ : ∃ n, L.length = n := ⟨_, rfl⟩
  have HNe := hid hn
  rw [hn] at hL ⊢
  have n0 : (0 : Int) ≤ (n : Int) := by omega
  have n1 : (n : Int) ≤ 5000 := by omega
  have Hn1 := hid hL
  have HP : Hid (P9W W W (.slice none 0 0) 0 (plsR L B 0)) := hid ⟨grown_refl _ _, World.ownsRow_nil _ _ _ _⟩
  clear h hb hB hok hL hn
  obtain ⟨i, hi, hz0, hz1, hz2⟩ := info_intR
  have Hi := hid hi
  have Hz0 := hid hz0
  have Hz1 := hid hz1
  have Hz2 := hid hz2
  clear hi hz0 hz1 hz2
  go_enter Try.func18, Try.ntmps18
  go_wp2
  go_loopw [5, 6, 7] (fun u m j wr => ∃ k : Nat, k ≤ n ∧ j = .int .i64 k ∧ m = .int .i64 (plR L B k) ∧ Hid (P9W W wr u k (plsR L B k))) (fun _ _ j _ => n - (intOf j).toNat)
  case atStart => exact ⟨0, Nat.zero_le _, rfl, rfl, HP⟩
  case round =>
    obtain ⟨k, hk, rfl, rfl, HR⟩ := hrel
    clear HP
    have k0 : (0 : Int) ≤ (k : Int) := by omega
    obtain ⟨up, uc, rfl⟩ := own_slice HR.out.own
    obtain ⟨P, hP⟩ : ∃ P, plR L B k = P := ⟨_, rfl⟩
    have hPb := plR_bd HK.out k (B := B)
    have hP1 := plR_succ k (L := L) (B := B)
    have hps := plsR_succ L B k
    rw [hP] at hPb hP1 hps
    have HPb : Hid (0 ≤ P ∧ P ≤ 10300000) := hid (by have := Hn1.out; omega)
    have Hps := hid hps
    rw [hP]
    clear hPb hps
    by_cases hlt : k < n
    · have kn : (k : Int) < (n : Int) := by omega
      have Hlt := hid hlt
      obtain ⟨r, hr⟩ : ∃ r, L[k]? = some r := ⟨_, List.getElem?_eq_getElem (by have := HNe.out; omega)⟩
      rw [szR_item hr] at hP1
      have hrs : 0 ≤ r.s ∧ r.s ≤ 2048 := by
        have := List.all_eq_true.1 HK.out r (List.mem_of_getElem? hr)
        simp only [okRI, Bool.and_eq_true, decide_eq_true_eq] at this
        exact this.1
      obtain ⟨b, o, c', hv, hb, c0, c1, c2⟩ := RiAt.item HA.out hr
      simp only [Value.slice.injEq] at hv
      obtain ⟨rfl, -, -⟩ := hv
      obtain ⟨bb, ob, cb', hvb, hbb, cB⟩ := BlAt.item HBl.out (by rw [HBle.out, HNe.out]; exact hlt)
      simp only [Value.slice.injEq] at hvb
      obtain ⟨rfl, -, -⟩ := hvb
      obtain ⟨s, t, br⟩ := r
      simp only at c0 c1 c2 hrs hP1
      obtain ⟨bk, hbk⟩ : ∃ bk, B.getD k false = bk := ⟨_, rfl⟩
      rw [hbk] at cB hP1
      have al := World.grownBy_alloc wr (.cells #[.int .i64 P] 3) none
      have HRa : Hid (P9W W (wr.alloc (.cells #[.int .i64 P] 3)) (.slice up k uc) k (plsR L B k)) := hid ⟨grown_trans HR.out.gr al, HR.out.own.kept al (by cases (Value.slice up k uc).ownBlock <;> simp)⟩
      have HNw : Hid (∀ j u, [Value.int .i64 P][j]? = some u → (wr.alloc (.cells #[.int .i64 P] 3)).cell? ((⟨wr.heap.size, 0, none⟩ : Addr).add j) = some u) := hid (World.news_of_block (heap_alloc_new wr _))
      have HC := hid (And.intro hb (And.intro c0 (And.intro hbb cB)))
      obtain ⟨S, hS⟩ : ∃ S, P + s = S := ⟨_, rfl⟩
      have hw := wrap_i64_id (n := S) (by have := HPb.out; omega) (by have := HPb.out; omega)
      have hw1 := wrap_i64_id (n := S + 1) (by have := HPb.out; omega) (by have := HPb.out; omega)
      rw [← Int.add_assoc, hS] at hP1
      have HP1 := hid hP1
      clear hr hlt hb hk hbb c0 c1 c2 cB al hbk hP1 hrs
      go_wp2_with (first
        | (refine wpList_append_lies _ rfl _ _ 30 rfl W.heap.size 3 i _ 1 8 Try.underlying30 Hi.out Hz0.out Hz1.out Hz2.out rfl (by decide) _ k _ rfl HRa.out.own ⟨wr.heap.size, 0, none⟩ 1 1 _ rfl rfl HNw.out (by simp [Value.oneCell']) (by decide) (by have := Hlt.out; have := Hn1.out; unfold maxLen; omega) (by have := Hlt.out; have := Hn1.out; omega) HRa.out.gr.size _ rfl ?_
           intro g5 cap w5 hown hgrow hat hlt2
           have HO := hid hown
           have hgrow0 : (wr.alloc (.cells #[.int .i64 P] 3)).grownBy w5 (Value.slice up k uc).ownBlock := hgrow
           have hgw : wr.grownBy w5 (Value.slice up k uc).ownBlock := grown_trans (World.grownBy_alloc wr _ _) hgrow0
           have hgW : W.grownBy w5 none := grown_new' (grown_trans (grown_none HR.out.gr) hgw) (fun j hj => (HR.out.own.lt j hj).1)
           have HGW := hid hgW
           have c0 := (grown_cell (p := ⟨b, o + k * 3, none⟩) hgW HC.out.1 (by simp)).trans HC.out.2.1
           have cB := (grown_cell (p := ⟨bb, ob + k, none⟩) hgW HC.out.2.2.1 (by simp)).trans HC.out.2.2.2
           clear hown hgrow hat hlt2 hgrow0 hgw hgW
           cases bk)
        | fail)
      · go_roundw
        case rel =>
          refine ⟨k + 1, Hlt.out, by go_num, by rw [HP1.out]; simp, hid ⟨HGW.out, ?_⟩⟩
          rw [Hps.out, List.map_append]
          exact HO.out
        case measure => simp [intOf]; have := Hlt.out; omega
      · go_roundw
        case rel =>
          refine ⟨k + 1, Hlt.out, by go_num, by rw [HP1.out]; simp, hid ⟨HGW.out, ?_⟩⟩
          rw [Hps.out, List.map_append]
          exact HO.out
        case measure => simp [intOf]; have := Hlt.out; omega
    · obtain rfl : k = n := by omega
      clear hlt
      have kn : ¬ ((k : Int) < (k : Int)) := by omega
      have al := World.grownBy_alloc wr (.cells #[.int .i64 P] 3) none
      have HRa : Hid (P9W W (wr.alloc (.cells #[.int .i64 P] 3)) (.slice up k uc) k (plsR L B k)) := hid ⟨grown_trans HR.out.gr al, HR.out.own.kept al (by cases (Value.slice up k uc).ownBlock <;> simp)⟩
      have HNw : Hid (∀ j u, [Value.int .i64 P][j]? = some u → (wr.alloc (.cells #[.int .i64 P] 3)).cell? ((⟨wr.heap.size, 0, none⟩ : Addr).add j) = some u) := hid (World.news_of_block (heap_alloc_new wr _))
      clear al
      go_wp2_with (first
        | (refine wpList_append_lies _ rfl _ _ 30 rfl W.heap.size 3 i _ 1 8 Try.underlying30 Hi.out Hz0.out Hz1.out Hz2.out rfl (by decide) _ k _ rfl HRa.out.own ⟨wr.heap.size, 0, none⟩ 1 1 _ rfl rfl HNw.out (by simp [Value.oneCell']) (by decide) (by have := Hn1.out; unfold maxLen; omega) (by have := Hn1.out; omega) HRa.out.gr.size _ rfl ?_
           intro g5 cap w5 hown hgrow hat hlt2
           have HO := hid hown
           have hgrow0 : (wr.alloc (.cells #[.int .i64 P] 3)).grownBy w5 (Value.slice up k uc).ownBlock := hgrow
           have hgw : wr.grownBy w5 (Value.slice up k uc).ownBlock := grown_trans (World.grownBy_alloc wr _ _) hgrow0
           have hgW : W.grownBy w5 none := grown_new' (grown_trans (grown_none HR.out.gr) hgw) (fun j hj => (HR.out.own.lt j hj).1)
           have HGW := hid hgW
           clear hown hgrow hat hlt2 hgrow0 hgw hgW)
        | fail)
      go_ret
      refine ⟨_, rfl, ?_, HGW.out⟩
      rw [Hps.out, List.map_append]
      exact HO.out
set_option maxRecDepth 100000 in
theorem places9_nil {W : World} {p pb : Option Addr} {n m c cb : Nat} (h : m ≠ n) (_hn : n ≤ 1000000) (_hm : m ≤ 1000000) :
    Calls Try.prog 18 #[.slice p n c, .slice pb m cb] W fun e w' => e = .returned (.slice none 0 0) ∧ W.grownBy w' none := by
  have hz : ((m : Int) == (n : Int)) = false := by simp; omega
  have hz2 : (m == n) = false := by simpa using h
  have Hr := hid (grown_refl W none)
  go_enter Try.func18, Try.ntmps18
  go_wp2
  go_ret
  exact ⟨rfl, Hr.out⟩
end Go.Proofs.Ytmhkghkfpkekbaa
