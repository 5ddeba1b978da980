/- The law RelaxFar: walked. -/
import Derived.Test.YtmhkghkfpkekbaaRelB
import Derived.Test.YtmhkghkfpkekbaaMem6
namespace Go.Proofs.Ytmhkghkfpkekbaa
open Go.RowKit
theorem info_itemR : ∃ i : TypeInfo, Try.prog.info? 29 = some i ∧ i.zero = some (.agg #[.int .i64 0, .int .i64 0, .bool false]) ∧ i.size = 3 ∧ i.bytes = 24 := info_parts (P := Try.prog) (e := 29) (z := .agg #[.int .i64 0, .int .i64 0, .bool false]) (size := 3) (bytes := 24) (by kernel_rfl)
structure ItW (W w : World) (v : Value) (n : Nat) (l : List RIt) : Prop where
  gr : W.grownBy w none
  own : w.ownsRow W.heap.size 29 3 v n (itsC l)
theorem ItW.kept0 {W w w1 : World} {v : Value} {n : Nat} {l : List RIt} (h : ItW W w v n l) (hg : w.grownBy w1 none) : ItW W w1 v n l := ⟨grown_trans h.gr hg, h.own.kept hg (by cases v.ownBlock <;> simp)⟩
theorem ItW.ri {W w : World} {v : Value} {n : Nat} {l : List RIt} (h : ItW W w v n l) (hl : l.length = n) : RiAt w v l := by
  subst hl; exact CsAt.own h.own
theorem ItW.more {W w w1 w2 : World} {v : Value} {n m g cap : Nat} {l k : List RIt} (h : ItW W w v n l) (hg : w.grownBy w1 none) (ho : w2.ownsRow W.heap.size 29 3 (.slice (some ⟨g, 0, none⟩) (n + m) cap) (n + m) (itsC l ++ itsC k)) (hr : w1.grownBy w2 v.ownBlock) : ItW W w2 (.slice (some ⟨g, 0, none⟩) (n + m) cap) (n + m) (l ++ k) :=
  ⟨grown_new' (grown_trans (grown_none (grown_trans h.gr hg)) hr) (fun j hj => (h.own.lt j hj).1), by rw [itsC_append]; exact ho⟩
def rndB (L : List RIt) (K : Nat) : Bool := decide (farR L (itR L K) L.length = []) && (List.range K).all fun i => !decide (farR L (itR L i) L.length = [])
theorem rndB_ok {L : List RIt} {K : Nat} (h : rndB L K = true) : RndR L K := by
  unfold rndB at h
  rw [Bool.and_eq_true, decide_eq_true_eq] at h
  refine ⟨h.1, fun i hi => ?_⟩
  have := List.all_eq_true.1 h.2 i (List.mem_range.2 hi)
  simpa using this
def pl1 : RIt := ⟨1, 0, false⟩
def farF (n : Nat) : List RIt := ⟨1, n, true⟩ :: List.replicate (n - 1) pl1
def farK (n : Nat) : List RIt := List.replicate (n - 1) pl1 ++ [pl1, ⟨1, 0, true⟩]
theorem farF_all : ∀ k, k < 8 → validR (farF (k + 124)) = true ∧ rndB (farF (k + 124)) (if 127 < k + 124 then 1 else 0) = true ∧ (itR (farF (k + 124)) (if 127 < k + 124 then 1 else 0)).getD 0 false = decide (127 < k + 124) := by decide +kernel
theorem farK_all : ∀ k, k < 8 → validR (farK (k + 124)) = true ∧ rndB (farK (k + 124)) (if 128 < k + 124 then 1 else 0) = true ∧ (itR (farK (k + 124)) (if 128 < k + 124 then 1 else 0)).getD (k + 124) false = decide (128 < k + 124) := by decide +kernel
theorem World.grownBy_refl' (w : World) : w.grownBy w none := grown_refl w none
theorem rep_snoc {α : Type} (a : α) (k : Nat) : List.replicate (k + 1) a = List.replicate k a ++ [a] := by rw [List.replicate_succ']
theorem il_getD {w : World} {base g n : Nat} {l : List Bool} (h : w.ownsRow base 4 1 (.slice (some ⟨g, 0, none⟩) n n) n (l.map Value.bool)) {k : Nat} (hk : k < n) (hl : l.length = n) : w.cell? ⟨g, k, none⟩ = some (.bool (l.getD k false)) := by
  rw [h.cellAt k (by omega), List.getElem?_map, List.getD_eq_getElem?_getD, List.getElem?_eq_getElem (by omega)]
  rfl
set_option maxRecDepth 100000 in
set_option maxHeartbeats 8000000 in
theorem far_walk (p : Int) (back : Bool) (W : World) (hp0 : -9223372036854775808 ≤ p) (hp1 : p ≤ 9223372036854775807) :
    Calls Try.prog 6 #[.int .i64 p, .bool back] W fun e W' => e = .returned (.bool true) ∧ Below W.heap.size W W' := by
  have Hp := hid (And.intro hp0 hp1)
  clear hp0 hp1
  obtain ⟨i, hi, hz0, hz1, hz2⟩ := info_itemR
  have Hi := hid hi
  have Hz0 := hid hz0
  have Hz1 := hid hz1
  have Hz2 := hid hz2
  clear hi hz0 hz1 hz2
  go_enter Try.func6, Try.ntmps6
  go_wp2_with fail
  refine (first12_any _).mono ?_
  rintro e w1 ⟨rfl, hg⟩
  have HG1 := hid hg
  clear hg
  go_wp2_with fail
  refine (number_any p 8 (by decide) (by decide) Hp.out.1 Hp.out.2 _).mono ?_
  rintro e w2 ⟨rfl, rfl⟩
  obtain ⟨K, hK⟩ : ∃ K, numB p 8 = K := ⟨_, rfl⟩
  have hK8 : K < 8 := by rw [← hK]; exact numB_lt p (by decide)
  rw [hK]
  have HK8 := hid hK8
  obtain ⟨N, hN⟩ : ∃ N, K + 124 = N := ⟨_, rfl⟩
  have HN := hid hN
  have kN : (K : Int) + 124 = (N : Int) := by omega
  have hw := wrap_i64_id (n := (N : Int)) (by omega) (by omega)
  have HNb : Hid (124 ≤ N ∧ N ≤ 131) := hid (by omega)
  have N0 : (124 : Int) ≤ (N : Int) := by omega
  have N1 : (N : Int) ≤ 131 := by omega
  have K0 : (0 : Int) ≤ (K : Int) := by omega
  have K1 : (K : Int) < 8 := by omega
  clear hK hK8 hN
  have H0 : Hid (ItW W w1 (.slice none 0 0) 0 []) := hid ⟨HG1.out, World.ownsRow_nil _ _ _ _⟩
  cases back
  · have al := World.grownBy_alloc w1 (.cells #[.int .i64 1, .int .i64 (N : Int), .bool true] 29) none
    have HQA := hid (H0.out.kept0 al)
    have HNwA : Hid (∀ j u, [Value.int .i64 1, .int .i64 (N : Int), .bool true][j]? = some u → (w1.alloc (.cells #[.int .i64 1, .int .i64 (N : Int), .bool true] 29)).cell? ((⟨w1.heap.size, 0, none⟩ : Addr).add j) = some u) := hid (World.news_of_block (heap_alloc_new w1 _))
    clear al
    go_wp2_with (first
      | (refine wpList_append_lies _ rfl _ _ 22 rfl W.heap.size 29 i _ 3 24 Try.underlying22 Hi.out Hz0.out Hz1.out Hz2.out rfl (by decide) _ 0 _ rfl HQA.out.own ⟨w1.heap.size, 0, none⟩ 1 1 _ rfl rfl HNwA.out (by simp [Value.oneCell']) (by decide) (by skip; unfold maxLen; omega) (by skip; omega) HQA.out.gr.size _ rfl ?_
         intro gA capA wA hown hgrow hat hlt2
         have HOA : Hid (ItW W wA (.slice (some ⟨gA, 0, none⟩) (0 + 1) capA) (0 + 1) ([] ++ [⟨1, (N : Int), true⟩])) := hid (HQA.out.more (World.grownBy_refl' _) hown hgrow)
         clear hown hgrow hat hlt2)
      | fail)
    have HL : Hid (ItW W wA (.slice (some ⟨gA, 0, none⟩) (0 + 1) capA) (0 + 1) (⟨1, (N : Int), true⟩ :: List.replicate 0 pl1)) := HOA
    clear H0
    go_wp2
    go_loopw [6, 7] (fun v i wr => ∃ k : Nat, k + 1 ≤ N ∧ i = .int .i64 (k + 1 : Nat) ∧ Hid (ItW W wr v (k + 1) (⟨1, (N : Int), true⟩ :: List.replicate k pl1))) (fun _ i _ => N - (intOf i).toNat)
    case atStart => exact ⟨0, by have := HNb.out; omega, rfl, HL⟩
    case round =>
      obtain ⟨k, hk, rfl, HR⟩ := hrel
      clear HL
      obtain ⟨k1, hk1⟩ : ∃ k1, k + 1 = k1 := ⟨_, rfl⟩
      have Hk1 := hid hk1
      rw [hk1]
      have k0 : (0 : Int) ≤ (k1 : Int) := by omega
      obtain ⟨q, hq⟩ : ∃ q, k + 1 = q := ⟨_, rfl⟩
      rw [hq] at HR
      have Hq := hid hq
      obtain ⟨vp, vc, rfl⟩ := own_slice HR.out.own
      by_cases hlt : k1 < N
      · have kn : (k1 : Int) < (N : Int) := by omega
        have Hlt := hid hlt
        have Hqb : Hid (q ≤ 131) := hid (by have := HNb.out; omega)
        clear hlt hk hk1 hq
        have al := World.grownBy_alloc wr (.cells #[.int .i64 1, .int .i64 0, .bool false] 29) none
        have HQB := hid (HR.out.kept0 al)
        have HNwB : Hid (∀ j u, [Value.int .i64 1, .int .i64 0, .bool false][j]? = some u → (wr.alloc (.cells #[.int .i64 1, .int .i64 0, .bool false] 29)).cell? ((⟨wr.heap.size, 0, none⟩ : Addr).add j) = some u) := hid (World.news_of_block (heap_alloc_new wr _))
        clear al
        go_wp2_with (first
          | (refine wpList_append_lies _ rfl _ _ 22 rfl W.heap.size 29 i _ 3 24 Try.underlying22 Hi.out Hz0.out Hz1.out Hz2.out rfl (by decide) _ q _ rfl HQB.out.own ⟨wr.heap.size, 0, none⟩ 1 1 _ rfl rfl HNwB.out (by simp [Value.oneCell']) (by decide) (by have := Hqb.out; unfold maxLen; omega) (by have := Hqb.out; omega) HQB.out.gr.size _ rfl ?_
             intro gB capB wB hown hgrow hat hlt2
             have HOB : Hid (ItW W wB (.slice (some ⟨gB, 0, none⟩) (q + 1) capB) (q + 1) (⟨1, (N : Int), true⟩ :: List.replicate k pl1 ++ [pl1])) := hid (HQB.out.more (World.grownBy_refl' _) hown hgrow)
             clear hown hgrow hat hlt2)
          | fail)
        go_roundw
        case rel =>
          refine ⟨k + 1, by have := Hlt.out; have := Hk1.out; omega, by have := Hk1.out; subst this; go_num, hid ?_⟩
          have := HOB.out
          rw [rep_snoc, show k + 1 + 1 = q + 1 by have := Hq.out; omega]
          exact this
        case measure => simp [intOf]; have := Hlt.out; omega
      · obtain rfl : k1 = N := by omega
        have kn : ¬ ((k1 : Int) < (k1 : Int)) := by omega
        obtain rfl : k = k1 - 1 := by omega
        clear hlt hk hk1
        have HF : Hid (ItW W wr (.slice vp q vc) q (farF k1)) := HR
        obtain ⟨M, hM⟩ : ∃ M, q = M := ⟨_, rfl⟩
        have HM : Hid (k1 = M) := hid (by have := Hq.out; have := HNb.out; omega)
        rw [hM] at HF ⊢
        have HRI : Hid (RiAt wr (.slice vp M vc) (farF k1)) := hid (HF.out.ri (by simp [farF]; have := HM.out; have := HNb.out; omega))
        have HFL : Hid ((farF k1).length = M) := hid (by simp [farF]; have := HM.out; have := HNb.out; omega)
        have hall := farF_all K HK8.out
        rw [HN.out] at hall
        have HGF := hid HF.out.gr
        clear hM HF HR hq
        go_wp2_with fail
        obtain ⟨R, hR⟩ : ∃ R, (if 127 < k1 then 1 else 0) = R := ⟨_, rfl⟩
        rw [hR] at hall
        refine (do_yesR HRI.out hall.1 (rndB_ok hall.2.1)).mono ?_
        rintro e w4 ⟨ga, rfl, hoa, hg⟩
        rw [HFL.out] at hoa ⊢
        have hc := il_getD hoa (k := 0) (by have := HM.out; have := HNb.out; omega) (by rw [itR_length, HFL.out])
        rw [hall.2.2] at hc
        have HGe := hid (grown_trans HGF.out hg)
        have M0 : (124 : Int) ≤ (M : Int) := by have := HM.out; have := HNb.out; omega
        have M1 : (M : Int) ≤ 132 := by have := HM.out; have := HNb.out; omega
        clear hall hoa hg
        by_cases hf : 127 < k1
        · have hf2 : (127 : Int) < (k1 : Int) := by omega
          have hf3 : decide (127 < k1) = true := by simp; omega
          rw [if_pos hf] at hR
          subst hR
          rw [show decide (127 < k1) = true by simpa using hf] at hc
          clear hf
          go_wp2
          go_ret
          exact ⟨rfl, grown_below HGe.out⟩
        · have hf2 : (k1 : Int) ≤ 127 := by omega
          have hf3 : decide ((127 : Int) < (k1 : Int)) = false := by simp; omega
          rw [if_neg hf] at hR
          subst hR
          rw [show decide (127 < k1) = false by simpa using hf] at hc
          clear hf
          go_wp2
          go_ret
          exact ⟨rfl, grown_below HGe.out⟩
  · have HL : Hid (ItW W w1 (.slice none 0 0) 0 (List.replicate 0 pl1)) := H0
    clear H0
    go_wp2
    go_loopw [6, 7] (fun v i wr => ∃ k : Nat, k + 1 ≤ N ∧ i = .int .i64 (k + 1 : Nat) ∧ Hid (ItW W wr v (k + 0) (List.replicate k pl1))) (fun _ i _ => N - (intOf i).toNat)
    case atStart => exact ⟨0, by have := HNb.out; omega, rfl, HL⟩
    case round =>
      obtain ⟨k, hk, rfl, HR⟩ := hrel
      clear HL
      obtain ⟨k1, hk1⟩ : ∃ k1, k + 1 = k1 := ⟨_, rfl⟩
      have Hk1 := hid hk1
      rw [hk1]
      have k0 : (0 : Int) ≤ (k1 : Int) := by omega
      obtain ⟨q, hq⟩ : ∃ q, k + 0 = q := ⟨_, rfl⟩
      rw [hq] at HR
      have Hq := hid hq
      obtain ⟨vp, vc, rfl⟩ := own_slice HR.out.own
      by_cases hlt : k1 < N
      · have kn : (k1 : Int) < (N : Int) := by omega
        have Hlt := hid hlt
        have Hqb : Hid (q ≤ 131) := hid (by have := HNb.out; omega)
        clear hlt hk hk1 hq
        have al := World.grownBy_alloc wr (.cells #[.int .i64 1, .int .i64 0, .bool false] 29) none
        have HQB := hid (HR.out.kept0 al)
        have HNwB : Hid (∀ j u, [Value.int .i64 1, .int .i64 0, .bool false][j]? = some u → (wr.alloc (.cells #[.int .i64 1, .int .i64 0, .bool false] 29)).cell? ((⟨wr.heap.size, 0, none⟩ : Addr).add j) = some u) := hid (World.news_of_block (heap_alloc_new wr _))
        clear al
        go_wp2_with (first
          | (refine wpList_append_lies _ rfl _ _ 22 rfl W.heap.size 29 i _ 3 24 Try.underlying22 Hi.out Hz0.out Hz1.out Hz2.out rfl (by decide) _ q _ rfl HQB.out.own ⟨wr.heap.size, 0, none⟩ 1 1 _ rfl rfl HNwB.out (by simp [Value.oneCell']) (by decide) (by have := Hqb.out; unfold maxLen; omega) (by have := Hqb.out; omega) HQB.out.gr.size _ rfl ?_
             intro gB capB wB hown hgrow hat hlt2
             have HOB : Hid (ItW W wB (.slice (some ⟨gB, 0, none⟩) (q + 1) capB) (q + 1) (List.replicate k pl1 ++ [pl1])) := hid (HQB.out.more (World.grownBy_refl' _) hown hgrow)
             clear hown hgrow hat hlt2)
          | fail)
        go_roundw
        case rel =>
          refine ⟨k + 1, by have := Hlt.out; have := Hk1.out; omega, by have := Hk1.out; subst this; go_num, hid ?_⟩
          have := HOB.out
          rw [rep_snoc, show k + 1 + 0 = q + 1 by have := Hq.out; omega]
          exact this
        case measure => simp [intOf]; have := Hlt.out; omega
      · obtain rfl : k1 = N := by omega
        have kn : ¬ ((k1 : Int) < (k1 : Int)) := by omega
        obtain rfl : k = k1 - 1 := by omega
        clear hlt hk hk1
        have Hqb : Hid (q ≤ 131) := hid (by have := HNb.out; omega)
        have al := World.grownBy_alloc wr (.cells #[.int .i64 1, .int .i64 0, .bool false, .int .i64 1, .int .i64 0, .bool true] 29) none
        have HQC := hid (HR.out.kept0 al)
        have HNwC : Hid (∀ j u, [Value.int .i64 1, .int .i64 0, .bool false, .int .i64 1, .int .i64 0, .bool true][j]? = some u → (wr.alloc (.cells #[.int .i64 1, .int .i64 0, .bool false, .int .i64 1, .int .i64 0, .bool true] 29)).cell? ((⟨wr.heap.size, 0, none⟩ : Addr).add j) = some u) := hid (World.news_of_block (heap_alloc_new wr _))
        clear al
        go_wp2_with (first
          | (refine wpList_append_lies _ rfl _ _ 22 rfl W.heap.size 29 i _ 3 24 Try.underlying22 Hi.out Hz0.out Hz1.out Hz2.out rfl (by decide) _ q _ rfl HQC.out.own ⟨wr.heap.size, 0, none⟩ 2 2 _ rfl rfl HNwC.out (by simp [Value.oneCell']) (by decide) (by have := Hqb.out; unfold maxLen; omega) (by have := Hqb.out; omega) HQC.out.gr.size _ rfl ?_
             intro gC capC wC hown hgrow hat hlt2
             have HOC : Hid (ItW W wC (.slice (some ⟨gC, 0, none⟩) (q + 2) capC) (q + 2) (List.replicate (k1 - 1) pl1 ++ [pl1, ⟨1, 0, true⟩])) := hid (HQC.out.more (World.grownBy_refl' _) hown hgrow)
             clear hown hgrow hat hlt2)
          | fail)
        have HF : Hid (ItW W wC (.slice (some ⟨gC, 0, none⟩) (q + 2) capC) (q + 2) (farK k1)) := HOC
        obtain ⟨M, hM⟩ : ∃ M, q + 2 = M := ⟨_, rfl⟩
        have HM : Hid (k1 + 1 = M) := hid (by have := Hq.out; have := HNb.out; omega)
        rw [hM] at HF ⊢
        have HRI : Hid (RiAt wC (.slice (some ⟨gC, 0, none⟩) M capC) (farK k1)) := hid (HF.out.ri (by simp [farK]; have := HM.out; have := HNb.out; omega))
        have HFL : Hid ((farK k1).length = M) := hid (by simp [farK]; have := HM.out; have := HNb.out; omega)
        have hall := farK_all K HK8.out
        rw [HN.out] at hall
        have HGF := hid HF.out.gr
        clear hM HF HR HQC HNwC HOC hq
        obtain ⟨R, hR⟩ : ∃ R, (if 128 < k1 then 1 else 0) = R := ⟨_, rfl⟩
        rw [hR] at hall
        refine (do_yesR HRI.out hall.1 (rndB_ok hall.2.1)).mono ?_
        rintro e w4 ⟨ga, rfl, hoa, hg⟩
        rw [HFL.out] at hoa ⊢
        have hc := il_getD hoa (k := k1) (by have := HM.out; have := HNb.out; omega) (by rw [itR_length, HFL.out])
        rw [hall.2.2] at hc
        have HGe := hid (grown_trans HGF.out hg)
        have M0 : (124 : Int) ≤ (M : Int) := by have := HM.out; have := HNb.out; omega
        have M1 : (M : Int) ≤ 132 := by have := HM.out; have := HNb.out; omega
        have m1 : (M : Int) - 1 = (k1 : Int) := by have := HM.out; omega
        have hw2 := wrap_i64_id (n := (k1 : Int)) (by omega) (by omega)
        have kM : (k1 : Int) < (M : Int) := by omega
        clear hall hoa hg
        by_cases hf : 128 < k1
        · have hf2 : (128 : Int) < (k1 : Int) := by omega
          have hf3 : decide (128 < k1) = true := by simp; omega
          rw [if_pos hf] at hR
          subst hR
          rw [show decide (128 < k1) = true by simpa using hf] at hc
          clear hf
          go_wp2
          go_ret
          exact ⟨rfl, grown_below HGe.out⟩
        · have hf2 : (k1 : Int) ≤ 128 := by omega
          have hf3 : decide ((128 : Int) < (k1 : Int)) = false := by simp; omega
          rw [if_neg hf] at hR
          subst hR
          rw [show decide (128 < k1) = false by simpa using hf] at hc
          clear hf
          go_wp2
          go_ret
          exact ⟨rfl, grown_below HGe.out⟩
end Go.Proofs.Ytmhkghkfpkekbaa
