/- The law RelaxChain: walked. -/
import Derived.Test.YtmhkghkfpkekbaaRFar
namespace Go.Proofs.Ytmhkghkfpkekbaa
open Go.RowKit
def chL : Nat → List RIt
  | 0 => []
  | k + 1 => chL k ++ [⟨1, (2 * k + 3 : Nat), true⟩, ⟨125, 0, false⟩]
theorem chL_length : ∀ k, (chL k).length = 2 * k
  | 0 => rfl
  | k + 1 => by rw [chL, List.length_append, chL_length k]; simp; omega
def chA (n : Nat) (far : Bool) : List RIt := chL n ++ [⟨if far then 2 else 1, 0, false⟩]
theorem chA_length (n : Nat) (far : Bool) : (chA n far).length = 2 * n + 1 := by rw [chA, List.length_append, chL_length]; rfl
theorem chA_all : ∀ far : Bool, ∀ k, k < 10 → validR (chA (k + 1) far) = true ∧ rndB (chA (k + 1) far) (if far then k + 1 else 0) = true ∧ ∀ i, i < k + 1 → (itR (chA (k + 1) far) (if far then k + 1 else 0)).getD (2 * i) false = far := by decide +kernel
set_option maxRecDepth 100000 in
set_option maxHeartbeats 8000000 in
theorem chain_walk (p : Int) (far : Bool) (W : World) (hp0 : -9223372036854775808 ≤ p) (hp1 : p ≤ 9223372036854775807) :
    Calls Try.prog 7 #[.int .i64 p, .bool far] W fun e W' => e = .returned (.bool true) ∧ Below W.heap.size W W' := by
  have Hp := hid (And.intro hp0 hp1)
  clear hp0 hp1
  obtain ⟨i, hi, hz0, hz1, hz2⟩ := info_itemR
  have Hi := hid hi
  have Hz0 := hid hz0
  have Hz1 := hid hz1
  have Hz2 := hid hz2
  clear hi hz0 hz1 hz2
  go_enter Try.func7, Try.ntmps7
  go_wp2_with fail
  refine (first12_any _).mono ?_
  rintro e w1 ⟨rfl, hg⟩
  have HG1 := hid hg
  clear hg
  go_wp2_with fail
  refine (number_any p 10 (by decide) (by decide) Hp.out.1 Hp.out.2 _).mono ?_
  rintro e w2 ⟨rfl, rfl⟩
  obtain ⟨K, hK⟩ : ∃ K, numB p 10 = K := ⟨_, rfl⟩
  have hK8 : K < 10 := by rw [← hK]; exact numB_lt p (by decide)
  rw [hK]
  have HK8 := hid hK8
  obtain ⟨N, hN⟩ : ∃ N, K + 1 = N := ⟨_, rfl⟩
  have HN := hid hN
  have kN : (K : Int) + 1 = (N : Int) := by omega
  have hw := wrap_i64_id (n := (N : Int)) (by omega) (by omega)
  have HNb : Hid (1 ≤ N ∧ N ≤ 10) := hid (by omega)
  have N0 : (1 : Int) ≤ (N : Int) := by omega
  have N1 : (N : Int) ≤ 10 := by omega
  have K0 : (0 : Int) ≤ (K : Int) := by omega
  have K1 : (K : Int) < 10 := by omega
  clear hK hK8 hN
  have HL : Hid (ItW W w1 (.slice none 0 0) (2 * 0) (chL 0)) := hid ⟨HG1.out, World.ownsRow_nil _ _ _ _⟩
  go_wp2
  go_loopw [6, 7] (fun v i wr => ∃ k : Nat, k ≤ N ∧ i = .int .i64 k ∧ Hid (ItW W wr v (2 * k) (chL k))) (fun _ i _ => N - (intOf i).toNat)
  case atStart => exact ⟨0, Nat.zero_le _, rfl, HL⟩
  case round =>
    obtain ⟨k, hk, rfl, HR⟩ := hrel
    clear HL
    have k0 : (0 : Int) ≤ (k : Int) := by omega
    obtain ⟨q, hq⟩ : ∃ q, 2 * k = q := ⟨_, rfl⟩
    have hqi : (2 : Int) * (k : Int) = (q : Int) := by omega
    rw [hq] at HR
    have Hq := hid hq
    obtain ⟨vp, vc, rfl⟩ := own_slice HR.out.own
    by_cases hlt : k < N
    · have kn : (k : Int) < (N : Int) := by omega
      have Hlt := hid hlt
      have Hqb : Hid (q ≤ 20) := hid (by have := HNb.out; omega)
      obtain ⟨T, hT⟩ : ∃ T, 2 * k + 3 = T := ⟨_, rfl⟩
      have hTi : (q : Int) + 3 = (T : Int) := by omega
      have hw1 := wrap_i64_id (n := (q : Int)) (by omega) (by have := HNb.out; omega)
      have hw2 := wrap_i64_id (n := (T : Int)) (by omega) (by have := HNb.out; omega)
      have HT := hid hT
      clear hlt hk hq hT
      have al := World.grownBy_alloc wr (.cells #[.int .i64 1, .int .i64 (T : Int), .bool true, .int .i64 125, .int .i64 0, .bool false] 29) none
      have HQB := hid (HR.out.kept0 al)
      have HNwB : Hid (∀ j u, [Value.int .i64 1, .int .i64 (T : Int), .bool true, .int .i64 125, .int .i64 0, .bool false][j]? = some u → (wr.alloc (.cells #[.int .i64 1, .int .i64 (T : Int), .bool true, .int .i64 125, .int .i64 0, .bool false] 29)).cell? ((⟨wr.heap.size, 0, none⟩ : Addr).add j) = some u) := hid (World.news_of_block (heap_alloc_new wr _))
      clear al
      go_wp2_with (first
        | (refine wpList_append_lies _ rfl _ _ 22 rfl W.heap.size 29 i _ 3 24 Try.underlying22 Hi.out Hz0.out Hz1.out Hz2.out rfl (by decide) _ q _ rfl HQB.out.own ⟨wr.heap.size, 0, none⟩ 2 2 _ rfl rfl HNwB.out (by simp [Value.oneCell']) (by decide) (by have := Hqb.out; unfold maxLen; omega) (by have := Hqb.out; omega) HQB.out.gr.size _ rfl ?_
           intro gB capB wB hown hgrow hat hlt2
           have HOB : Hid (ItW W wB (.slice (some ⟨gB, 0, none⟩) (q + 2) capB) (q + 2) (chL k ++ [⟨1, (T : Int), true⟩, ⟨125, 0, false⟩])) := hid (HQB.out.more (World.grownBy_refl' _) hown hgrow)
           clear hown hgrow hat hlt2)
        | fail)
      go_roundw
      case rel =>
        refine ⟨k + 1, Hlt.out, by go_num, hid ?_⟩
        have := HOB.out
        rw [chL, HT.out, show 2 * (k + 1) = q + 2 by have := Hq.out; omega]
        exact this
      case measure => simp [intOf]; have := Hlt.out; omega
    · obtain rfl : k = N := by omega
      have kn : ¬ ((k : Int) < (k : Int)) := by omega
      have Hqb : Hid (q ≤ 20) := hid (by have := HNb.out; omega)
      clear hlt hk hq hqi
      cases far
      · have al := World.grownBy_alloc wr (.cells #[.int .i64 1, .int .i64 0, .bool false] 29) none
        have HQC := hid (HR.out.kept0 al)
        have HNwC : Hid (∀ j u, [Value.int .i64 1, .int .i64 0, .bool false][j]? = some u → (wr.alloc (.cells #[.int .i64 1, .int .i64 0, .bool false] 29)).cell? ((⟨wr.heap.size, 0, none⟩ : Addr).add j) = some u) := hid (World.news_of_block (heap_alloc_new wr _))
        clear al
        go_wp2_with (first
          | (refine wpList_append_lies _ rfl _ _ 22 rfl W.heap.size 29 i _ 3 24 Try.underlying22 Hi.out Hz0.out Hz1.out Hz2.out rfl (by decide) _ q _ rfl HQC.out.own ⟨wr.heap.size, 0, none⟩ 1 1 _ rfl rfl HNwC.out (by simp [Value.oneCell']) (by decide) (by have := Hqb.out; unfold maxLen; omega) (by have := Hqb.out; omega) HQC.out.gr.size _ rfl ?_
             intro gC capC wC hown hgrow hat hlt2
             have HOC : Hid (ItW W wC (.slice (some ⟨gC, 0, none⟩) (q + 1) capC) (q + 1) (chL k ++ [⟨1, 0, false⟩])) := hid (HQC.out.more (World.grownBy_refl' _) hown hgrow)
             clear hown hgrow hat hlt2)
          | fail)
        have HF : Hid (ItW W wC (.slice (some ⟨gC, 0, none⟩) (q + 1) capC) (q + 1) (chA k false)) := HOC
        obtain ⟨M, hM⟩ : ∃ M, q + 1 = M := ⟨_, rfl⟩
        have HM : Hid (2 * k + 1 = M) := hid (by have := Hq.out; omega)
        rw [hM] at HF ⊢
        have HFL : Hid ((chA k false).length = M) := hid (by rw [chA_length]; exact HM.out)
        have HRI : Hid (RiAt wC (.slice (some ⟨gC, 0, none⟩) M capC) (chA k false)) := hid (HF.out.ri HFL.out)
        have hall := chA_all false K HK8.out
        rw [HN.out] at hall
        have hall : validR (chA k false) = true ∧ rndB (chA k false) 0 = true ∧ ∀ i, i < k → (itR (chA k false) 0).getD (2 * i) false = false := hall
        have HAll := hid hall
        have HRn : Hid (RndR (chA k false) 0) := hid (rndB_ok hall.2.1)
        have HGF := hid HF.out.gr
        have HOk : Hid (okR (chA k false) = true) := hid (by have := hall.1; unfold validR at this; rw [Bool.and_eq_true] at this; exact this.2)
        clear hM HF HR HQC HNwC HOC hall
        refine (do_yesR HRI.out HAll.out.1 HRn.out).mono ?_
        rintro e w4 ⟨ga, rfl, hoa, hg⟩
        rw [HFL.out] at hoa ⊢
        have HGe := hid (grown_trans HGF.out hg)
        have HRI4 := hid (HRI.out.kept0 hg)
        have HA4 : Hid (BlAt w4 (.slice (some ⟨ga, 0, none⟩) M M) (itR (chA k false) 0)) := hid (by have := CsAt.own hoa; unfold BlAt; rw [itR_length, HFL.out]; exact this)
        have M0 : (0 : Int) ≤ (M : Int) := by omega
        have M1 : (M : Int) ≤ 21 := by have := HM.out; have := HNb.out; omega
        clear hoa hg HRI HGF
        go_wp2_with fail
        refine (fits_rel HRI4.out HA4.out (itR_length 0) HOk.out (by rw [HFL.out]; have := HM.out; have := HNb.out; omega) (r := true) (by simpa using HRn.out.1)).mono ?_
        rintro e w5 ⟨rfl, hg⟩
        have HG5 := hid (grown_trans HGe.out hg)
        have HA5 := hid (HA4.out.kept0 hg)
        clear hg HGe HRI4 HA4
        go_wp2
        go_loopw [13] (fun i wr => ∃ j : Nat, j ≤ k ∧ i = .int .i64 j ∧ wr = w5) (fun i _ => k - (intOf i).toNat)
        case atStart => exact ⟨0, Nat.zero_le _, rfl, rfl⟩
        case round =>
          obtain ⟨j, hj, rfl, rfl⟩ := hrel
          have j0 : (0 : Int) ≤ (j : Int) := by omega
          by_cases hlt : j < k
          · have jn : (j : Int) < (k : Int) := by omega
            have Hlt := hid hlt
            obtain ⟨z, hz⟩ : ∃ z, 2 * j = z := ⟨_, rfl⟩
            have hzi : (2 : Int) * (j : Int) = (z : Int) := by omega
            have zM : (z : Int) < (M : Int) := by have := HM.out; omega
            have z0 : (0 : Int) ≤ (z : Int) := by omega
            have hw3 := wrap_i64_id (n := (z : Int)) (by omega) (by omega)
            obtain ⟨bb, ob, cb', hvb, hbb, cA⟩ := BlAt.item HA5.out (k := z) (by rw [itR_length, HFL.out]; omega)
            simp only [Value.slice.injEq, Option.some.injEq, Addr.mk.injEq] at hvb
            obtain ⟨⟨rfl, rfl, -⟩, -⟩ := hvb
            rw [Nat.zero_add, ← hz, HAll.out.2.2 j hlt, hz] at cA
            clear hlt hj hbb hz
            go_wp2
            go_roundw
            case rel => exact ⟨j + 1, Hlt.out, by go_num, by first | rfl | trivial⟩
            case measure => simp [intOf]; have := Hlt.out; omega
          · obtain rfl : j = k := by omega
            clear hlt
            have jn : ¬ ((j : Int) < (j : Int)) := by omega
            go_wp2
            go_ret
            exact ⟨rfl, grown_below HG5.out⟩
      · have al := World.grownBy_alloc wr (.cells #[.int .i64 2, .int .i64 0, .bool false] 29) none
        have HQC := hid (HR.out.kept0 al)
        have HNwC : Hid (∀ j u, [Value.int .i64 2, .int .i64 0, .bool false][j]? = some u → (wr.alloc (.cells #[.int .i64 2, .int .i64 0, .bool false] 29)).cell? ((⟨wr.heap.size, 0, none⟩ : Addr).add j) = some u) := hid (World.news_of_block (heap_alloc_new wr _))
        clear al
        go_wp2_with (first
          | (refine wpList_append_lies _ rfl _ _ 22 rfl W.heap.size 29 i _ 3 24 Try.underlying22 Hi.out Hz0.out Hz1.out Hz2.out rfl (by decide) _ q _ rfl HQC.out.own ⟨wr.heap.size, 0, none⟩ 1 1 _ rfl rfl HNwC.out (by simp [Value.oneCell']) (by decide) (by have := Hqb.out; unfold maxLen; omega) (by have := Hqb.out; omega) HQC.out.gr.size _ rfl ?_
             intro gC capC wC hown hgrow hat hlt2
             have HOC : Hid (ItW W wC (.slice (some ⟨gC, 0, none⟩) (q + 1) capC) (q + 1) (chL k ++ [⟨2, 0, false⟩])) := hid (HQC.out.more (World.grownBy_refl' _) hown hgrow)
             clear hown hgrow hat hlt2)
          | fail)
        have HF : Hid (ItW W wC (.slice (some ⟨gC, 0, none⟩) (q + 1) capC) (q + 1) (chA k true)) := HOC
        obtain ⟨M, hM⟩ : ∃ M, q + 1 = M := ⟨_, rfl⟩
        have HM : Hid (2 * k + 1 = M) := hid (by have := Hq.out; omega)
        rw [hM] at HF ⊢
        have HFL : Hid ((chA k true).length = M) := hid (by rw [chA_length]; exact HM.out)
        have HRI : Hid (RiAt wC (.slice (some ⟨gC, 0, none⟩) M capC) (chA k true)) := hid (HF.out.ri HFL.out)
        have hall := chA_all true K HK8.out
        rw [HN.out] at hall
        have hall : validR (chA k true) = true ∧ rndB (chA k true) k = true ∧ ∀ i, i < k → (itR (chA k true) k).getD (2 * i) false = true := hall
        have HAll := hid hall
        have HRn : Hid (RndR (chA k true) k) := hid (rndB_ok hall.2.1)
        have HGF := hid HF.out.gr
        have HOk : Hid (okR (chA k true) = true) := hid (by have := hall.1; unfold validR at this; rw [Bool.and_eq_true] at this; exact this.2)
        clear hM HF HR HQC HNwC HOC hall
        refine (do_yesR HRI.out HAll.out.1 HRn.out).mono ?_
        rintro e w4 ⟨ga, rfl, hoa, hg⟩
        rw [HFL.out] at hoa ⊢
        have HGe := hid (grown_trans HGF.out hg)
        have HRI4 := hid (HRI.out.kept0 hg)
        have HA4 : Hid (BlAt w4 (.slice (some ⟨ga, 0, none⟩) M M) (itR (chA k true) k)) := hid (by have := CsAt.own hoa; unfold BlAt; rw [itR_length, HFL.out]; exact this)
        have M0 : (0 : Int) ≤ (M : Int) := by omega
        have M1 : (M : Int) ≤ 21 := by have := HM.out; have := HNb.out; omega
        clear hoa hg HRI HGF
        go_wp2_with fail
        refine (fits_rel HRI4.out HA4.out (itR_length k) HOk.out (by rw [HFL.out]; have := HM.out; have := HNb.out; omega) (r := true) (by simpa using HRn.out.1)).mono ?_
        rintro e w5 ⟨rfl, hg⟩
        have HG5 := hid (grown_trans HGe.out hg)
        have HA5 := hid (HA4.out.kept0 hg)
        clear hg HGe HRI4 HA4
        go_wp2
        go_loopw [13] (fun i wr => ∃ j : Nat, j ≤ k ∧ i = .int .i64 j ∧ wr = w5) (fun i _ => k - (intOf i).toNat)
        case atStart => exact ⟨0, Nat.zero_le _, rfl, rfl⟩
        case round =>
          obtain ⟨j, hj, rfl, rfl⟩ := hrel
          have j0 : (0 : Int) ≤ (j : Int) := by omega
          by_cases hlt : j < k
          · have jn : (j : Int) < (k : Int) := by omega
            have Hlt := hid hlt
            obtain ⟨z, hz⟩ : ∃ z, 2 * j = z := ⟨_, rfl⟩
            have hzi : (2 : Int) * (j : Int) = (z : Int) := by omega
            have zM : (z : Int) < (M : Int) := by have := HM.out; omega
            have z0 : (0 : Int) ≤ (z : Int) := by omega
            have hw3 := wrap_i64_id (n := (z : Int)) (by omega) (by omega)
            obtain ⟨bb, ob, cb', hvb, hbb, cA⟩ := BlAt.item HA5.out (k := z) (by rw [itR_length, HFL.out]; omega)
            simp only [Value.slice.injEq, Option.some.injEq, Addr.mk.injEq] at hvb
            obtain ⟨⟨rfl, rfl, -⟩, -⟩ := hvb
            rw [Nat.zero_add, ← hz, HAll.out.2.2 j hlt, hz] at cA
            clear hlt hj hbb hz
            go_wp2
            go_roundw
            case rel => exact ⟨j + 1, Hlt.out, by go_num, by first | rfl | trivial⟩
            case measure => simp [intOf]; have := Hlt.out; omega
          · obtain rfl : j = k := by omega
            clear hlt
            have jn : ¬ ((j : Int) < (j : Int)) := by omega
            go_wp2
            go_ret
            exact ⟨rfl, grown_below HG5.out⟩
end Go.Proofs.Ytmhkghkfpkekbaa
