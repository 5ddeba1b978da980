/- The law RewriteLong: walked. -/
import Derived.Test.YteanoklaammpiaaDoorZGRwD
import Derived.Test.YteanoklaammpiaaDoorZRwLP
import Derived.Test.YteanoklaammpiaaDoorZGMem
import Derived.Test.YteanoklaammpiaaDoorZObjS
namespace Go.Proofs.YteanoklaammpiaaDoor
open Go.RowKit
theorem lg_fit {n : Nat} (h : n ≤ 2048) : OFit (lgO n) := by
  refine ⟨fun m hm => (by cases hm), fun m hm => ?_, fun m hm => ?_, ?_⟩
  · have := List.eq_of_mem_replicate hm
    omega
  · have := List.eq_of_mem_replicate hm
    omega
  · simp only [lgO, List.length_nil, List.length_replicate, List.length_singleton]
    unfold maxLen
    omega
theorem lg_lens (n : Nat) : (lgO n).D.length = 0 ∧ (lgO n).C.length = n ∧ (lgO n).M.length = n ∧ (lgO n).R.length = 0 ∧ (lgO n).Q.length = 0 ∧ (lgO n).S.length = 1 := by simp [lgO]
theorem lgr_lens (n : Nat) : (rwO (lgO n)).D.length = 0 ∧ (rwO (lgO n)).C.length = 2 * n ∧ (rwO (lgO n)).M.length = 2 * n ∧ (rwO (lgO n)).R.length = 0 ∧ (rwO (lgO n)).Q.length = 0 ∧ (rwO (lgO n)).S.length = 1 := by
  have h1 : (rwO (lgO n)).C.length = 2 * n := by
    show (rwC (lgO n) (lgO n).C.length).length = 2 * n
    rw [rwC_length, (lg_lens n).2.1, lg_pl (Nat.le_refl n)]
  have h2 : (rwO (lgO n)).M.length = 2 * n := by
    show (rwM (lgO n) (lgO n).C.length).length = 2 * n
    rw [rwM_length, (lg_lens n).2.1, lg_pl (Nat.le_refl n)]
  exact ⟨rfl, h1, h2, rfl, rfl, rfl⟩
set_option maxRecDepth 100000 in
set_option maxHeartbeats 16000000 in
theorem long_walk (p : Int) (W : World) (A : Nat → Addr) (hS : Sents W A) (hp0 : -9223372036854775808 ≤ p) (hp1 : p ≤ 9223372036854775807) :
    Calls Tryd.prog 7 #[.int .i64 p] W fun e W' => e = .returned (.bool true) ∧ Below W.heap.size W W' := by
  have HS := hid hS
  have Hp := hid (And.intro hp0 hp1)
  clear hS hp0 hp1
  go_enter Tryd.func7, Tryd.ntmps7
  go_wp2_with fail
  refine (first11_any HS.out.errc).mono ?_
  rintro e w1 ⟨rfl, hg⟩
  have HG1 := hid hg
  clear hg
  go_wp2_with fail
  refine (number_any p 8 (by decide) (by decide) Hp.out.1 Hp.out.2 _).mono ?_
  rintro e w2 ⟨rfl, rfl⟩
  obtain ⟨K, hK⟩ : ∃ K, numB p 8 = K := ⟨_, rfl⟩
  have hK8 : K < 8 := by rw [← hK]; exact numB_lt p (by decide)
  rw [hK]
  clear hK
  obtain ⟨N, hN⟩ : ∃ N, K + 1020 = N := ⟨_, rfl⟩
  have kN : (K : Int) + 1020 = (N : Int) := by omega
  have HNb : Hid (1020 ≤ N ∧ N ≤ 1027) := hid (by omega)
  have K0 : (0 : Int) ≤ (K : Int) := by omega
  have K1 : (K : Int) < 8 := by omega
  have N0 : (0 : Int) ≤ (N : Int) := by omega
  have N1 : (N : Int) ≤ 1027 := by omega
  clear hK8 hN
  have Hat : Hid (∀ w : World, Calls Tryd.prog 28 #[.string ⟨#[109, 97, 105, 110]⟩] w fun e w' => e = .returned (.agg #[.int .i64 0, .int .i64 0, .int .i64 0, .int .i64 0, .int .u32 0, .string nmMain, .string ByteArray.empty, .bool false]) ∧ w.grownBy w' none) := hid (fun w => at_any nmMain w)
  go_wp2_with fail
  refine (Hat.out _).mono ?_
  rintro e w2 ⟨rfl, hg⟩
  have al := World.grownBy_alloc w2 (.cells #[.int .i64 0, .int .i64 0, .int .i64 0, .int .i64 0, .int .u32 0, .string nmMain, .string ByteArray.empty, .bool false] 65) none
  have HLn : Hid (LnW w1 (w2.alloc (.cells #[.int .i64 0, .int .i64 0, .int .i64 0, .int .i64 0, .int .u32 0, .string nmMain, .string ByteArray.empty, .bool false] 65)) (.slice (some ⟨w2.heap.size, 0, none⟩) 1 1) (lgL 0)) := hid ⟨World.ownsRow_lit w2 (lneC .lab) 1 hg.size (by decide) rfl, grown_trans hg al⟩
  clear hg al Hat kN K0 K1
  go_upto_region 6 with (fail)
  obtain ⟨B, hB⟩ : ∃ B, w2.heap.size = B := ⟨_, rfl⟩
  rw [hB] at HLn ⊢
  clear hB
  generalize w2.alloc (.cells #[.int .i64 0, .int .i64 0, .int .i64 0, .int .i64 0, .int .u32 0, .string nmMain, .string ByteArray.empty, .bool false] 65) = w3 at HLn ⊢
  go_wp2
  go_loopw [4, 5] (fun v i wr => ∃ k : Nat, k ≤ N ∧ i = .int .i64 k ∧ Hid (LnW w1 wr v (lgL k))) (fun _ i _ => N - (intOf i).toNat)
  case atStart => exact ⟨0, Nat.zero_le _, rfl, HLn⟩
  case round =>
    obtain ⟨k, hk, rfl, HP⟩ := hrel
    have k0 : (0 : Int) ≤ (k : Int) := by omega
    obtain ⟨⟨qp, qc, hqv⟩⟩ : Nonempty (∃ p c, _ = Value.slice p (lgL k).length c) := ⟨own_slice HP.out.own⟩
    rw [lgL_length] at hqv
    subst hqv
    have HLb : Hid (k + 1 ≤ 1100) := hid (by have := HNb.out; omega)
    by_cases hlt : k < N
    · have kn : (k : Int) < (N : Int) := by omega
      have Hlt := hid hlt
      clear hlt
      have Hop : Hid (∀ w : World, Calls Tryd.prog 26 #[.int .i64 64, .slice none 0 0] w fun e w' => e = .returned (.agg #[.int .i64 64, .int .i64 0, .int .i64 0, .int .i64 0, .int .u32 0, .string ByteArray.empty, .string ByteArray.empty, .bool false]) ∧ w.grownBy w' none) := hid (fun w => op_nil 64 w)
      go_wp2_with fail
      refine (Hop.out _).mono ?_
      rintro e w7 ⟨rfl, hg⟩
      obtain ⟨i, hi, hz0, hz1, hz2⟩ := info_line
      have Hi := hid hi
      have Hz0 := hid hz0
      have Hz1 := hid hz1
      have Hz2 := hid hz2
      clear hi hz0 hz1 hz2
      have al := World.grownBy_alloc w7 (.cells #[.int .i64 64, .int .i64 0, .int .i64 0, .int .i64 0, .int .u32 0, .string ByteArray.empty, .string ByteArray.empty, .bool false] 65) none
      have HQ8 := hid ((HP.out.kept0 hg).kept0 al)
      have HOw := HQ8.out.own
      rw [lgL_length] at HOw
      have HOw := hid HOw
      have Hnews : Hid (∀ j u, [.int .i64 64, .int .i64 0, .int .i64 0, .int .i64 0, .int .u32 0, .string ByteArray.empty, .string ByteArray.empty, .bool false][j]? = some u → (w7.alloc (.cells #[.int .i64 64, .int .i64 0, .int .i64 0, .int .i64 0, .int .u32 0, .string ByteArray.empty, .string ByteArray.empty, .bool false] 65)).cell? ((⟨w7.heap.size, 0, none⟩ : Addr).add j) = some u) := hid (World.news_of_block (heap_alloc_new w7 _))
      clear hg al HP Hop
      go_wp2_with (first
        | (refine wpList_append_lies _ rfl _ _ 70 rfl w1.heap.size 65 i _ 8 80 Tryd.underlying70 Hi.out Hz0.out Hz1.out Hz2.out rfl (by decide) _ (k + 1) _ rfl HOw.out ⟨w7.heap.size, 0, none⟩ 1 1 _ rfl rfl Hnews.out (by simp [Value.oneCell']) (by decide) (by have := HLb.out; unfold maxLen; omega) (by have := HLb.out; omega) HQ8.out.g.size _ rfl ?_
           intro g cap w9 hown hgrow hat hlt2
           have HOn := hid hown
           have hgrow0 : (w7.alloc (.cells #[.int .i64 64, .int .i64 0, .int .i64 0, .int .i64 0, .int .u32 0, .string ByteArray.empty, .string ByteArray.empty, .bool false] 65)).grownBy w9 (Value.slice qp (k + 1) qc).ownBlock := hgrow
           have HGn := hid hgrow0
           clear hown hgrow hat hlt2 hgrow0)
        | fail)
      go_roundw
      case rel =>
        refine ⟨k + 1, Hlt.out, by go_num, hid ⟨?_, grown_new' (grown_trans (grown_none HQ8.out.g) HGn.out) (fun j hj => (HOw.out.lt j hj).1)⟩⟩
        rw [lgL_succ, List.length_append, lgL_length, lnesC_append]
        exact HOn.out
      case measure => simp [intOf]; have := Hlt.out; omega
    · obtain rfl : k = N := by omega
      have kn : ¬ ((k : Int) < (k : Int)) := by omega
      clear hlt
      have HCs : Hid (CsAt wr (.slice qp (k + 1) qc) (lgL k).length (lnesC (lgL k))) := hid (CsAt.own HP.out.own)
      have HG3 := hid (grown_trans HG1.out HP.out.g)
      clear HP HLn
      go_wp2_with fail
      refine (mkl_any (D := []) (ls := lgL k) (by simp) (by rw [lgL_length]; have := HLb.out; omega) (by rw [lgL_length]; omega) (lg_good k) (.inl ⟨⟨_, _, rfl⟩, rfl⟩) HCs.out).mono ?_
      rintro e w5 ⟨V, rfl, ho, hg⟩
      rw [lg_obj] at ho
      have HO5 := hid ho.at_
      obtain ⟨p0, c0, p1, c1, p2, c2, p3, c3, p4, c4, p5, c5, rfl⟩ := ho.slices
      obtain ⟨l0, l1, l2, l3, l4, l5⟩ := lg_lens k
      rw [l0, l1, l2, l3, l4, l5] at HO5 ⊢
      have Hzo := zero_obj
      have al := World.grownBy_alloc w5 (.cells #[.slice p0 0 c0, .slice p1 k c1, .slice p2 k c2, .slice p3 0 c3, .slice p4 0 c4, .slice p5 1 c5] 27) none
      have HX := hid (RwAt.new w5 27 #[.slice p0 0 c0, .slice p1 k c1, .slice p2 k c2, .slice p3 0 c3, .slice p4 0 c4, .slice p5 1 c5])
      have HG5 := hid (grown_trans (grown_trans HG3.out hg) al)
      have HO6 := hid (HO5.out.kept0 al)
      clear ho hg al l0 l1 l2 l3 l4 l5 HG3 HO5
      go_upto_region 11 with (fail)
      obtain ⟨X, hX⟩ : ∃ X, w5.heap.size = X := ⟨_, rfl⟩
      rw [hX] at HX ⊢
      clear hX
      generalize w5.alloc (.cells #[.slice p0 0 c0, .slice p1 k c1, .slice p2 k c2, .slice p3 0 c3, .slice p4 0 c4, .slice p5 1 c5] 27) = w6 at HX HG5 HO6 ⊢
      have Hpl : Hid (plN (lgO k) (lgO k).C.length = 2 * k) := hid (by rw [(lg_lens k).2.1]; exact lg_pl (Nat.le_refl k))
      have Hv : Hid (validP (lgO k) = none) := hid (lg_valid (by have := HNb.out; omega) (by have := HNb.out; omega))
      have Hf := hid (lg_fit (n := k) (by have := HNb.out; omega))
      obtain ⟨M, hM⟩ : ∃ M, 2 * k = M := ⟨_, rfl⟩
      have kM : (2 : Int) * (k : Int) = (M : Int) := by omega
      have M0 : (0 : Int) ≤ (M : Int) := by omega
      have M1 : (M : Int) ≤ 2054 := by omega
      have HMe := hid hM
      go_wp2_with (first
        | (refine wpList_load_rw rfl 27 _ rfl rfl HX.out rfl Tryd.underlying27 info_object ?_)
        | fail)
      by_cases hb : k ≤ 1024
      · refine (do_yes HO6.out (HS.out.errc.kept0 HG5.out) Hf.out Hv.out (by rw [Hpl.out]; omega)).mono ?_
        rintro e w7 ⟨V, v, rfl, ho, hp, hg⟩
        obtain ⟨s0, t0, s1, t1, s2, t2, s3, t3, s4, t4, s5, t5, rfl⟩ := ho.slices
        obtain ⟨l0, l1, l2, l3, l4, l5⟩ := lgr_lens k
        rw [l0, l1, l2, l3, l4, l5, hM]
        rw [(lg_lens k).2.1] at hp
        obtain ⟨g, pc, hv⟩ := own_at0 hp (by omega)
        subst hv
        have hcp := (CsAt.own hp).cell0
        have a1 : w7.cell? ⟨g, 1, none⟩ = some (.int .i64 2) := hcp 1 _ (by rw [List.getElem?_map, plL_get _ (by have := HNb.out; omega), lg_pl (by have := HNb.out; omega)]; rfl)
        have a2 : w7.cell? ⟨g, k, none⟩ = some (.int .i64 (M : Int)) := hcp k _ (by rw [List.getElem?_map, plL_get _ (by omega), lg_pl (Nat.le_refl k), hM]; rfl)
        have Ha := hid (And.intro a1 a2)
        have Hgl := hid (World.block_lt_of_cell? w7 _ a1)
        have al := World.grownBy_alloc w7 (.cells #[.slice s0 0 t0, .slice s1 M t1, .slice s2 M t2, .slice s3 0 t3, .slice s4 0 t4, .slice s5 1 t5] 27) none
        have HY7 := hid (RwAt.new w7 27 #[.slice s0 0 t0, .slice s1 M t1, .slice s2 M t2, .slice s3 0 t3, .slice s4 0 t4, .slice s5 1 t5])
        have HX7 := hid ((HX.out.kept0 hg).kept0 al)
        have HO7 := hid ((HO6.out.kept0 hg).kept0 al)
        have HGa := hid al
        have HG7 := hid (grown_trans (grown_trans HG5.out hg) al)
        clear ho hp hg al l0 l1 l2 l3 l4 l5 hcp a1 a2 hM
        go_upto_region 12 with (fail)
        obtain ⟨Y, hY⟩ : ∃ Y, w7.heap.size = Y := ⟨_, rfl⟩
        rw [hY] at HY7 ⊢
        clear hY
        generalize w7.alloc (.cells #[.slice s0 0 t0, .slice s1 M t1, .slice s2 M t2, .slice s3 0 t3, .slice s4 0 t4, .slice s5 1 t5] 27) = w8 at HX7 HY7 HO7 HG7 HGa ⊢
        go_wp2_with (first
          | (refine wpList_load_rw rfl 27 _ rfl rfl HX7.out rfl Tryd.underlying27 info_object ?_)
          | fail)
        refine (needs_yes HO7.out (HS.out.errc.kept0 HG7.out) Hf.out Hv.out).mono ?_
        rintro e w9 ⟨rfl, hg⟩
        rw [Hpl.out, HMe.out]
        have HG9 := hid (grown_trans HG7.out hg)
        have hgg := grown_trans HGa.out hg
        have y1 := (HY7.out.kept0 hg).cell 1 (v := .slice s1 M t1) rfl
        have a1 := (grown_cell (p := ⟨g, 1, none⟩) hgg Hgl.out (by simp)).trans Ha.out.1
        have a2 := (grown_cell (p := ⟨g, k, none⟩) hgg Hgl.out (by simp)).trans Ha.out.2
        have d1 : decide ((1024 : Int) < (k : Int)) = false := by simp only [decide_eq_false_iff_not]; omega
        have d2 : (k : Int) < (k : Int) + 1 := by omega
        have d3 : (1 : Int) < (k : Int) + 1 := by have := HNb.out; omega
        clear hgg hg
        go_wp2
        go_ret
        exact ⟨rfl, grown_below HG9.out⟩
      · refine (do_many HO6.out (HS.out.errc.kept0 HG5.out) Hf.out Hv.out (by rw [Hpl.out]; omega)).mono ?_
        rintro e w7 ⟨rfl, hg⟩
        rw [zeroO]
        have al := World.grownBy_alloc w7 (.cells #[.slice none 0 0, .slice none 0 0, .slice none 0 0, .slice none 0 0, .slice none 0 0, .slice none 0 0] 27) none
        have HY7 := hid (RwAt.new w7 27 #[.slice none 0 0, .slice none 0 0, .slice none 0 0, .slice none 0 0, .slice none 0 0, .slice none 0 0])
        have HX7 := hid ((HX.out.kept0 hg).kept0 al)
        have HO7 := hid ((HO6.out.kept0 hg).kept0 al)
        have HG7 := hid (grown_trans (grown_trans HG5.out hg) al)
        clear hg al hM
        go_upto_region 12 with (fail)
        obtain ⟨Y, hY⟩ : ∃ Y, w7.heap.size = Y := ⟨_, rfl⟩
        rw [hY] at HY7 ⊢
        clear hY
        generalize w7.alloc (.cells #[.slice none 0 0, .slice none 0 0, .slice none 0 0, .slice none 0 0, .slice none 0 0, .slice none 0 0] 27) = w8 at HX7 HY7 HO7 HG7 ⊢
        go_wp2_with (first
          | (refine wpList_load_rw rfl 27 _ rfl rfl HX7.out rfl Tryd.underlying27 info_object ?_)
          | fail)
        refine (needs_yes HO7.out (HS.out.errc.kept0 HG7.out) Hf.out Hv.out).mono ?_
        rintro e w9 ⟨rfl, hg⟩
        rw [Hpl.out, HMe.out]
        have HG9 := hid (grown_trans HG7.out hg)
        have HY9 := hid (HY7.out.kept0 hg)
        have d1 : decide ((1024 : Int) < (k : Int)) = true := by simp only [decide_eq_true_eq]; omega
        clear hg
        go_wp2_with fail
        refine (is_flt (HS.out.kept0 HG9.out) (v := errV (A 3)) (y := some (3, none)) rfl (fun c p h => by cases h; decide) 104 true (by decide)).mono ?_
        rintro e w10 ⟨rfl, hg⟩
        have HG10 := hid (grown_trans HG9.out hg)
        have y1 := (HY9.out.kept0 hg).cell 1 (v := .slice none 0 0) rfl
        clear hg
        go_wp2
        go_ret
        exact ⟨rfl, grown_below HG10.out⟩
end Go.Proofs.YteanoklaammpiaaDoor
