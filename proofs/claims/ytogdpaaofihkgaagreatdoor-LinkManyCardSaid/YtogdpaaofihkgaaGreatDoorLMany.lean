/- LinkMany: the walk. (Made by golmany.py.) -/
import Derived.Test.YtogdpaaofihkgaaGreatDoorYObW
import Derived.Test.YtogdpaaofihkgaaGreatDoorXCpu0
import Derived.Test.YtogdpaaofihkgaaGreatDoorXMkX
import Derived.Test.YtogdpaaofihkgaaGreatDoorXToAny
import Derived.Test.YtogdpaaofihkgaaGreatDoorYLMnyP
import Derived.Test.YtogdpaaofihkgaaGreatDoorYNum
import Derived.Test.YtogdpaaofihkgaaGreatDoorYObjS
import Derived.Test.YtogdpaaofihkgaaGreatDoorYBase
import Derived.Test.YtogdpaaofihkgaaGreatDoorYLaid9
import Derived.Deep.Cut
import Derived.Deep.CutRange
namespace Go.Proofs.YtogdpaaofihkgaaGreatDoor
open Go.RowKit
theorem errc_sents {W : World} {A : Nat → Addr} (h : Sents W A) : ErrC W A := ⟨h.cell 1 _ rfl, h.cell 2 _ rfl, h.cell 3 _ rfl, h.cell 4 _ rfl, h.cell 5 _ rfl, h.cell 6 _ rfl, h.cell 8 _ rfl⟩
theorem mul_snoc (k v : Nat) : k * (v + 1) + (v + 1) = (k + 1) * (v + 1) := (Nat.succ_mul k (v + 1)).symm
set_option maxRecDepth 100000 in
set_option maxHeartbeats 32000000 in
theorem lmany_walk (n k : Int) (W : World) (A : Nat → Addr) (hS : Sents W A) (hT : Lib.TabIs Tryz.prog W "internal/strconv.uint64pow10" .u64 Lib.pow10Tab) (n0 : -9223372036854775808 ≤ n) (n1 : n ≤ 9223372036854775807) (k0 : -9223372036854775808 ≤ k) (k1 : k ≤ 9223372036854775807) :
    Calls Tryz.prog 3 #[.int .i64 n, .int .i64 k] W fun e w' => e = .returned (.bool true) ∧ Below W.heap.size W w' := by
  have HS := hid hS
  have HE := hid (errc_sents hS)
  have HT := hid hT
  obtain ⟨a, ha⟩ : ∃ a, numB n 5 = a := ⟨_, rfl⟩
  obtain ⟨b, hb⟩ : ∃ b, numB k 4 = b := ⟨_, rfl⟩
  have ha2 : a < 5 := by subst ha; exact numB_lt n (by omega)
  have hb2 : b < 4 := by subst hb; exact numB_lt k (by omega)
  obtain ⟨N, hN⟩ : ∃ N, a + 13 = N := ⟨_, rfl⟩
  have hN2 : (a : Int) + 13 = (N : Int) := by omega
  obtain ⟨V, hV⟩ : ∃ V, b * 50 = V := ⟨_, rfl⟩
  have hV2 : (b : Int) * 50 = (V : Int) := by omega
  clear hS hT
  go_enter Tryz.func3, Tryz.ntmps3
  go_wp2_with fail
  refine (first13_any HE.out).mono ?_
  rintro e w1 ⟨rfl, hg1⟩
  have HG1 := hid hg1
  clear hg1
  go_wp2_with fail
  refine (number_of n 5 5 a rfl ha (by omega) (by omega) n0 n1).mono ?_
  rintro e w2 ⟨rfl, rfl⟩
  go_wp2_with fail
  refine (number_of k 4 4 b rfl hb (by omega) (by omega) k0 k1).mono ?_
  rintro e w3 ⟨rfl, rfl⟩
  have HNb : Hid (13 ≤ N ∧ N ≤ 17 ∧ V ≤ 150) := hid (by omega)
  have nN0 : (13 : Int) ≤ (N : Int) := by omega
  have nN1 : (N : Int) ≤ 17 := by omega
  have nV0 : (0 : Int) ≤ (V : Int) := by omega
  have nV1 : (V : Int) ≤ 150 := by omega
  clear n0 n1 k0 k1 ha hb hN ha2 hb2 hV
  go_upto_region 8 with (fail)
  clear hN2 hV2
  have HL0 : Hid (∃ L, ObW w1 w1 (.slice none 0 0) L ∧ L.map (·.x) = xsMn V 0) := hid ⟨[], ObW.start w1, rfl⟩
  go_wp2
  go_loopw [6, 7, 8] (fun v al i wr => ∃ k : Nat, k ≤ N ∧ i = .int .i64 k ∧ al = .int .i64 ((k * (V + 1) : Nat) : Int) ∧ Hid (∃ L, ObW w1 wr v L ∧ L.map (·.x) = xsMn V k)) (fun _ _ i _ => N - (intOf i).toNat)
  case atStart => exact ⟨0, Nat.zero_le _, rfl, by rw [Nat.zero_mul]; rfl, HL0⟩
  case round =>
    clear HL0
    obtain ⟨wo, rfl⟩ : ∃ x, x = wr := ⟨_, rfl⟩
    obtain ⟨k, hk, rfl, rfl, HP⟩ := hrel
    have k0 : (0 : Int) ≤ (k : Int) := by omega
    obtain ⟨L, HQ⟩ : ∃ L, Hid (ObW w1 wo _ L ∧ L.map (·.x) = xsMn V k) := by obtain ⟨L, h⟩ := HP.out; exact ⟨L, hid h⟩
    clear HP
    obtain ⟨vp, vc, hv⟩ := HQ.out.1.len
    obtain ⟨nL, hnL⟩ : ∃ n, L.length = n := ⟨_, rfl⟩
    rw [hnL] at hv
    subst hv
    have HnL := hid hnL
    have HkL : Hid (nL = k) := hid (by rw [← hnL, ← List.length_map (f := fun o : Ob => o.x), HQ.out.2]; simp [xsMn])
    obtain ⟨T0, hT0⟩ : ∃ T, k * (V + 1) = T := ⟨_, rfl⟩
    rw [hT0]
    have HT0 := hid hT0
    have hTb : T0 ≤ 17 * 151 := by rw [← hT0]; exact Nat.mul_le_mul (by have := HNb.out; omega) (by have := HNb.out; omega)
    have hTb0 : (0 : Int) ≤ (T0 : Int) := by omega
    have hTb1 : (T0 : Int) ≤ 2567 := by omega
    clear hT0 hnL hTb
    by_cases hlt : k < N
    rotate_left
    · obtain rfl : k = N := by omega
      have kn : ¬ ((k : Int) < (k : Int)) := by omega
      clear hlt hk
      have hobb : Hid (∀ o ∈ L, ObB o.x) := hid (fun o ho => by
        have h := List.mem_map_of_mem (f := fun o : Ob => o.x) ho
        rw [HQ.out.2] at h
        obtain ⟨i, _, hi⟩ := List.mem_map.1 h
        rw [← hi]
        exact obMn_b (by have := HNb.out; omega))
      go_wp2_with fail
      refine (link_any HQ.out.1.at_ (HE.out.kept0 (grown_trans HG1.out HQ.out.1.g)) hobb.out (by rw [HnL.out, HkL.out]; have := HNb.out; omega)).mono ?_
      rintro e w6 hJ
      unfold LinkAt at hJ
      rw [HQ.out.2] at hJ
      clear hobb
      by_cases h16 : 16 < k
      · rw [joinMn_many h16] at hJ
        obtain ⟨u, rfl, hne, hlft, hg⟩ := hJ
        obtain rfl : u = errV (A 3) := hlft
        have h16i : (16 : Int) < (k : Int) := by omega
        clear hne
        have hal := World.grownBy_alloc w6 (.cells #[.int .u32 0, .slice none 0 0, .slice none 0 0, .slice none 0 0, .slice none 0 0, .slice none 0 0] 43) none
        have HG6 := hid (grown_trans HG1.out (grown_trans HQ.out.1.g (grown_trans hg hal)))
        have HX := hid (RwAt.new w6 43 #[.int .u32 0, .slice none 0 0, .slice none 0 0, .slice none 0 0, .slice none 0 0, .slice none 0 0])
        have HS6 := hid (HS.out.kept0 HG6.out)
        have Hzi := zero_image
        clear hg hal HQ
        go_upto_region 21 with (fail)
        clear Hzi
        generalize w6.alloc (.cells #[.int .u32 0, .slice none 0 0, .slice none 0 0, .slice none 0 0, .slice none 0 0, .slice none 0 0] 43) = w8 at HX HG6 HS6 ⊢
        have Hva : Hid (FltAt A w8 (errV (A 3)) (some (3, none))) := hid rfl
        unfold errV at Hva ⊢
        go_wp2_with fail
        refine (is_flt HS6.out Hva.out (by rintro c p ⟨⟩; decide) 104 true (by decide)).mono ?_
        rintro e w9 ⟨rfl, hg⟩
        have x2 := (HX.out.kept0 hg).cell 2 (v := .slice none 0 0) rfl
        have HGz := hid (grown_trans HG6.out hg)
        clear hg HX HG6 HS6 Hva
        go_wp2
        go_ret
        exact ⟨rfl, grown_below HGz.out⟩
      · have h16i : ¬ ((16 : Int) < (k : Int)) := by omega
        rw [joinMn (by have := HNb.out; omega) (by have := HNb.out; omega) (by omega)] at hJ
        simp only at hJ
        obtain ⟨K, hK, hJ⟩ := hJ
        obtain rfl := rndMn hK
        rw [lngMn (by rw [HT0.out]; omega)] at hJ
        have hTe := HT0.out
        rw [hTe] at hJ
        by_cases hbig : 2048 < T0
        · rw [if_pos (by simpa using hbig)] at hJ
          obtain ⟨rfl, hg⟩ := hJ
          have hbi : (2048 : Int) < (T0 : Int) := by omega
          clear hTe hK h16
          have hal := World.grownBy_alloc w6 (.cells #[.int .u32 0, .slice none 0 0, .slice none 0 0, .slice none 0 0, .slice none 0 0, .slice none 0 0] 43) none
          have HG6 := hid (grown_trans HG1.out (grown_trans HQ.out.1.g (grown_trans hg hal)))
          have HX := hid (RwAt.new w6 43 #[.int .u32 0, .slice none 0 0, .slice none 0 0, .slice none 0 0, .slice none 0 0, .slice none 0 0])
          have HS6 := hid (HS.out.kept0 HG6.out)
          have Hzi := zero_image
          clear hg hal HQ
          go_upto_region 21 with (fail)
          clear Hzi
          generalize w6.alloc (.cells #[.int .u32 0, .slice none 0 0, .slice none 0 0, .slice none 0 0, .slice none 0 0, .slice none 0 0] 43) = w8 at HX HG6 HS6 ⊢
          have Hva : Hid (FltAt A w8 (errV (A 3)) (some (3, none))) := hid rfl
          unfold errV at Hva ⊢
          go_wp2_with fail
          refine (is_flt HS6.out Hva.out (by rintro c p ⟨⟩; decide) 104 true (by decide)).mono ?_
          rintro e w9 ⟨rfl, hg⟩
          have x2 := (HX.out.kept0 hg).cell 2 (v := .slice none 0 0) rfl
          have HGz := hid (grown_trans HG6.out hg)
          clear hg HX HG6 HS6 Hva
          go_wp2
          go_ret
          exact ⟨rfl, grown_below HGz.out⟩
        · rw [if_neg (by simpa using hbig)] at hJ
          have hbi : ¬ ((2048 : Int) < (T0 : Int)) := by omega
          clear h16
          obtain ⟨_, _, v1, vC, vd, vp, vs, rfl, hro, hg⟩ := hJ
          obtain ⟨i1, i2⟩ := imgMn V k
          obtain ⟨I, hI⟩ : ∃ I, imgP (jnMn V k) 0 = I := ⟨_, rfl⟩
          rw [hI] at i1 i2 hro ⊢
          clear hI hK
          rw [hTe] at i1 i2
          have r1 := hro ⟨v1, 25, 1, I.D.length, I.D.map (Value.int .u32)⟩ (by simp [imRo])
          have r2 := hro ⟨vC, 25, 1, I.C.length, I.C.map (Value.int .u32)⟩ (by simp [imRo])
          have r3 := hro ⟨vd, 3, 1, I.dr.length, I.dr.map (Value.int .i64)⟩ (by simp [imRo])
          have r4 := hro ⟨vp, 3, 1, I.pl.length, I.pl.map (Value.int .i64)⟩ (by simp [imRo])
          have r5 := hro ⟨vs, 3, 1, I.st.length, I.st.map (Value.int .i64)⟩ (by simp [imRo])
          simp only at r1 r2 r3 r4 r5
          obtain ⟨q1, d1, e1⟩ := own_slice r1
          obtain ⟨q2, d2, e2⟩ := own_slice r2
          obtain ⟨q3, d3, e3⟩ := own_slice r3
          obtain ⟨q4, d4, e4⟩ := own_slice r4
          obtain ⟨q5, d5, e5⟩ := own_slice r5
          obtain ⟨n1, hn1⟩ : ∃ n, I.D.length = n := ⟨_, rfl⟩
          obtain ⟨n3, hn3⟩ : ∃ n, I.dr.length = n := ⟨_, rfl⟩
          obtain ⟨n4, hn4⟩ : ∃ n, I.pl.length = n := ⟨_, rfl⟩
          rw [hn1] at e1
          rw [i1] at e2
          rw [hn3] at e3
          rw [hn4] at e4
          rw [i2] at e5
          subst e1 e2 e3 e4 e5
          obtain ⟨e0, he0⟩ : ∃ e, I.e = e := ⟨_, rfl⟩
          rw [he0]
          have hal := World.grownBy_alloc w6 (.cells #[.int .u32 e0, .slice q1 n1 d1, .slice q2 T0 d2, .slice q3 n3 d3, .slice q4 n4 d4, .slice q5 T0 d5] 43) none
          have HG6 := hid (grown_trans HG1.out (grown_trans HQ.out.1.g (grown_trans hg hal)))
          have HX := hid (RwAt.new w6 43 #[.int .u32 e0, .slice q1 n1 d1, .slice q2 T0 d2, .slice q3 n3 d3, .slice q4 n4 d4, .slice q5 T0 d5])
          have Hzi := zero_image
          clear r1 r2 r3 r4 r5 hro hg hal hn1 hn3 hn4 he0 i1 i2 HQ hTe
          go_upto_region 21 with (fail)
          clear Hzi
          have x2 := HX.out.cell 2 (v := .slice q2 T0 d2) rfl
          have x5 := HX.out.cell 5 (v := .slice q5 T0 d5) rfl
          have h16d : decide ((16 : Int) < (k : Int)) = false := by simpa using h16i
          have hbd : decide ((2048 : Int) < (T0 : Int)) = false := by simpa using hbi
          have h16e : decide (16 < k) = false := by simp; omega
          have hbe : decide (2048 < T0) = false := by simp; omega
          go_wp2
          trace_state
          go_ret
          exact ⟨rfl, grown_below HG6.out⟩
    · have kn : (k : Int) < (N : Int) := by omega
      have Hlt := hid hlt
      clear hlt hk
      obtain ⟨sk, hsk⟩ : ∃ sk : ByteArray, ⟨(dgt k).toArray⟩ = sk := ⟨_, rfl⟩
      have hst : ∀ w : World, (Op.stringOp .add ⟨#[102]⟩ sk).run Tryz.prog w = .ok (.string (nmF k)) w := fun w => by rw [← hsk]; exact add_f k w
      have Hnum : Hid (Calls Tryz.prog 8 #[.int .i64 k] wo fun e w' => e = .returned (.string sk) ∧ wo.grownBy w' none) := hid (by
        rw [← hsk]
        exact num_all HT.out k (by omega) wo (grown_trans HG1.out HQ.out.1.g))
      clear hsk
      go_wp2_with fail
      refine Hnum.out.mono ?_
      rintro e w5 ⟨rfl, hg⟩
      have HG5 := hid hg
      clear hg Hnum
      go_wp2_with fail
      refine (at_any (nmF k) _).mono ?_
      rintro e w6 ⟨rfl, hg⟩
      unfold lbC
      have al := World.grownBy_alloc w6 (.cells #[.int .i64 0, .int .i64 0, .int .i64 0, .int .i64 0, .int .u32 0, .string (nmF k), .string ByteArray.empty, .bool false] 29) none
      have HLn : Hid (LxW wo (w6.alloc (.cells #[.int .i64 0, .int .i64 0, .int .i64 0, .int .i64 0, .int .u32 0, .string (nmF k), .string ByteArray.empty, .bool false] 29)) (.slice (some ⟨w6.heap.size, 0, none⟩) 1 1) [atL (nmF k)]) := hid ⟨World.ownsRow_lit w6 #[.int .i64 0, .int .i64 0, .int .i64 0, .int .i64 0, .int .u32 0, .string (nmF k), .string ByteArray.empty, .bool false] 1 (grown_trans HG5.out hg).size (by unfold maxLen; omega) rfl, grown_trans HG5.out (grown_trans hg al)⟩
      clear hg al hst
      obtain ⟨zb, hz1, hz2⟩ : ∃ z, ((k : Int) == 0) = z ∧ (k == 0) = z := ⟨k == 0, by simp [Bool.beq_eq_decide_eq], rfl⟩
      have Hzb := hid hz2
      go_upto_if 33 with (fail)
      clear hz1 hz2
      obtain ⟨G0, hG0⟩ : ∃ g, w6.heap.size = g := ⟨_, rfl⟩
      rw [hG0] at HLn ⊢
      clear hG0 HG5
      generalize w6.alloc (.cells #[.int .i64 0, .int .i64 0, .int .i64 0, .int .i64 0, .int .u32 0, .string (nmF k), .string ByteArray.empty, .bool false] 29) = w7 at HLn ⊢
      go_cut [9] from 22 to 51 (fun u wz => ∃ G, u = .slice (some ⟨G, 0, none⟩) 1 1 ∧ Hid (LxW wo wz (.slice (some ⟨G, 0, none⟩) 1 1) [atL (nmM k)]))
      case first =>
        cases zb with
        | false =>
          have HkM : Hid (nmM k = nmF k) := hid (by unfold nmM; rw [if_neg (by have := Hzb.out; simpa using this)])
          clear Hzb
          go_wp2
          go_meet
          case rel => exact ⟨G0, rfl, hid (by rw [HkM.out]; exact HLn.out)⟩
        | true =>
          have HkM : Hid (nmM k = nmMainL) := hid (by unfold nmM; rw [if_pos (by have := Hzb.out; simpa using this)])
          clear Hzb
          have Hat : Hid (∀ w : World, Calls Tryz.prog 7 #[.string ⟨#[109, 97, 105, 110]⟩] w fun e w' => e = .returned (.agg #[.int .i64 0, .int .i64 0, .int .i64 0, .int .i64 0, .int .u32 0, .string nmMainL, .string ByteArray.empty, .bool false]) ∧ w.grownBy w' none) := hid (fun w => at_any nmMainL w)
          go_wp2_with fail
          refine (Hat.out _).mono ?_
          rintro e w8 ⟨rfl, hg⟩
          have al := World.grownBy_alloc w8 (.cells #[.int .i64 0, .int .i64 0, .int .i64 0, .int .i64 0, .int .u32 0, .string nmMainL, .string ByteArray.empty, .bool false] 29) none
          have hgg := grown_trans HLn.out.g (grown_trans hg al)
          have HLm : Hid (LxW wo (w8.alloc (.cells #[.int .i64 0, .int .i64 0, .int .i64 0, .int .i64 0, .int .u32 0, .string nmMainL, .string ByteArray.empty, .bool false] 29)) (.slice (some ⟨w8.heap.size, 0, none⟩) 1 1) [atL (nmM k)]) := hid (by
            rw [HkM.out]
            exact ⟨World.ownsRow_lit w8 #[.int .i64 0, .int .i64 0, .int .i64 0, .int .i64 0, .int .u32 0, .string nmMainL, .string ByteArray.empty, .bool false] 1 (grown_trans HLn.out.g hg).size (by unfold maxLen; omega) rfl, hgg⟩)
          clear hg al hgg Hat HLn
          go_wp2
          go_meet
          case rel => exact ⟨_, rfl, HLm⟩
      case rest =>
        obtain ⟨G, rfl, HL1⟩ := hcut
        clear HLn Hzb
        have HL2 : Hid (LxW wo wc (.slice (some ⟨G, 0, none⟩) 1 1) (atL (nmM k) :: List.replicate 0 (opL 1 0))) := hid HL1.out
        clear HL1
        go_wp2
        go_loopw [7, 9, 10] (fun al v i wr => ∃ j : Nat, j ≤ V + 1 ∧ i = .int .i64 j ∧ al = .int .i64 ((T0 + j : Nat) : Int) ∧ Hid (LxW wo wr v (atL (nmM k) :: List.replicate j (opL 1 0)))) (fun _ _ i _ => V + 1 - (intOf i).toNat)
        case atStart => exact ⟨0, Nat.zero_le _, rfl, rfl, HL2⟩
        case round =>
          clear HL2
          obtain ⟨j, hj, rfl, rfl, HP⟩ := hrel
          have j0 : (0 : Int) ≤ (j : Int) := by omega
          obtain ⟨vp2, vc2, hv⟩ : ∃ p c, _ = Value.slice p (atL (nmM k) :: List.replicate j (opL 1 0)).length c := own_slice HP.out.own
          obtain ⟨n2, hn2⟩ : ∃ n, (atL (nmM k) :: List.replicate j (opL 1 0)).length = n := ⟨_, rfl⟩
          rw [hn2] at hv
          subst hv
          have Hn2 := hid hn2
          have Hn2b : Hid (n2 = j + 1 ∧ j ≤ 151) := hid ⟨by rw [← hn2]; simp, by have := HNb.out; omega⟩
          obtain ⟨T1, hT1⟩ : ∃ T, T0 + j = T := ⟨_, rfl⟩
          rw [hT1]
          have HT1 := hid hT1
          have hT1b : (T1 : Int) ≤ 3000 := by have := Hn2b.out; omega
          have hT1c : (0 : Int) ≤ (T1 : Int) := by omega
          clear hT1 hn2
          by_cases hjl : j ≤ V
          rotate_left
          · obtain rfl : j = V + 1 := by omega
            have kn2 : ¬ (((V + 1 : Nat) : Int) ≤ (V : Int)) := by omega
            obtain ⟨V1, hV1⟩ : ∃ v, V + 1 = v := ⟨_, rfl⟩
            rw [hV1] at kn2 j0 ⊢
            have HV1 := hid hV1
            clear hjl hj
            have HLs : Hid (LxW wo wr (.slice vp2 n2 vc2) (lsMn V k)) := hid HP.out
            have HLl : Hid ((lsMn V k).length = n2) := hid Hn2.out
            have HO5 := hid (HQ.out.1.kept0 HLs.out.g)
            clear HP hV1
            have HCs : Hid (CsAt wr (.slice vp2 n2 vc2) (lsMn V k).length (csL lxC (lsMn V k))) := hid HLs.out.cs
            go_wp2_with fail
            refine (mkx_any (D := []) (ls := lsMn V k) (by simp) (by rw [HLl.out]; have := Hn2b.out; omega) (.inl ⟨⟨_, _, rfl⟩, rfl⟩) HCs.out).mono ?_
            rintro e w9 ⟨Vv, rfl, ho, hg⟩
            rw [obMn_is] at ho
            obtain ⟨p0, c0, p1, c1, p2, c2, p3, c3, p4, c4, p5, c5, hVv⟩ := ownO_slices ho
            obtain ⟨M, hM⟩ : ∃ M, (obMn V k).C.length = M := ⟨_, rfl⟩
            obtain ⟨M2, hM2⟩ : ∃ M, (obMn V k).M.length = M := ⟨_, rfl⟩
            rw [show (obMn V k).D.length = 0 from rfl, hM, hM2, show (obMn V k).R.length = 0 from rfl, show (obMn V k).Q.length = 0 from rfl, show (obMn V k).S.length = 1 from rfl] at hVv
            subst hVv
            have al := World.grownBy_alloc w9 (.cells #[.slice p0 0 c0, .slice p1 M c1, .slice p2 M2 c2, .slice p3 0 c3, .slice p4 0 c4, .slice p5 1 c5] 39) none
            have HO6 := hid (HO5.out.kept0 (grown_trans hg al))
            have HOn : Hid (OwnO w1.heap.size (w9.alloc (.cells #[.slice p0 0 c0, .slice p1 M c1, .slice p2 M2 c2, .slice p3 0 c3, .slice p4 0 c4, .slice p5 1 c5] 39)) ⟨.slice p0 0 c0, .slice p1 M c1, .slice p2 M2 c2, .slice p3 0 c3, .slice p4 0 c4, .slice p5 1 c5⟩ (obMn V k)) := hid ((ho.kept0 al).baseW HO5.out.g.size)
            clear ho hg al hM hM2 HCs HLs HO5
            have HOw := HO6.out.own
            rw [HnL.out] at HOw
            have HOw := hid HOw
            have Hnews : Hid (∀ j u, (csL obC [(⟨⟨.slice p0 0 c0, .slice p1 M c1, .slice p2 M2 c2, .slice p3 0 c3, .slice p4 0 c4, .slice p5 1 c5⟩, obMn V k⟩ : Ob)])[j]? = some u → (w9.alloc (.cells #[.slice p0 0 c0, .slice p1 M c1, .slice p2 M2 c2, .slice p3 0 c3, .slice p4 0 c4, .slice p5 1 c5] 39)).cell? ((⟨w9.heap.size, 0, none⟩ : Addr).add j) = some u) := hid (World.news_of_block (heap_alloc_new w9 _))
            have HLb : Hid (nL ≤ 100) := hid (by have := HkL.out; have := HNb.out; omega)
            obtain ⟨i, hi, hz0, hz1, hz2⟩ := info_obx
            have Hi := hid hi
            have Hz0 := hid hz0
            have Hz1 := hid hz1
            have Hz2 := hid hz2
            clear hi hz0 hz1 hz2
            unfold OV.agg
            go_wp2_with (first
              | (refine is_app _ _ _ rfl ?_
                 refine wpList_append_lies _ rfl _ _ 24 rfl w1.heap.size 39 i _ 6 144 Tryz.underlying24 Hi.out Hz0.out Hz1.out Hz2.out rfl (by decide) _ nL _ rfl HOw.out ⟨w9.heap.size, 0, none⟩ 1 1 _ rfl rfl Hnews.out (by simp [csL, obC, Value.oneCell']) (by decide) (by have := HLb.out; unfold maxLen; omega) (by have := HLb.out; omega) HO6.out.g.size _ rfl ?_
                 intro g cap wz hown hgrow hat hlt2
                 have hgrow0 : (w9.alloc (.cells #[.slice p0 0 c0, .slice p1 M c1, .slice p2 M2 c2, .slice p3 0 c3, .slice p4 0 c4, .slice p5 1 c5] 39)).grownBy wz (Value.slice vp nL vc).ownBlock := hgrow
                 have HOz := hid (HO6.out.add [⟨⟨.slice p0 0 c0, .slice p1 M c1, .slice p2 M2 c2, .slice p3 0 c3, .slice p4 0 c4, .slice p5 1 c5⟩, obMn V k⟩] (fun o h => by obtain rfl := List.mem_singleton.1 h; exact HOn.out) (by rw [HnL.out]; exact hown) hgrow0)
                 clear hown hgrow hat hlt2 hgrow0)
              | fail)
            have Hal : Hid (T1 = (k + 1) * (V + 1)) := hid (by rw [← HT1.out, ← HT0.out]; exact mul_snoc k V)
            go_roundw
            case rel =>
              refine ⟨k + 1, Hlt.out, by go_num, by rw [← Hal.out], hid ⟨_, HOz.out, ?_⟩⟩
              rw [List.map_append, HQ.out.2]
              unfold xsMn
              rw [List.range_succ, List.map_append]
              rfl
            case measure => simp [intOf]; have := Hlt.out; omega
          · have kn2 : (j : Int) ≤ (V : Int) := by omega
            have Hjl := hid hjl
            clear hjl hj
            have Hop : Hid (∀ w : World, Calls Tryz.prog 9 #[.int .i64 1, .slice none 0 0] w fun e w' => e = .returned (.agg #[.int .i64 1, .int .i64 0, .int .i64 0, .int .i64 0, .int .u32 0, .string ByteArray.empty, .string ByteArray.empty, .bool false]) ∧ w.grownBy w' none) := hid (fun w => op_nil 1 w)
            go_wp2_with fail
            refine (Hop.out _).mono ?_
            rintro e w7 ⟨rfl, hg⟩
            have HQ7 := hid (HP.out.kept0 hg)
            clear hg HP Hop
            have al := World.grownBy_alloc w7 (.cells #[.int .i64 1, .int .i64 0, .int .i64 0, .int .i64 0, .int .u32 0, .string ByteArray.empty, .string ByteArray.empty, .bool false] 29) none
            have HQ8 := hid (HQ7.out.kept0 al)
            have HOw := HQ8.out.own
            rw [Hn2.out] at HOw
            have HOw := hid HOw
            have Hnews : Hid (∀ j u, (csL lxC [opL 1 0])[j]? = some u → (w7.alloc (.cells #[.int .i64 1, .int .i64 0, .int .i64 0, .int .i64 0, .int .u32 0, .string ByteArray.empty, .string ByteArray.empty, .bool false] 29)).cell? ((⟨w7.heap.size, 0, none⟩ : Addr).add j) = some u) := hid (World.news_of_block (heap_alloc_new w7 _))
            clear al HQ7
            obtain ⟨i, hi, hz0, hz1, hz2⟩ := info_lnx
            have Hi := hid hi
            have Hz0 := hid hz0
            have Hz1 := hid hz1
            have Hz2 := hid hz2
            clear hi hz0 hz1 hz2
            go_upto_region 18 with (first
              | (refine is_app _ _ _ rfl ?_
                 refine wpList_append_lies _ rfl _ _ 32 rfl wo.heap.size 29 i _ 8 80 Tryz.underlying32 Hi.out Hz0.out Hz1.out Hz2.out rfl (by decide) _ n2 _ rfl HOw.out ⟨w7.heap.size, 0, none⟩ 1 1 _ rfl rfl Hnews.out (by simp [csL, lxC, opL, Value.oneCell']) (by decide) (by have := Hn2b.out; unfold maxLen; omega) (by have := Hn2b.out; omega) HQ8.out.g.size _ rfl ?_
                 intro g cap wz hown hgrow hat hlt2
                 have hgrow0 : (w7.alloc (.cells #[.int .i64 1, .int .i64 0, .int .i64 0, .int .i64 0, .int .u32 0, .string ByteArray.empty, .string ByteArray.empty, .bool false] 29)).grownBy wz (Value.slice vp2 n2 vc2).ownBlock := hgrow
                 have HOn := hid (HQ8.out.add [opL 1 0] (by rw [Hn2.out]; exact hown) hgrow0)
                 clear hown hgrow hat hlt2 hgrow0)
              | fail)
            clear HOw Hnews Hi Hz0 Hz1 Hz2 HQ8
            go_wp2
            go_roundw
            case rel =>
              refine ⟨j + 1, by have := Hjl.out; omega, by go_num, ?_, hid ?_⟩
              · have h := HT1.out
                congr 1
                omega
              · have h := HOn.out
                rw [List.cons_append, ← List.replicate_succ'] at h
                exact h
            case measure => simp [intOf]; have := Hjl.out; omega
end Go.Proofs.YtogdpaaofihkgaaGreatDoor
