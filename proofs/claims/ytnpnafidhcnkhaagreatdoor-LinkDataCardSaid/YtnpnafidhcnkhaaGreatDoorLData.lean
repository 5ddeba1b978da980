/- LinkData: the walk. (Made by golddata.py.) -/
import Derived.Test.YtnpnafidhcnkhaaGreatDoorYToAny
import Derived.Test.YtnpnafidhcnkhaaGreatDoorYLnk18
import Derived.Test.YtnpnafidhcnkhaaGreatDoorYBase
import Derived.Deep.Cut
import Derived.Deep.CutRange
namespace Go.Proofs.YtnpnafidhcnkhaaGreatDoor
open Go.RowKit
set_option maxRecDepth 100000 in
set_option maxHeartbeats 32000000 in
theorem ldata_walk (n add : Int) (W : World) (A : Nat → Addr) (hS : ErrC W A) (hT : Lib.TabIs Tryz.prog W "internal/strconv.uint64pow10" .u64 Lib.pow10Tab) (n0 : -9223372036854775808 ≤ n) (n1 : n ≤ 9223372036854775807) (a0 : -9223372036854775808 ≤ add) (a1 : add ≤ 9223372036854775807) :
    Calls Tryz.prog 5 #[.int .i64 n, .int .i64 add] W fun e w' => e = .returned (.bool true) ∧ Below W.heap.size W w' := by
  have HE := hid hS
  have HT := hid hT
  obtain ⟨a, ha⟩ : ∃ a, numB n 8 = a := ⟨_, rfl⟩
  have ha2 : a < 8 := by subst ha; exact numB_lt n (by omega)
  obtain ⟨N, hN⟩ : ∃ N, a + 1 = N := ⟨_, rfl⟩
  have hN2 : (a : Int) + 1 = (N : Int) := by omega
  obtain ⟨b, hb⟩ : ∃ b, numB add 2001 = b := ⟨_, rfl⟩
  have hb2 : b < 2001 := by subst hb; exact numB_lt add (by omega)
  obtain ⟨add2, hadd⟩ : ∃ x : Int, (b : Int) - 1000 = x := ⟨_, rfl⟩
  have HA2 : Hid (-1000 ≤ add2 ∧ add2 ≤ 1000) := hid (by omega)
  have ad0 : -1000 ≤ add2 := HA2.out.1
  have ad1 : add2 ≤ 1000 := HA2.out.2
  clear hS hT
  go_enter Tryz.func5, Tryz.ntmps5
  go_wp2_with fail
  refine (first13_any HE.out).mono ?_
  rintro e w1 ⟨rfl, hg1⟩
  have HG1 := hid hg1
  clear hg1
  go_wp2_with fail
  refine (number_of n 8 8 a rfl ha (by omega) (by omega) n0 n1).mono ?_
  rintro e w2 ⟨rfl, rfl⟩
  go_wp2_with fail
  refine (number_of add 2001 2001 b rfl hb (by omega) (by omega) a0 a1).mono ?_
  rintro e w3 ⟨rfl, rfl⟩
  have HNb : Hid (1 ≤ N ∧ N ≤ 8 ∧ N = a + 1 ∧ a < 8) := hid (by omega)
  have nN0 : (0 : Int) < (N : Int) := by omega
  have nN1 : (N : Int) ≤ 8 := by omega
  clear n0 n1 a0 a1 ha hN ha2 hb hb2 hN2
  go_upto_region 8 with (fail)
  clear hadd
  have HR0 : Hid (∃ L, ObW w1 w1 (.slice none 0 0) L ∧ L.map (·.x) = xsDa add2 0) := hid ⟨[], ObW.start w1, rfl⟩
  go_wp2
  go_loopw [6, 7] (fun v i wr => ∃ k : Nat, k ≤ N ∧ i = .int .i64 k ∧ Hid (∃ L, ObW w1 wr v L ∧ L.map (·.x) = xsDa add2 k)) (fun _ i _ => N - (intOf i).toNat)
  case atStart => exact ⟨0, Nat.zero_le _, rfl, HR0⟩
  case round =>
    clear HR0
    obtain ⟨wo, rfl⟩ : ∃ x, x = wr := ⟨_, rfl⟩
    obtain ⟨k, hk, rfl, HP⟩ := hrel
    have k0 : (0 : Int) ≤ (k : Int) := by omega
    obtain ⟨L, HQ⟩ : ∃ L, Hid (ObW w1 wo _ L ∧ L.map (·.x) = xsDa add2 k) := by obtain ⟨L, h⟩ := HP.out; exact ⟨L, hid h⟩
    clear HP
    obtain ⟨vp, vc, hv⟩ := HQ.out.1.len
    obtain ⟨nL, hnL⟩ : ∃ n, L.length = n := ⟨_, rfl⟩
    rw [hnL] at hv
    subst hv
    have HnL := hid hnL
    have HkL : Hid (nL = k) := hid (by rw [← hnL, ← List.length_map (f := fun o : Ob => o.x), HQ.out.2]; simp [xsDa])
    clear hnL
    by_cases hlt : k < N
    rotate_left
    · obtain rfl : k = N := by omega
      have kn : ¬ ((k : Int) < (k : Int)) := by omega
      clear hlt hk
      obtain ⟨n', hn', hn8⟩ : ∃ n', k = n' + 1 ∧ n' < 8 := ⟨a, HNb.out.2.2.1, HNb.out.2.2.2⟩
      have Hk1 := hid hn'
      have Hn8 := hid hn8
      clear hn' hn8
      have hobb : Hid (∀ o ∈ L, ObB o.x) := hid (fun o ho => by
        have h := List.mem_map_of_mem (f := fun o : Ob => o.x) ho
        rw [HQ.out.2] at h
        obtain ⟨i, _, hi⟩ := List.mem_map.1 h
        rw [← hi]
        exact obDa_b)
      have hlen : Hid (L.length ≤ 1000000) := hid (by rw [HnL.out, HkL.out]; have := HNb.out; omega)
      have Hj : Hid (joinP (L.map (·.x)) = (none, jnDa add2 (n' + 1))) := hid (by rw [HQ.out.2, Hk1.out]; exact joinDa (by have := HA2.out; omega) (by have := HA2.out; omega) Hn8.out)
      obtain ⟨j1, j2, j3, j4, j5, j6⟩ := imgDa add2 Hn8.out
      have Hlg := hid j4
      have Had := hid j5
      clear j4 j5
      go_wp2_with fail
      refine (link_any HQ.out.1.at_ (HE.out.kept0 (grown_trans HG1.out HQ.out.1.g)) hobb.out hlen.out).mono ?_
      rintro e w6 hJ
      unfold LinkAt at hJ
      rw [Hj.out] at hJ
      simp only at hJ
      obtain ⟨K, hK, hJ⟩ := hJ
      obtain rfl := rnd_words noQ_da hK
      rw [Hlg.out, if_neg (by simp)] at hJ
      obtain ⟨hP, _, v1, vC, vd, vp', vs, rfl, hro, hg⟩ := hJ
      have hie : (imgP (jnDa add2 (n' + 1)) 0).e = 2048 := by
        have h : (imgP (jnDa add2 (n' + 1)) 0).e = adP (plcP (jnDa add2 (n' + 1)) 0) (lkD (jnDa add2 (n' + 1)).M nmMainL) := by unfold imgP; rw [imP_is]
        rw [h, Had.out]
      have hCl : Hid (0 < (whP (jnDa add2 (n' + 1))).C.length) := hid (by rw [whP_Cl (joinP_ok Hj.out).1]; first | done | exact Nat.succ_pos n')
      obtain ⟨I, hI⟩ : ∃ I, imgP (jnDa add2 (n' + 1)) 0 = I := ⟨_, rfl⟩
      rw [hI] at j1 j2 j3 j6 hie hro ⊢
      rw [← Hk1.out] at j1 j2 j3 j6
      clear hI hK hP
      obtain ⟨m, hm⟩ : ∃ m, 3 * k = m := ⟨_, rfl⟩
      rw [hm] at j1
      have hmi : 3 * (k : Int) = (m : Int) := by omega
      have hm1 : (m : Int) ≤ 24 := by omega
      have Hm := hid hm
      clear hm
      have r1 := hro ⟨v1, 27, 1, I.D.length, I.D.map (Value.int .u32)⟩ (by simp [imRo])
      have r2 := hro ⟨vC, 27, 1, I.C.length, I.C.map (Value.int .u32)⟩ (by simp [imRo])
      have r3 := hro ⟨vd, 3, 1, I.dr.length, I.dr.map (Value.int .i64)⟩ (by simp [imRo])
      have r4 := hro ⟨vp', 3, 1, I.pl.length, I.pl.map (Value.int .i64)⟩ (by simp [imRo])
      have r5 := hro ⟨vs, 3, 1, I.st.length, I.st.map (Value.int .i64)⟩ (by simp [imRo])
      simp only at r1 r2 r3 r4 r5
      obtain ⟨gD, d1, e1⟩ := own_some r1 (by rw [j1]; have := HNb.out; have := Hm.out; omega)
      obtain ⟨q2, d2, e2⟩ := own_slice r2
      obtain ⟨gR, d3, e3⟩ := own_some r3 (by rw [j2]; have := HNb.out; omega)
      obtain ⟨q4, d4, e4⟩ := own_slice r4
      obtain ⟨q5, d5, e5⟩ := own_slice r5
      obtain ⟨n4, hn4⟩ : ∃ n, I.pl.length = n := ⟨_, rfl⟩
      obtain ⟨n5, hn5⟩ : ∃ n, I.st.length = n := ⟨_, rfl⟩
      rw [j1] at e1 r1
      rw [j3] at e2
      rw [j2] at e3 r3
      rw [hn4] at e4
      rw [hn5] at e5
      subst e1 e2 e3 e4 e5
      rw [hie]
      have al := World.grownBy_alloc w6 (.cells #[.int .u32 2048, .slice (some ⟨gD, 0, none⟩) m d1, .slice q2 k d2, .slice (some ⟨gR, 0, none⟩) k d3, .slice q4 n4 d4, .slice q5 n5 d5] 45) none
      have HO8 := hid (HQ.out.1.kept0 (grown_trans hg al))
      have HD8 := hid (own_keep0 r1 al)
      have HR8 := hid (own_keep0 r3 al)
      have HX8 := hid (RwAt.new w6 45 #[.int .u32 2048, .slice (some ⟨gD, 0, none⟩) m d1, .slice q2 k d2, .slice (some ⟨gR, 0, none⟩) k d3, .slice q4 n4 d4, .slice q5 n5 d5])
      have HJ6 := hid j6
      have Hzi := zero_image
      clear r1 r2 r3 r4 r5 hro hg al hn4 hn5 hie j1 j2 j3 j6 HQ HnL HkL
      go_upto_region 18 with (fail)
      obtain ⟨X, hX⟩ : ∃ X, w6.heap.size = X := ⟨_, rfl⟩
      rw [hX] at HX8 ⊢
      clear hX Hzi
      generalize w6.alloc (.cells #[.int .u32 2048, .slice (some ⟨gD, 0, none⟩) m d1, .slice q2 k d2, .slice (some ⟨gR, 0, none⟩) k d3, .slice q4 n4 d4, .slice q5 n5 d5] 45) = w8 at HO8 HD8 HR8 HX8 ⊢
      have x1 := HX8.out.cell 1 (v := .slice (some ⟨gD, 0, none⟩) m d1) rfl
      have x2 := HX8.out.cell 2 (v := .slice q2 k d2) rfl
      have x3 := HX8.out.cell 3 (v := .slice (some ⟨gR, 0, none⟩) k d3) rfl
      have HWp : Hid (∀ w : World, w8.grownBy w none → Calls Tryz.prog 14 #[.slice vp nL vc, .string ⟨#[109, 97, 105, 110]⟩] w fun e w' => e = .returned (.tuple #[.int .u32 2048, .nilIface]) ∧ w.grownBy w' none) := hid (fun w hg => by
        have HOw := HO8.out.kept0 hg
        have hd : lkD (jnDa add2 (n' + 1)).M nmMainL = ⟨2, ((0 : Nat) : Int)⟩ := by unfold lkD; rw [mainDa]; rfl
        have ha := Had.out
        rw [hd] at ha
        rw [← ha]
        exact whr_yes HOw.at_ (HE.out.kept0 (grown_trans HG1.out HOw.g)) hobb.out hlen.out nmMainL Hj.out (fun K h => rnd_words noQ_da h) Hlg.out (mainDa add2 n') hCl.out)
      clear hobb hlen Hj Hlg hCl Had
      go_wp2
      go_loopw [12] (fun i wr => ∃ j : Nat, j ≤ k ∧ i = .int .i64 j ∧ Hid (wr = w8)) (fun i _ => k - (intOf i).toNat)
      case atStart => exact ⟨0, Nat.zero_le _, rfl, hid rfl⟩
      case round =>
        obtain ⟨j, hj, rfl, HGr⟩ := hrel
        have hgr := HGr.out
        subst hgr
        have j0 : (0 : Int) ≤ (j : Int) := by omega
        by_cases hlt : j < k
        · have jk : (j : Int) < (k : Int) := by omega
          obtain ⟨i1, i2, i3, i4⟩ := HJ6.out j hlt
          obtain ⟨T, hT⟩ : ∃ T, 3 * j = T := ⟨_, rfl⟩
          rw [hT] at i1 i2 i3 i4
          obtain ⟨T1, hT1⟩ : ∃ T1, T + 1 = T1 := ⟨_, rfl⟩
          obtain ⟨T2, hT2⟩ : ∃ T2, T + 2 = T2 := ⟨_, rfl⟩
          obtain ⟨U, hU⟩ : ∃ U, 2048 + j = U := ⟨_, rfl⟩
          rw [hT2] at i1 i3
          rw [hT1] at i2 i4
          rw [hU] at i2
          have hTi : 3 * (j : Int) = (T : Int) := by omega
          have hT1i : (T : Int) + 1 = (T1 : Int) := by omega
          have hT2i : (T : Int) + 2 = (T2 : Int) := by omega
          have hUi : 2048 + (j : Int) = (U : Int) := by omega
          obtain ⟨s, hs⟩ : ∃ s : Int, (T2 : Int) + add2 = s := ⟨_, rfl⟩
          rw [hs] at i1
          obtain ⟨d, hd⟩ : ∃ d : Int, s % 4294967296 = d := ⟨_, rfl⟩
          rw [hd] at i1
          have hwd : IntKind.u32.wrap s = d := by rw [IntKind.wrap_u32]; exact hd
          have hwU : IntKind.u32.wrap (U : Int) = (U : Int) := by rw [IntKind.wrap_u32]; omega
          have hUm : (U : Int) % 4294967296 = (U : Int) := by omega
          have bt0 : (0 : Int) ≤ (T : Int) := by omega
          have bt1 : (0 : Int) ≤ (T1 : Int) := by omega
          have bt2 : (0 : Int) ≤ (T2 : Int) := by omega
          have bm0 : (T : Int) < (m : Int) := by have := Hm.out; omega
          have bm1 : (T1 : Int) < (m : Int) := by have := Hm.out; omega
          have bm2 : (T2 : Int) < (m : Int) := by have := Hm.out; omega
          have cD0 : wr.cell? ⟨gD, T, none⟩ = some (.int .u32 d) := (HD8.out.cellAt T (by omega)).trans (by rw [List.getElem?_map, i1]; rfl)
          have cD1 : wr.cell? ⟨gD, T1, none⟩ = some (.int .u32 (U : Int)) := (HD8.out.cellAt T1 (by omega)).trans (by rw [List.getElem?_map, i2]; rfl)
          have cD2 : wr.cell? ⟨gD, T2, none⟩ = some (.int .u32 9) := (HD8.out.cellAt T2 (by omega)).trans (by rw [List.getElem?_map, i3]; rfl)
          have cR : wr.cell? ⟨gR, j, none⟩ = some (.int .i64 (T1 : Int)) := (HR8.out.cellAt j (by omega)).trans (by rw [List.getElem?_map, i4]; rfl)
          have Hlt := hid hlt
          clear i1 i2 i3 i4 hT hT1 hT2 hU hlt
          go_wp2
          go_roundw
          case rel => exact ⟨j + 1, Hlt.out, by go_num, hid (by first | rfl | trivial)⟩
          case measure => simp [intOf]; have := Hlt.out; omega
        · obtain rfl : j = k := by omega
          have jn : ¬ ((j : Int) < (j : Int)) := by omega
          have Hj8 : Hid (j ≤ 8 ∧ 1 ≤ j) := hid (by have := HNb.out; omega)
          clear hlt hj
          go_wp2_with fail
          refine (HWp.out _ (grown_refl _ _)).mono ?_
          rintro e w9 ⟨rfl, hg⟩
          have HX9 := hid (HX8.out.kept0 hg)
          have HG9 := hid (grown_trans HG1.out (grown_trans HO8.out.g hg))
          clear hg x1 x2 x3
          go_wp2_with (first
            | (refine wpList_load_rw_g (by kernel_rfl) 45 _ rfl rfl HX9.out rfl Tryz.underlying45 info_image ?_)
            | fail)
          refine (vimg_ok _ _ _ _ _ m d1 j d2 j d3 n4 d4 n5 d5 2048 w9 (by have := Hm.out; have := Hj8.out; omega) (by have := Hj8.out; omega) (by omega) (by have := Hj8.out; omega)).mono ?_
          rintro e wx ⟨rfl, hg⟩
          have HGz := hid (grown_trans HG9.out hg)
          clear hg
          go_wp2
          go_ret
          exact ⟨rfl, grown_below HGz.out⟩
    · have kn : (k : Int) < (N : Int) := by omega
      have Hlt := hid (show k < N ∧ k < 9 by have := HNb.out; omega)
      clear hlt hk
      obtain ⟨sk, hsk⟩ : ∃ sk : ByteArray, ⟨(dgt k).toArray⟩ = sk := ⟨_, rfl⟩
      have hst : ∀ w : World, (Op.stringOp .add ⟨#[102]⟩ sk).run Tryz.prog w = .ok (.string (nmF k)) w := fun w => by rw [← hsk]; exact add_f k w
      have Hnum : Hid (Calls Tryz.prog 8 #[.int .i64 k] wo fun e w' => e = .returned (.string sk) ∧ wo.grownBy w' none) := hid (by
        rw [← hsk]
        exact num_all HT.out k (by have := Hlt.out; omega) wo (grown_trans HG1.out HQ.out.1.g))
      clear hsk
      go_wp2_with fail
      refine Hnum.out.mono ?_
      rintro e w5 ⟨rfl, hg⟩
      have HG5 := hid hg
      clear hg Hnum
      obtain ⟨zb, hz1, hz2⟩ : ∃ z, ((k : Int) == 0) = z ∧ (k == 0) = z := ⟨k == 0, by simp [Bool.beq_eq_decide_eq], rfl⟩
      have Hzb := hid hz2
      go_upto_if 33 with (fail)
      clear hz1 hz2 hst
      go_cut [8] from 24 to 54 (fun u wz => u = .string (nmM k) ∧ Hid (wo.grownBy wz none))
      case first =>
        cases zb with
        | false =>
          have HkM : Hid (nmM k = nmF k) := hid (by unfold nmM; rw [if_neg (by have := Hzb.out; simpa using this)])
          clear Hzb
          go_wp2
          go_meet
          case rel => exact ⟨by rw [HkM.out], HG5⟩
        | true =>
          have HkM : Hid (nmM k = nmMainL) := hid (by unfold nmM; rw [if_pos (by have := Hzb.out; simpa using this)])
          clear Hzb
          go_wp2
          go_meet
          case rel => exact ⟨by rw [HkM.out]; rfl, HG5⟩
      case rest =>
        obtain ⟨rfl, HG6⟩ := hcut
        clear HG5 Hzb
        have hg6 := grown_trans HG6.out (World.grownBy_alloc wc (.cells #[.int .u32 7, .int .u32 8, .int .u32 9] 27) none)
        have HG7 := hid hg6
        have Hd := hid (SlAt.whole (k := .u32) (c := 3) (xs := [7, 8, 9]) (heap_alloc_last wc (.cells #[.int .u32 7, .int .u32 8, .int .u32 9] 27)))
        clear hg6 HG6
        go_wp2_with fail
        refine (at_any (nmM k) _).mono ?_
        rintro e w7 ⟨rfl, hg⟩
        unfold lbC
        have HG8 := hid (grown_trans HG7.out hg)
        have Hd8 := hid (Hd.out.kept0 hg)
        clear hg HG7 Hd
        have Hop : Hid (∀ w : World, Calls Tryz.prog 11 #[.int .i64 1, .slice none 0 0] w fun e w' => e = .returned (.agg #[.int .i64 1, .int .i64 0, .int .i64 0, .int .i64 0, .int .u32 0, .string ByteArray.empty, .string ByteArray.empty, .bool false]) ∧ w.grownBy w' none) := hid (fun w => op_nil 1 w)
        go_wp2_with fail
        refine (Hop.out _).mono ?_
        rintro e w8 ⟨rfl, hg⟩
        have al := World.grownBy_alloc w8 (.cells #[.int .i64 0, .int .i64 0, .int .i64 0, .int .i64 0, .int .u32 0, .string (nmM k), .string ByteArray.empty, .bool false, .int .i64 1, .int .i64 0, .int .i64 0, .int .i64 0, .int .u32 0, .string ByteArray.empty, .string ByteArray.empty, .bool false] 31) none
        have HG9 := hid (grown_trans HG8.out (grown_trans hg al))
        have Hd9 := hid (Hd8.out.kept0 (grown_trans hg al))
        have HCs : Hid (CsAt (w8.alloc (.cells #[.int .i64 0, .int .i64 0, .int .i64 0, .int .i64 0, .int .u32 0, .string (nmM k), .string ByteArray.empty, .bool false, .int .i64 1, .int .i64 0, .int .i64 0, .int .i64 0, .int .u32 0, .string ByteArray.empty, .string ByteArray.empty, .bool false] 31)) (.slice (some ⟨w8.heap.size, 0, none⟩) 2 2) 2 (csL lxC [atL (nmM k), opL 1 0])) := hid (csat_lit w8 #[.int .i64 0, .int .i64 0, .int .i64 0, .int .i64 0, .int .u32 0, .string (nmM k), .string ByteArray.empty, .bool false, .int .i64 1, .int .i64 0, .int .i64 0, .int .i64 0, .int .u32 0, .string ByteArray.empty, .string ByteArray.empty, .bool false] 31 2)
        clear hg al HG8 Hd8 Hop
        go_wp2_with fail
        refine (mkx_any (D := [7, 8, 9]) (ls := [atL (nmM k), opL 1 0]) (by simp) (by simp) Hd9.out HCs.out).mono ?_
        rintro e w9 ⟨Vv, rfl, ho, hg⟩
        rw [obZ_is Hlt.out.2] at ho
        obtain ⟨p0, c0, p1, c1, p2, c2, p3, c3, p4, c4, p5, c5, hVv⟩ := ownO_slices ho
        rw [show (obZ (nmM k)).D.length = 3 from rfl, show (obZ (nmM k)).C.length = 1 from rfl, show (obZ (nmM k)).M.length = 1 from rfl, show (obZ (nmM k)).R.length = 0 from rfl, show (obZ (nmM k)).Q.length = 0 from rfl, show (obZ (nmM k)).S.length = 1 from rfl] at hVv
        subst hVv
        have HB := hid (OBx.newD (W := wo) ho HG9.out.size (grown_trans HG9.out hg))
        clear ho hg HCs Hd9 HG9
        unfold OV.agg
        have Hzo := zero_obj
        go_upto_region 14 with (fail)
        clear Hzo
        obtain ⟨T9, hT9⟩ : ∃ t, w9.heap.size = t := ⟨_, rfl⟩
        try simp only at HB
        rw [hT9] at HB ⊢
        clear hT9
        generalize w9.alloc (.cells #[.slice p0 3 c0, .slice p1 1 c1, .slice p2 1 c2, .slice p3 0 c3, .slice p4 0 c4, .slice p5 1 c5] 41) = wa at HB ⊢
        have s5 := HB.out.g1.cell 5 (v := .slice p5 1 c5) rfl
        have hbs := build_symD
        have al := World.grownBy_alloc wa (.cells #[.string nmDat, .int .i64 1, .int .i64 2, .bool false] 63) none
        have HB2 := hid (HB.out.kept0 al)
        have HOs := hid HB2.out.own.s
        have Hnews : Hid (∀ x u, (sysC [⟨nmDat, 1, 2, false⟩])[x]? = some u → (wa.alloc (.cells #[.string nmDat, .int .i64 1, .int .i64 2, .bool false] 63)).cell? ((⟨wa.heap.size, 0, none⟩ : Addr).add x) = some u) := hid (World.news_of_block (heap_alloc_new wa _))
        clear al HB
        obtain ⟨i, hi, hz0, hz1, hz2⟩ := info_symD
        have Hi := hid hi
        have Hz0 := hid hz0
        have Hz1 := hid hz1
        have Hz2 := hid hz2
        clear hi hz0 hz1 hz2
        go_upto_region 15 with (first
          | (refine is_app _ _ _ rfl ?_
             refine wpList_append_lies _ rfl _ _ 39 rfl wo.heap.size 63 i _ 4 40 Tryz.underlying39 Hi.out Hz0.out Hz1.out Hz2.out rfl (by decide) _ 1 _ rfl HOs.out ⟨wa.heap.size, 0, none⟩ 1 1 _ rfl rfl Hnews.out (by simp [sysC, syC, Value.oneCell']) (by decide) (by unfold maxLen; omega) (by omega) HB2.out.le _ rfl ?_
             intro gs cs wz hown hgrow hat hlt2
             have hgrow0 : (wa.alloc (.cells #[.string nmDat, .int .i64 1, .int .i64 2, .bool false] 63)).grownBy wz (Value.slice p5 1 c5).ownBlock := hgrow
             have hat0 : (Value.slice p5 1 c5).ownBlock = some gs ∨ gs = (wa.alloc (.cells #[.string nmDat, .int .i64 1, .int .i64 2, .bool false] 63)).heap.size := hat
             have HB3 := hid (HB2.out.tS (N := 1) (M := 1) [⟨nmDat, 1, 2, false⟩] rfl rfl hgrow0 hat0 hown)
             have b5 : wz.cell? ⟨T9, 5, none⟩ = some (.slice p5 1 c5) := (HB2.out.g1.kept hgrow0 (fun e => (HB2.out.ne (.slice p5 1 c5) (by simp)).1 e.symm)).cell 5 (v := .slice p5 1 c5) rfl
             have z5 := (HB2.out.g1.kept hgrow0 (fun e => (HB2.out.ne (.slice p5 1 c5) (by simp)).1 e.symm)).free 5
             clear hown hgrow hat hlt2 hgrow0 hat0)
          | fail)
        clear HOs Hnews Hi Hz0 Hz1 Hz2 HB2 s5 hbs b5 z5
        generalize wz.setCell ⟨T9, 5, none⟩ (.slice (some ⟨gs, 0, none⟩) (1 + 1) cs) = wb at HB3 ⊢
        have r3 := HB3.out.g1.cell 3 (v := .slice p3 0 c3) rfl
        have hb1 := build_relD add2
        have hb2 := build_relE
        have al := World.grownBy_alloc wb (.cells #[.int .i64 0, .int .i64 1, .int .i64 1, .int .i64 add2, .int .i64 1, .int .i64 1, .int .i64 0, .int .i64 0] 65) none
        have HB4 := hid (HB3.out.kept0 al)
        have hrow : (wb.alloc (.cells #[.int .i64 0, .int .i64 1, .int .i64 1, .int .i64 add2, .int .i64 1, .int .i64 1, .int .i64 0, .int .i64 0] 65)).ownsRow wo.heap.size 65 4 (.slice (some ⟨wb.heap.size, 0, none⟩) (0 + 2) 2) (0 + 2) (rlsC [] ++ rlsC [⟨0, 1, 1, add2⟩, ⟨1, 1, 0, 0⟩]) := World.ownsRow_lit wb #[.int .i64 0, .int .i64 1, .int .i64 1, .int .i64 add2, .int .i64 1, .int .i64 1, .int .i64 0, .int .i64 0] 2 HB3.out.le (by unfold maxLen; omega) rfl
        have HB5 := hid (HB3.out.tR (w5 := wb.alloc (.cells #[.int .i64 0, .int .i64 1, .int .i64 1, .int .i64 add2, .int .i64 1, .int .i64 1, .int .i64 0, .int .i64 0] 65)) (N := 0) (M := 2) (cap := 2) (g := wb.heap.size) [⟨0, 1, 1, add2⟩, ⟨1, 1, 0, 0⟩] rfl rfl (grown_none al) (.inr rfl) hrow)
        have c3 := HB4.out.g1.cell 3 (v := .slice p3 0 c3) rfl
        have z3 := HB4.out.g1.free 3
        clear al hrow HB4 HB3
        go_upto_region 16 with (fail)
        clear r3 hb1 hb2 c3 z3
        obtain ⟨gr, hgr⟩ : ∃ g, wb.heap.size = g := ⟨_, rfl⟩
        rw [hgr] at HB5 ⊢
        clear hgr
        have HB6 : Hid (OBx wo ((wb.alloc (.cells #[.int .i64 0, .int .i64 1, .int .i64 1, .int .i64 add2, .int .i64 1, .int .i64 1, .int .i64 0, .int .i64 0] 65)).setCell ⟨T9, 3, none⟩ (.slice (some ⟨gr, 0, none⟩) 2 2)) T9 [] ⟨.slice p0 3 c0, .slice p1 1 c1, .slice p2 1 c2, .slice (some ⟨gr, 0, none⟩) 2 2, .slice p4 0 c4, .slice (some ⟨gs, 0, none⟩) 2 cs⟩ (obDa add2 (nmM k))) := hid HB5.out
        clear HB5
        try simp only [Nat.zero_add, Nat.reduceAdd]
        generalize (wb.alloc (.cells #[.int .i64 0, .int .i64 1, .int .i64 1, .int .i64 add2, .int .i64 1, .int .i64 1, .int .i64 0, .int .i64 0] 65)).setCell ⟨T9, 3, none⟩ (.slice (some ⟨gr, 0, none⟩) 2 2) = wf at HB6 ⊢
        have HX := hid HB6.out.g1
        have al := World.grownBy_alloc wf (.cells #[.slice p0 3 c0, .slice p1 1 c1, .slice p2 1 c2, .slice (some ⟨gr, 0, none⟩) 2 2, .slice p4 0 c4, .slice (some ⟨gs, 0, none⟩) 2 cs] 41) none
        have HO6 := hid (HQ.out.1.kept0 (grown_trans HB6.out.base_le al))
        have HOn : Hid (OwnO w1.heap.size (wf.alloc (.cells #[.slice p0 3 c0, .slice p1 1 c1, .slice p2 1 c2, .slice (some ⟨gr, 0, none⟩) 2 2, .slice p4 0 c4, .slice (some ⟨gs, 0, none⟩) 2 cs] 41)) ⟨.slice p0 3 c0, .slice p1 1 c1, .slice p2 1 c2, .slice (some ⟨gr, 0, none⟩) 2 2, .slice p4 0 c4, .slice (some ⟨gs, 0, none⟩) 2 cs⟩ (obDa add2 (nmM k))) := hid ((HB6.out.own.kept0 al).baseW HQ.out.1.g.size)
        have HOw := HO6.out.own
        rw [HnL.out] at HOw
        have HOw := hid HOw
        have Hnews : Hid (∀ x u, (csL obC [(⟨⟨.slice p0 3 c0, .slice p1 1 c1, .slice p2 1 c2, .slice (some ⟨gr, 0, none⟩) 2 2, .slice p4 0 c4, .slice (some ⟨gs, 0, none⟩) 2 cs⟩, obDa add2 (nmM k)⟩ : Ob)])[x]? = some u → (wf.alloc (.cells #[.slice p0 3 c0, .slice p1 1 c1, .slice p2 1 c2, .slice (some ⟨gr, 0, none⟩) 2 2, .slice p4 0 c4, .slice (some ⟨gs, 0, none⟩) 2 cs] 41)).cell? ((⟨wf.heap.size, 0, none⟩ : Addr).add x) = some u) := hid (World.news_of_block (heap_alloc_new wf _))
        have HLb : Hid (nL ≤ 100) := hid (by have := HkL.out; have := Hlt.out; omega)
        clear al
        obtain ⟨i, hi, hz0, hz1, hz2⟩ := info_obx
        have Hi := hid hi
        have Hz0 := hid hz0
        have Hz1 := hid hz1
        have Hz2 := hid hz2
        clear hi hz0 hz1 hz2
        go_wp2_with (first
          | (refine wpList_load_rw rfl 41 _ rfl rfl HX.out rfl Tryz.underlying41 info_object ?_)
          | (refine is_app _ _ _ rfl ?_
             refine wpList_append_lies _ rfl _ _ 24 rfl w1.heap.size 41 i _ 6 144 Tryz.underlying24 Hi.out Hz0.out Hz1.out Hz2.out rfl (by decide) _ nL _ rfl HOw.out ⟨wf.heap.size, 0, none⟩ 1 1 _ rfl rfl Hnews.out (by simp [csL, obC, Value.oneCell']) (by decide) (by have := HLb.out; unfold maxLen; omega) (by have := HLb.out; omega) HO6.out.g.size _ rfl ?_
             intro g cap wz hown hgrow hat hlt2
             have hgrow0 : (wf.alloc (.cells #[.slice p0 3 c0, .slice p1 1 c1, .slice p2 1 c2, .slice (some ⟨gr, 0, none⟩) 2 2, .slice p4 0 c4, .slice (some ⟨gs, 0, none⟩) 2 cs] 41)).grownBy wz (Value.slice vp nL vc).ownBlock := hgrow
             have HOz := hid (HO6.out.add [⟨⟨.slice p0 3 c0, .slice p1 1 c1, .slice p2 1 c2, .slice (some ⟨gr, 0, none⟩) 2 2, .slice p4 0 c4, .slice (some ⟨gs, 0, none⟩) 2 cs⟩, obDa add2 (nmM k)⟩] (fun o h => by obtain rfl := List.mem_singleton.1 h; exact HOn.out) (by rw [HnL.out]; exact hown) hgrow0)
             clear hown hgrow hat hlt2 hgrow0)
          | fail)
        go_roundw
        case rel =>
          refine ⟨k + 1, Hlt.out.1, by go_num, hid ⟨_, HOz.out, ?_⟩⟩
          rw [List.map_append, HQ.out.2]
          unfold xsDa
          rw [List.range_succ, List.map_append]
          rfl
        case measure => simp [intOf]; have := Hlt.out; omega
end Go.Proofs.YtnpnafidhcnkhaaGreatDoor
