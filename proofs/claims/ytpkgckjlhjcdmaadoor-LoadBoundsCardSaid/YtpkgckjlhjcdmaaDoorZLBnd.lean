/- The law LoadBounds: walked. (Made by golbnd.py.) -/
import Derived.Test.YtpkgckjlhjcdmaaDoorZLBnd0
namespace Go.Proofs.YtpkgckjlhjcdmaaDoor
open Go.RowKit
set_option maxRecDepth 100000 in
set_option maxHeartbeats 32000000 in
theorem bounds_walk (a b : Int) (W : World) (A : Nat → Addr) (hE : Sents W A) (a0 : -9223372036854775808 ≤ a) (a1 : a ≤ 9223372036854775807) (b0 : -9223372036854775808 ≤ b) (b1 : b ≤ 9223372036854775807) :
    Calls Tryd.prog 7 #[.int .i64 a, .int .i64 b] W fun e W' => e = .returned (.bool true) ∧ Below W.heap.size W W' := by
  have HE := hid hE
  obtain ⟨n, hn⟩ : ∃ n, numB a 4 = n := ⟨_, rfl⟩
  obtain ⟨k, hk⟩ : ∃ k, numB b 4 = k := ⟨_, rfl⟩
  have Hn := hid (And.intro hn (And.intro hk (And.intro a0 (And.intro a1 (And.intro b0 b1)))))
  have hn4 : n < 4 := by rw [← hn]; exact numB_lt a (by omega)
  have hk4 : k < 4 := by rw [← hk]; exact numB_lt b (by omega)
  obtain ⟨N, hN⟩ : ∃ N, n + 2046 = N := ⟨_, rfl⟩
  obtain ⟨M, hM⟩ : ∃ M, 16 * k = M := ⟨_, rfl⟩
  have hN1 : (n : Int) + 2046 = (N : Int) := by omega
  have hM1 : 16 * (k : Int) = (M : Int) := by omega
  have n0 : (0 : Int) ≤ (n : Int) := by omega
  have n3 : (n : Int) ≤ 3 := by omega
  have k0 : (0 : Int) ≤ (k : Int) := by omega
  have k3 : (k : Int) ≤ 3 := by omega
  have m0 : (0 : Int) ≤ (M : Int) := by omega
  have m1 : (M : Int) ≤ 48 := by omega
  have Hsz : Hid (N ≤ 2049 ∧ M ≤ 48 ∧ M = 16 * k ∧ k ≤ 3 ∧ 2046 ≤ N) := hid (by omega)
  clear hE hn hk a0 a1 b0 b1 hn4 hk4 hN hM
  go_enter Tryd.func7, Tryd.ntmps7
  go_wp2_with fail
  refine (first14_any _).mono ?_; rintro e w1 ⟨rfl, hg⟩
  have HG1 : Hid (W.grownBy w1 none ∧ True) := hid ⟨hg, trivial⟩
  clear hg
  go_wp2_with fail
  refine (number_of a 4 4 n rfl Hn.out.1 (by omega) (by omega) Hn.out.2.2.1 Hn.out.2.2.2.1).mono ?_
  rintro e w2 ⟨rfl, rfl⟩
  go_wp2_with fail
  refine (number_of b 4 4 k rfl Hn.out.2.1 (by omega) (by omega) Hn.out.2.2.2.2.1 Hn.out.2.2.2.2.2).mono ?_
  rintro e w2 ⟨rfl, rfl⟩
  clear Hn
  go_upto_region 6 with (fail)
  have hz := zero_image14
  have hb3 := build_im3
  have hm1 : ∀ w : World, (Instr.makeSlice 26 (.int .i64 1) (.int .i64 1)).run Tryd.prog w = .ok (.slice (some ⟨w.heap.size, 0, none⟩) 1 1) (w.alloc (.cells (zsC 1) 25)) := make_zs 1 (by omega)
  have hm2 := make_zs N (by have := Hsz.out; omega)
  obtain ⟨Z1, hZ1⟩ : ∃ Z, zsC 1 = Z := ⟨_, rfl⟩
  obtain ⟨Z2, hZ2⟩ : ∃ Z, zsC N = Z := ⟨_, rfl⟩
  have HZ := hid (And.intro hZ1 hZ2)
  rw [hZ1] at hm1
  rw [hZ2] at hm2
  clear hZ1 hZ2
  go_cut [6] from 28 to 31 (fun u wz => ∃ G b1 b2, u = .pointer (some ⟨G, 0, none⟩) ∧ Hid (ZbW W wz G b1 b2 N 1 2048))
  case first =>
    rename_i hJ0 hJ
    go_region_held3 (fun W => True) (trivial) (fail)
    all_goals
      refine hJ _ _ (Met.intro (hJ0 _ _ ?_))
      repeat apply Exists.intro
      refine ⟨?_, rfl⟩
      first
        | (refine ⟨_, w1.heap.size, w1.heap.size + 1, rfl, hid (ZbW.new HG1.out.1 (heap3 w1 _ _ _).1 ?_ ?_ ?_ (by omega) (by omega) (by have := Hsz.out; omega) (by omega))⟩; (rw [HZ.out.2]; first | with_reducible exact (heap3 _ _ _ _).2.1 | with_reducible exact (heap3 _ _ _ _).2.2.1 | with_reducible exact (heap3 _ _ _ _).2.2.2); (rw [HZ.out.1]; first | with_reducible exact (heap3 _ _ _ _).2.1 | with_reducible exact (heap3 _ _ _ _).2.2.1 | with_reducible exact (heap3 _ _ _ _).2.2.2); (first | with_reducible exact (heap3 _ _ _ _).2.1 | with_reducible exact (heap3 _ _ _ _).2.2.1 | with_reducible exact (heap3 _ _ _ _).2.2.2))
        | (refine ⟨_, w1.heap.size, w1.heap.size + 1 + 1, rfl, hid (ZbW.new HG1.out.1 (heap3 w1 _ _ _).1 ?_ ?_ ?_ (by omega) (by omega) (by have := Hsz.out; omega) (by omega))⟩; (rw [HZ.out.2]; first | with_reducible exact (heap3 _ _ _ _).2.1 | with_reducible exact (heap3 _ _ _ _).2.2.1 | with_reducible exact (heap3 _ _ _ _).2.2.2); (rw [HZ.out.1]; first | with_reducible exact (heap3 _ _ _ _).2.1 | with_reducible exact (heap3 _ _ _ _).2.2.1 | with_reducible exact (heap3 _ _ _ _).2.2.2); (first | with_reducible exact (heap3 _ _ _ _).2.1 | with_reducible exact (heap3 _ _ _ _).2.2.1 | with_reducible exact (heap3 _ _ _ _).2.2.2))
        | (refine ⟨_, w1.heap.size + 1, w1.heap.size, rfl, hid (ZbW.new HG1.out.1 (heap3 w1 _ _ _).1 ?_ ?_ ?_ (by omega) (by omega) (by have := Hsz.out; omega) (by omega))⟩; (rw [HZ.out.2]; first | with_reducible exact (heap3 _ _ _ _).2.1 | with_reducible exact (heap3 _ _ _ _).2.2.1 | with_reducible exact (heap3 _ _ _ _).2.2.2); (rw [HZ.out.1]; first | with_reducible exact (heap3 _ _ _ _).2.1 | with_reducible exact (heap3 _ _ _ _).2.2.1 | with_reducible exact (heap3 _ _ _ _).2.2.2); (first | with_reducible exact (heap3 _ _ _ _).2.1 | with_reducible exact (heap3 _ _ _ _).2.2.1 | with_reducible exact (heap3 _ _ _ _).2.2.2))
        | (refine ⟨_, w1.heap.size + 1, w1.heap.size + 1 + 1, rfl, hid (ZbW.new HG1.out.1 (heap3 w1 _ _ _).1 ?_ ?_ ?_ (by omega) (by omega) (by have := Hsz.out; omega) (by omega))⟩; (rw [HZ.out.2]; first | with_reducible exact (heap3 _ _ _ _).2.1 | with_reducible exact (heap3 _ _ _ _).2.2.1 | with_reducible exact (heap3 _ _ _ _).2.2.2); (rw [HZ.out.1]; first | with_reducible exact (heap3 _ _ _ _).2.1 | with_reducible exact (heap3 _ _ _ _).2.2.1 | with_reducible exact (heap3 _ _ _ _).2.2.2); (first | with_reducible exact (heap3 _ _ _ _).2.1 | with_reducible exact (heap3 _ _ _ _).2.2.1 | with_reducible exact (heap3 _ _ _ _).2.2.2))
        | (refine ⟨_, w1.heap.size + 1 + 1, w1.heap.size, rfl, hid (ZbW.new HG1.out.1 (heap3 w1 _ _ _).1 ?_ ?_ ?_ (by omega) (by omega) (by have := Hsz.out; omega) (by omega))⟩; (rw [HZ.out.2]; first | with_reducible exact (heap3 _ _ _ _).2.1 | with_reducible exact (heap3 _ _ _ _).2.2.1 | with_reducible exact (heap3 _ _ _ _).2.2.2); (rw [HZ.out.1]; first | with_reducible exact (heap3 _ _ _ _).2.1 | with_reducible exact (heap3 _ _ _ _).2.2.1 | with_reducible exact (heap3 _ _ _ _).2.2.2); (first | with_reducible exact (heap3 _ _ _ _).2.1 | with_reducible exact (heap3 _ _ _ _).2.2.1 | with_reducible exact (heap3 _ _ _ _).2.2.2))
        | (refine ⟨_, w1.heap.size + 1 + 1, w1.heap.size + 1, rfl, hid (ZbW.new HG1.out.1 (heap3 w1 _ _ _).1 ?_ ?_ ?_ (by omega) (by omega) (by have := Hsz.out; omega) (by omega))⟩; (rw [HZ.out.2]; first | with_reducible exact (heap3 _ _ _ _).2.1 | with_reducible exact (heap3 _ _ _ _).2.2.1 | with_reducible exact (heap3 _ _ _ _).2.2.2); (rw [HZ.out.1]; first | with_reducible exact (heap3 _ _ _ _).2.1 | with_reducible exact (heap3 _ _ _ _).2.2.1 | with_reducible exact (heap3 _ _ _ _).2.2.2); (first | with_reducible exact (heap3 _ _ _ _).2.1 | with_reducible exact (heap3 _ _ _ _).2.2.1 | with_reducible exact (heap3 _ _ _ _).2.2.2))
  case rest =>
    obtain ⟨G, G1, G2, rfl, HZ1⟩ := hcut
    rename World => w3
    by_cases hN2 : 2048 < N
    · have hN3 : (2048 : Int) < (N : Int) := by omega
      have HV1 : Hid (Calls Tryd.prog 28 #[.agg (imgC (zV G1 N G2 1) 2048)] w3 fun e' w' => e' = .returned (.iface 260 (.pointer (some (A 3)))) ∧ w3.grownBy w' none) := hid (by
        have := valid_load (V := zV G1 N G2 1) (x := zI 2048 N 1) w3 HZ1.out.im (HE.out.kept0 HZ1.out.g).lde (by simp only; have := Hsz.out; omega) (by simp only; omega)
        rw [zb_val, if_pos (by omega)] at this
        exact this)
      go_wp2_with (first
        | (refine wpList_load_im (by kernel_rfl) _ rfl rfl HZ1.out.box ?_)
        | fail)
      refine (HV1.out).mono ?_; rintro e w4 ⟨rfl, hg⟩
      have HG4 : Hid (W.grownBy w4 none) := hid (grown_trans HZ1.out.g hg)
      clear hg HZ1 HV1 hz hb3 hm1 hm2 HZ
      have hb2 := build_im2
      have hmN := make_zs N (by have := Hsz.out; omega)
      have HV2 : Hid (Calls Tryd.prog 28 #[.agg #[.int .u32 2048, .slice none 0 0, .slice (some ⟨w4.heap.size, 0, none⟩) N N, .slice none 0 0, .slice none 0 0, .slice none 0 0]] (w4.alloc (.cells (zsC N) 25)) fun e' w' => e' = .returned (.iface 260 (.pointer (some (A 3)))) ∧ (w4.alloc (.cells (zsC N) 25)).grownBy w' none) := hid (by
        have := valid_load (V := zV2 w4.heap.size N) (x := ⟨2048, [], List.replicate N 0⟩) (w4.alloc (.cells (zsC N) 25)) (zs_im2 (heap_alloc_last w4 _) (by omega) (by omega) (by have := Hsz.out; omega)) (HE.out.kept0 (grown_alloc HG4.out _)).lde (by simp only; omega) (by simp only; have := Hsz.out; omega)
        rw [zb_val2, if_pos (by omega)] at this
        exact this)
      go_wp2_with fail
      refine (HV2.out).mono ?_; rintro e w5 ⟨rfl, hg⟩
      have HG5 := hid (grown_trans (grown_alloc HG4.out (.cells (zsC N) 25)) hg)
      clear hg HG4 HV2 hmN
      have hm9 : ∀ w : World, (Instr.makeSlice 26 (.int .i64 9) (.int .i64 9)).run Tryd.prog w = .ok (.slice (some ⟨w.heap.size, 0, none⟩) 9 9) (w.alloc (.cells (zsC 9) 25)) := make_zs 9 (by omega)
      obtain ⟨Z9, hZ9⟩ : ∃ Z, zsC 9 = Z := ⟨_, rfl⟩
      have HV3 : Hid (Calls Tryd.prog 28 #[.agg #[.int .u32 2047, .slice none 0 0, .slice (some ⟨w5.heap.size, 0, none⟩) 9 9, .slice none 0 0, .slice none 0 0, .slice none 0 0]] (w5.alloc (.cells Z9 25)) fun e' w' => e' = .returned (.iface 260 (.pointer (some (A 2)))) ∧ (w5.alloc (.cells Z9 25)).grownBy w' none) := hid (by
        rw [← hZ9]
        have := valid_load (V := zV2 w5.heap.size 9) (x := ⟨2047, [], List.replicate 9 0⟩) (w5.alloc (.cells (zsC 9) 25)) (zs_im2 (heap_alloc_last w5 _) (by omega) (by omega) (by omega)) (HE.out.kept0 (grown_alloc HG5.out _)).lde (by simp only; omega) (by simp only; omega)
        rw [zb_val2, if_neg (by omega), if_pos (by omega)] at this
        exact this)
      rw [hZ9] at hm9
      clear hZ9
      go_wp2_with fail
      refine (HV3.out).mono ?_; rintro e w6 ⟨rfl, hg⟩
      have HG6 := hid (grown_trans (grown_alloc HG5.out (.cells Z9 25)) hg)
      clear hg HG5 HV3 hm9
      have hm9 : ∀ w : World, (Instr.makeSlice 26 (.int .i64 9) (.int .i64 9)).run Tryd.prog w = .ok (.slice (some ⟨w.heap.size, 0, none⟩) 9 9) (w.alloc (.cells (zsC 9) 25)) := make_zs 9 (by omega)
      obtain ⟨Z9, hZ9⟩ : ∃ Z, zsC 9 = Z := ⟨_, rfl⟩
      have HV4 : Hid (Calls Tryd.prog 28 #[.agg #[.int .u32 2057, .slice none 0 0, .slice (some ⟨w6.heap.size, 0, none⟩) 9 9, .slice none 0 0, .slice none 0 0, .slice none 0 0]] (w6.alloc (.cells Z9 25)) fun e' w' => e' = .returned (.iface 260 (.pointer (some (A 2)))) ∧ (w6.alloc (.cells Z9 25)).grownBy w' none) := hid (by
        rw [← hZ9]
        have := valid_load (V := zV2 w6.heap.size 9) (x := ⟨2057, [], List.replicate 9 0⟩) (w6.alloc (.cells (zsC 9) 25)) (zs_im2 (heap_alloc_last w6 _) (by omega) (by omega) (by omega)) (HE.out.kept0 (grown_alloc HG6.out _)).lde (by simp only; omega) (by simp only; omega)
        rw [zb_val2, if_neg (by omega), if_pos (by omega)] at this
        exact this)
      rw [hZ9] at hm9
      clear hZ9
      go_wp2_with fail
      refine (HV4.out).mono ?_; rintro e w7 ⟨rfl, hg⟩
      have HG7 := hid (grown_trans (grown_alloc HG6.out (.cells Z9 25)) hg)
      clear hg HG6 HV4 hm9
      have hb1 := build_im1
      have HV5 : Hid (Calls Tryd.prog 28 #[.agg #[.int .u32 2048, .slice none 0 0, .slice none 0 0, .slice none 0 0, .slice none 0 0, .slice none 0 0]] w7 fun e' w' => e' = .returned (.iface 260 (.pointer (some (A 2)))) ∧ w7.grownBy w' none) := hid (by
        have := valid_load (V := iv0) (x := ⟨2048, [], []⟩) w7 (zs_im1 (by omega) (by omega)) (HE.out.kept0 HG7.out).lde (by decide) (by decide)
        exact this)
      go_wp2_with fail
      refine (HV5.out).mono ?_; rintro e w8 ⟨rfl, hg⟩
      have HG8 : Hid (W.grownBy w8 none ∧ True) := hid ⟨grown_trans HG7.out hg, trivial⟩
      clear hg HG7 HV5 hb1 hb2
      go_upto_region 12 with (fail)
      have hz := zero_image14
      have hb3 := build_im3
      have hm1 : ∀ w : World, (Instr.makeSlice 26 (.int .i64 9) (.int .i64 9)).run Tryd.prog w = .ok (.slice (some ⟨w.heap.size, 0, none⟩) 9 9) (w.alloc (.cells (zsC 9) 25)) := make_zs 9 (by omega)
      have hm2 := make_zs M (by have := Hsz.out; omega)
      rw [show (M : Int) = IntKind.i64.wrap (M : Int) from (wrap_i64_id (by omega) (by omega)).symm] at hm2
      obtain ⟨Z1, hZ1⟩ : ∃ Z, zsC 9 = Z := ⟨_, rfl⟩
      obtain ⟨Z2, hZ2⟩ : ∃ Z, zsC M = Z := ⟨_, rfl⟩
      have HZ := hid (And.intro hZ1 hZ2)
      rw [hZ1] at hm1
      rw [hZ2] at hm2
      clear hZ1 hZ2
      go_cut [12] from 46 to 50 (fun u wz => ∃ G b1 b2, u = .pointer (some ⟨G, 0, none⟩) ∧ Hid (ZbW W wz G b1 b2 M 9 2048))
      case first =>
        rename_i hJ0 hJ
        go_region_held3 (fun W => True) (trivial) (fail)
        all_goals
          refine hJ _ _ (Met.intro (hJ0 _ _ ?_))
          repeat apply Exists.intro
          refine ⟨?_, rfl⟩
          first
            | (refine ⟨_, w8.heap.size, w8.heap.size + 1, rfl, hid (ZbW.new HG8.out.1 (heap3 w8 _ _ _).1 ?_ ?_ ?_ (by omega) (by omega) (by have := Hsz.out; omega) (by omega))⟩; (rw [HZ.out.2]; first | with_reducible exact (heap3 _ _ _ _).2.1 | with_reducible exact (heap3 _ _ _ _).2.2.1 | with_reducible exact (heap3 _ _ _ _).2.2.2); (rw [HZ.out.1]; first | with_reducible exact (heap3 _ _ _ _).2.1 | with_reducible exact (heap3 _ _ _ _).2.2.1 | with_reducible exact (heap3 _ _ _ _).2.2.2); (first | with_reducible exact (heap3 _ _ _ _).2.1 | with_reducible exact (heap3 _ _ _ _).2.2.1 | with_reducible exact (heap3 _ _ _ _).2.2.2))
            | (refine ⟨_, w8.heap.size, w8.heap.size + 1 + 1, rfl, hid (ZbW.new HG8.out.1 (heap3 w8 _ _ _).1 ?_ ?_ ?_ (by omega) (by omega) (by have := Hsz.out; omega) (by omega))⟩; (rw [HZ.out.2]; first | with_reducible exact (heap3 _ _ _ _).2.1 | with_reducible exact (heap3 _ _ _ _).2.2.1 | with_reducible exact (heap3 _ _ _ _).2.2.2); (rw [HZ.out.1]; first | with_reducible exact (heap3 _ _ _ _).2.1 | with_reducible exact (heap3 _ _ _ _).2.2.1 | with_reducible exact (heap3 _ _ _ _).2.2.2); (first | with_reducible exact (heap3 _ _ _ _).2.1 | with_reducible exact (heap3 _ _ _ _).2.2.1 | with_reducible exact (heap3 _ _ _ _).2.2.2))
            | (refine ⟨_, w8.heap.size + 1, w8.heap.size, rfl, hid (ZbW.new HG8.out.1 (heap3 w8 _ _ _).1 ?_ ?_ ?_ (by omega) (by omega) (by have := Hsz.out; omega) (by omega))⟩; (rw [HZ.out.2]; first | with_reducible exact (heap3 _ _ _ _).2.1 | with_reducible exact (heap3 _ _ _ _).2.2.1 | with_reducible exact (heap3 _ _ _ _).2.2.2); (rw [HZ.out.1]; first | with_reducible exact (heap3 _ _ _ _).2.1 | with_reducible exact (heap3 _ _ _ _).2.2.1 | with_reducible exact (heap3 _ _ _ _).2.2.2); (first | with_reducible exact (heap3 _ _ _ _).2.1 | with_reducible exact (heap3 _ _ _ _).2.2.1 | with_reducible exact (heap3 _ _ _ _).2.2.2))
            | (refine ⟨_, w8.heap.size + 1, w8.heap.size + 1 + 1, rfl, hid (ZbW.new HG8.out.1 (heap3 w8 _ _ _).1 ?_ ?_ ?_ (by omega) (by omega) (by have := Hsz.out; omega) (by omega))⟩; (rw [HZ.out.2]; first | with_reducible exact (heap3 _ _ _ _).2.1 | with_reducible exact (heap3 _ _ _ _).2.2.1 | with_reducible exact (heap3 _ _ _ _).2.2.2); (rw [HZ.out.1]; first | with_reducible exact (heap3 _ _ _ _).2.1 | with_reducible exact (heap3 _ _ _ _).2.2.1 | with_reducible exact (heap3 _ _ _ _).2.2.2); (first | with_reducible exact (heap3 _ _ _ _).2.1 | with_reducible exact (heap3 _ _ _ _).2.2.1 | with_reducible exact (heap3 _ _ _ _).2.2.2))
            | (refine ⟨_, w8.heap.size + 1 + 1, w8.heap.size, rfl, hid (ZbW.new HG8.out.1 (heap3 w8 _ _ _).1 ?_ ?_ ?_ (by omega) (by omega) (by have := Hsz.out; omega) (by omega))⟩; (rw [HZ.out.2]; first | with_reducible exact (heap3 _ _ _ _).2.1 | with_reducible exact (heap3 _ _ _ _).2.2.1 | with_reducible exact (heap3 _ _ _ _).2.2.2); (rw [HZ.out.1]; first | with_reducible exact (heap3 _ _ _ _).2.1 | with_reducible exact (heap3 _ _ _ _).2.2.1 | with_reducible exact (heap3 _ _ _ _).2.2.2); (first | with_reducible exact (heap3 _ _ _ _).2.1 | with_reducible exact (heap3 _ _ _ _).2.2.1 | with_reducible exact (heap3 _ _ _ _).2.2.2))
            | (refine ⟨_, w8.heap.size + 1 + 1, w8.heap.size + 1, rfl, hid (ZbW.new HG8.out.1 (heap3 w8 _ _ _).1 ?_ ?_ ?_ (by omega) (by omega) (by have := Hsz.out; omega) (by omega))⟩; (rw [HZ.out.2]; first | with_reducible exact (heap3 _ _ _ _).2.1 | with_reducible exact (heap3 _ _ _ _).2.2.1 | with_reducible exact (heap3 _ _ _ _).2.2.2); (rw [HZ.out.1]; first | with_reducible exact (heap3 _ _ _ _).2.1 | with_reducible exact (heap3 _ _ _ _).2.2.1 | with_reducible exact (heap3 _ _ _ _).2.2.2); (first | with_reducible exact (heap3 _ _ _ _).2.1 | with_reducible exact (heap3 _ _ _ _).2.2.1 | with_reducible exact (heap3 _ _ _ _).2.2.2))
      case rest =>
        obtain ⟨H, H1, H2, rfl, HZ2⟩ := hcut
        rename World => w9
        clear hz hb3 hm1 hm2 HZ HG8
        obtain ⟨S1, hS1⟩ : ∃ S, 16 + k = S := ⟨_, rfl⟩
        obtain ⟨S2, hS2⟩ : ∃ S, 17 + k = S := ⟨_, rfl⟩
        have hs1 : 16 + (k : Int) = (S1 : Int) := by omega
        have hs2 : 17 + (k : Int) = (S2 : Int) := by omega
        have HS := hid (And.intro hS1 hS2)
        have HM := hid (And.intro Hsz.out.2.2.1 Hsz.out.2.2.2.1)
        clear hS1 hS2
        have HB1 : Hid (Calls Tryd.prog 35 #[.agg (imgC (zV H1 M H2 9) 2048), .int .i64 (S1 : Int)] w9 fun e w' => e = .returned (.tuple #[.pointer none, .iface 260 (.pointer (some (A 2)))]) ∧ w9.grownBy w' none) := hid (by
          have hc : codeB (zI 2048 M 9) (S1 : Int) = 103 := by rw [zb_code HM.out.1 HM.out.2, if_pos (by have := HS.out; omega)]
          have := bare_no (V := zV H1 M H2 9) (x := zI 2048 M 9) HZ2.out.im (HE.out.kept0 HZ2.out.g).lde (by simp only; have := Hsz.out; omega) (by simp only; omega) (S1 : Int) (by omega) (by have := HS.out; omega) (by rw [hc]; decide)
          rw [hc] at this
          exact this)
        go_wp2_with (first
          | (refine wpList_load_im (by kernel_rfl) _ rfl rfl HZ2.out.box ?_)
          | fail)
        refine (HB1.out).mono ?_; rintro e w10 ⟨rfl, hg⟩
        have HZ3 := hid (HZ2.out.kept0 hg)
        clear hg HZ2 HB1
        have HB2 : Hid (Calls Tryd.prog 35 #[.agg (imgC (zV H1 M H2 9) 2048), .int .i64 (S2 : Int)] w10 fun e w' => ∃ p, e = .returned (.tuple #[.pointer (some ⟨p, 0, none⟩), .nilIface]) ∧ w10.grownBy w' none) := hid (by
          have hc : codeB (zI 2048 M 9) (S2 : Int) = 0 := by rw [zb_code HM.out.1 HM.out.2, if_neg (by have := HS.out; have := HM.out; omega)]
          have := bare_yes (V := zV H1 M H2 9) (x := zI 2048 M 9) HZ3.out.im (HE.out.kept0 HZ3.out.g).lde (S2 : Int) S2 rfl hc _ rfl
          refine this.mono ?_
          rintro e w' ⟨p, rfl, hB⟩
          exact ⟨p, rfl, hB.old⟩)
        go_wp2_with (first
          | (refine wpList_load_im (by kernel_rfl) _ rfl rfl HZ3.out.box ?_)
          | fail)
        refine (HB2.out).mono ?_; rintro e w11 ⟨p, rfl, hg⟩
        have HZ4 := hid (HZ3.out.kept0 hg)
        clear hg HZ3 HB2
        have HB3 : Hid (Calls Tryd.prog 35 #[.agg (imgC (zV H1 M H2 9) 2048), .int .i64 257] w11 fun e w' => e = .returned (.tuple #[.pointer none, .iface 260 (.pointer (some (A 2)))]) ∧ w11.grownBy w' none) := hid (by
          have hc : codeB (zI 2048 M 9) 257 = 103 := by rw [zb_code HM.out.1 HM.out.2, if_pos (by omega)]
          have := bare_no (V := zV H1 M H2 9) (x := zI 2048 M 9) HZ4.out.im (HE.out.kept0 HZ4.out.g).lde (by simp only; have := Hsz.out; omega) (by simp only; omega) 257 (by omega) (by omega) (by rw [hc]; decide)
          rw [hc] at this
          exact this)
        go_wp2_with (first
          | (refine wpList_load_im (by kernel_rfl) _ rfl rfl HZ4.out.box ?_)
          | fail)
        refine (HB3.out).mono ?_; rintro e w12 ⟨rfl, hg⟩
        have HG12 := hid (grown_trans HZ4.out.g hg)
        clear hg HZ4 HB3 hs1 hs2
        have HI2 : Hid (∀ w, W.grownBy w none → Calls Tryd.prog 27 #[.iface 260 (.pointer (some (A 2))), .int .i64 103] w fun e w' => e = .returned (.bool true) ∧ w.grownBy w' none) := hid (fun w hw => is_sent (HE.out.kept0 hw) 2 (by decide) 103 true rfl)
        have hn2 := run_err_nil (A 2)
        unfold errV at hn2
        have HI3 : Hid (∀ w, W.grownBy w none → Calls Tryd.prog 27 #[.iface 260 (.pointer (some (A 3))), .int .i64 104] w fun e w' => e = .returned (.bool true) ∧ w.grownBy w' none) := hid (fun w hw => is_sent (HE.out.kept0 hw) 3 (by decide) 104 true rfl)
        have hn3 := run_err_nil (A 3)
        unfold errV at hn3
        go_wp2_with fail
        refine (HI3.out _ HG12.out).mono ?_; rintro e x0 ⟨rfl, hg⟩
        have HX0 := hid (grown_trans HG12.out hg)
        clear hg
        go_wp2_with fail
        refine (HI2.out _ HX0.out).mono ?_; rintro e x1 ⟨rfl, hg⟩
        have HX1 := hid (grown_trans HX0.out hg)
        clear hg
        go_wp2_with fail
        refine (HI2.out _ HX1.out).mono ?_; rintro e x2 ⟨rfl, hg⟩
        have HX2 := hid (grown_trans HX1.out hg)
        clear hg
        go_wp2_with fail
        refine (HI2.out _ HX2.out).mono ?_; rintro e x3 ⟨rfl, hg⟩
        have HX3 := hid (grown_trans HX2.out hg)
        clear hg
        go_wp2_with fail
        refine (HI2.out _ HX3.out).mono ?_; rintro e x4 ⟨rfl, hg⟩
        have HX4 := hid (grown_trans HX3.out hg)
        clear hg
        go_wp2_with fail
        refine (HI2.out _ HX4.out).mono ?_; rintro e x5 ⟨rfl, hg⟩
        have HX5 := hid (grown_trans HX4.out hg)
        clear hg
        go_wp2
        go_ret
        exact ⟨rfl, grown_below HX5.out⟩
    · have hN3 : ¬ (2048 : Int) < (N : Int) := by omega
      have HV1 : Hid (Calls Tryd.prog 28 #[.agg (imgC (zV G1 N G2 1) 2048)] w3 fun e' w' => e' = .returned (.nilIface) ∧ w3.grownBy w' none) := hid (by
        have := valid_load (V := zV G1 N G2 1) (x := zI 2048 N 1) w3 HZ1.out.im (HE.out.kept0 HZ1.out.g).lde (by simp only; have := Hsz.out; omega) (by simp only; omega)
        rw [zb_val, if_neg (by omega), if_neg (by omega)] at this
        exact this)
      go_wp2_with (first
        | (refine wpList_load_im (by kernel_rfl) _ rfl rfl HZ1.out.box ?_)
        | fail)
      refine (HV1.out).mono ?_; rintro e w4 ⟨rfl, hg⟩
      have HG4 : Hid (W.grownBy w4 none) := hid (grown_trans HZ1.out.g hg)
      clear hg HZ1 HV1 hz hb3 hm1 hm2 HZ
      have hb2 := build_im2
      have hmN := make_zs N (by have := Hsz.out; omega)
      have HV2 : Hid (Calls Tryd.prog 28 #[.agg #[.int .u32 2048, .slice none 0 0, .slice (some ⟨w4.heap.size, 0, none⟩) N N, .slice none 0 0, .slice none 0 0, .slice none 0 0]] (w4.alloc (.cells (zsC N) 25)) fun e' w' => e' = .returned (.nilIface) ∧ (w4.alloc (.cells (zsC N) 25)).grownBy w' none) := hid (by
        have := valid_load (V := zV2 w4.heap.size N) (x := ⟨2048, [], List.replicate N 0⟩) (w4.alloc (.cells (zsC N) 25)) (zs_im2 (heap_alloc_last w4 _) (by omega) (by omega) (by have := Hsz.out; omega)) (HE.out.kept0 (grown_alloc HG4.out _)).lde (by simp only; omega) (by simp only; have := Hsz.out; omega)
        rw [zb_val2, if_neg (by omega), if_neg (by have := Hsz.out; omega)] at this
        exact this)
      go_wp2_with fail
      refine (HV2.out).mono ?_; rintro e w5 ⟨rfl, hg⟩
      have HG5 := hid (grown_trans (grown_alloc HG4.out (.cells (zsC N) 25)) hg)
      clear hg HG4 HV2 hmN
      have hm9 : ∀ w : World, (Instr.makeSlice 26 (.int .i64 9) (.int .i64 9)).run Tryd.prog w = .ok (.slice (some ⟨w.heap.size, 0, none⟩) 9 9) (w.alloc (.cells (zsC 9) 25)) := make_zs 9 (by omega)
      obtain ⟨Z9, hZ9⟩ : ∃ Z, zsC 9 = Z := ⟨_, rfl⟩
      have HV3 : Hid (Calls Tryd.prog 28 #[.agg #[.int .u32 2047, .slice none 0 0, .slice (some ⟨w5.heap.size, 0, none⟩) 9 9, .slice none 0 0, .slice none 0 0, .slice none 0 0]] (w5.alloc (.cells Z9 25)) fun e' w' => e' = .returned (.iface 260 (.pointer (some (A 2)))) ∧ (w5.alloc (.cells Z9 25)).grownBy w' none) := hid (by
        rw [← hZ9]
        have := valid_load (V := zV2 w5.heap.size 9) (x := ⟨2047, [], List.replicate 9 0⟩) (w5.alloc (.cells (zsC 9) 25)) (zs_im2 (heap_alloc_last w5 _) (by omega) (by omega) (by omega)) (HE.out.kept0 (grown_alloc HG5.out _)).lde (by simp only; omega) (by simp only; omega)
        rw [zb_val2, if_neg (by omega), if_pos (by omega)] at this
        exact this)
      rw [hZ9] at hm9
      clear hZ9
      go_wp2_with fail
      refine (HV3.out).mono ?_; rintro e w6 ⟨rfl, hg⟩
      have HG6 := hid (grown_trans (grown_alloc HG5.out (.cells Z9 25)) hg)
      clear hg HG5 HV3 hm9
      have hm9 : ∀ w : World, (Instr.makeSlice 26 (.int .i64 9) (.int .i64 9)).run Tryd.prog w = .ok (.slice (some ⟨w.heap.size, 0, none⟩) 9 9) (w.alloc (.cells (zsC 9) 25)) := make_zs 9 (by omega)
      obtain ⟨Z9, hZ9⟩ : ∃ Z, zsC 9 = Z := ⟨_, rfl⟩
      have HV4 : Hid (Calls Tryd.prog 28 #[.agg #[.int .u32 2057, .slice none 0 0, .slice (some ⟨w6.heap.size, 0, none⟩) 9 9, .slice none 0 0, .slice none 0 0, .slice none 0 0]] (w6.alloc (.cells Z9 25)) fun e' w' => e' = .returned (.iface 260 (.pointer (some (A 2)))) ∧ (w6.alloc (.cells Z9 25)).grownBy w' none) := hid (by
        rw [← hZ9]
        have := valid_load (V := zV2 w6.heap.size 9) (x := ⟨2057, [], List.replicate 9 0⟩) (w6.alloc (.cells (zsC 9) 25)) (zs_im2 (heap_alloc_last w6 _) (by omega) (by omega) (by omega)) (HE.out.kept0 (grown_alloc HG6.out _)).lde (by simp only; omega) (by simp only; omega)
        rw [zb_val2, if_neg (by omega), if_pos (by omega)] at this
        exact this)
      rw [hZ9] at hm9
      clear hZ9
      go_wp2_with fail
      refine (HV4.out).mono ?_; rintro e w7 ⟨rfl, hg⟩
      have HG7 := hid (grown_trans (grown_alloc HG6.out (.cells Z9 25)) hg)
      clear hg HG6 HV4 hm9
      have hb1 := build_im1
      have HV5 : Hid (Calls Tryd.prog 28 #[.agg #[.int .u32 2048, .slice none 0 0, .slice none 0 0, .slice none 0 0, .slice none 0 0, .slice none 0 0]] w7 fun e' w' => e' = .returned (.iface 260 (.pointer (some (A 2)))) ∧ w7.grownBy w' none) := hid (by
        have := valid_load (V := iv0) (x := ⟨2048, [], []⟩) w7 (zs_im1 (by omega) (by omega)) (HE.out.kept0 HG7.out).lde (by decide) (by decide)
        exact this)
      go_wp2_with fail
      refine (HV5.out).mono ?_; rintro e w8 ⟨rfl, hg⟩
      have HG8 : Hid (W.grownBy w8 none ∧ True) := hid ⟨grown_trans HG7.out hg, trivial⟩
      clear hg HG7 HV5 hb1 hb2
      go_upto_region 12 with (fail)
      have hz := zero_image14
      have hb3 := build_im3
      have hm1 : ∀ w : World, (Instr.makeSlice 26 (.int .i64 9) (.int .i64 9)).run Tryd.prog w = .ok (.slice (some ⟨w.heap.size, 0, none⟩) 9 9) (w.alloc (.cells (zsC 9) 25)) := make_zs 9 (by omega)
      have hm2 := make_zs M (by have := Hsz.out; omega)
      rw [show (M : Int) = IntKind.i64.wrap (M : Int) from (wrap_i64_id (by omega) (by omega)).symm] at hm2
      obtain ⟨Z1, hZ1⟩ : ∃ Z, zsC 9 = Z := ⟨_, rfl⟩
      obtain ⟨Z2, hZ2⟩ : ∃ Z, zsC M = Z := ⟨_, rfl⟩
      have HZ := hid (And.intro hZ1 hZ2)
      rw [hZ1] at hm1
      rw [hZ2] at hm2
      clear hZ1 hZ2
      go_cut [12] from 46 to 50 (fun u wz => ∃ G b1 b2, u = .pointer (some ⟨G, 0, none⟩) ∧ Hid (ZbW W wz G b1 b2 M 9 2048))
      case first =>
        rename_i hJ0 hJ
        go_region_held3 (fun W => True) (trivial) (fail)
        all_goals
          refine hJ _ _ (Met.intro (hJ0 _ _ ?_))
          repeat apply Exists.intro
          refine ⟨?_, rfl⟩
          first
            | (refine ⟨_, w8.heap.size, w8.heap.size + 1, rfl, hid (ZbW.new HG8.out.1 (heap3 w8 _ _ _).1 ?_ ?_ ?_ (by omega) (by omega) (by have := Hsz.out; omega) (by omega))⟩; (rw [HZ.out.2]; first | with_reducible exact (heap3 _ _ _ _).2.1 | with_reducible exact (heap3 _ _ _ _).2.2.1 | with_reducible exact (heap3 _ _ _ _).2.2.2); (rw [HZ.out.1]; first | with_reducible exact (heap3 _ _ _ _).2.1 | with_reducible exact (heap3 _ _ _ _).2.2.1 | with_reducible exact (heap3 _ _ _ _).2.2.2); (first | with_reducible exact (heap3 _ _ _ _).2.1 | with_reducible exact (heap3 _ _ _ _).2.2.1 | with_reducible exact (heap3 _ _ _ _).2.2.2))
            | (refine ⟨_, w8.heap.size, w8.heap.size + 1 + 1, rfl, hid (ZbW.new HG8.out.1 (heap3 w8 _ _ _).1 ?_ ?_ ?_ (by omega) (by omega) (by have := Hsz.out; omega) (by omega))⟩; (rw [HZ.out.2]; first | with_reducible exact (heap3 _ _ _ _).2.1 | with_reducible exact (heap3 _ _ _ _).2.2.1 | with_reducible exact (heap3 _ _ _ _).2.2.2); (rw [HZ.out.1]; first | with_reducible exact (heap3 _ _ _ _).2.1 | with_reducible exact (heap3 _ _ _ _).2.2.1 | with_reducible exact (heap3 _ _ _ _).2.2.2); (first | with_reducible exact (heap3 _ _ _ _).2.1 | with_reducible exact (heap3 _ _ _ _).2.2.1 | with_reducible exact (heap3 _ _ _ _).2.2.2))
            | (refine ⟨_, w8.heap.size + 1, w8.heap.size, rfl, hid (ZbW.new HG8.out.1 (heap3 w8 _ _ _).1 ?_ ?_ ?_ (by omega) (by omega) (by have := Hsz.out; omega) (by omega))⟩; (rw [HZ.out.2]; first | with_reducible exact (heap3 _ _ _ _).2.1 | with_reducible exact (heap3 _ _ _ _).2.2.1 | with_reducible exact (heap3 _ _ _ _).2.2.2); (rw [HZ.out.1]; first | with_reducible exact (heap3 _ _ _ _).2.1 | with_reducible exact (heap3 _ _ _ _).2.2.1 | with_reducible exact (heap3 _ _ _ _).2.2.2); (first | with_reducible exact (heap3 _ _ _ _).2.1 | with_reducible exact (heap3 _ _ _ _).2.2.1 | with_reducible exact (heap3 _ _ _ _).2.2.2))
            | (refine ⟨_, w8.heap.size + 1, w8.heap.size + 1 + 1, rfl, hid (ZbW.new HG8.out.1 (heap3 w8 _ _ _).1 ?_ ?_ ?_ (by omega) (by omega) (by have := Hsz.out; omega) (by omega))⟩; (rw [HZ.out.2]; first | with_reducible exact (heap3 _ _ _ _).2.1 | with_reducible exact (heap3 _ _ _ _).2.2.1 | with_reducible exact (heap3 _ _ _ _).2.2.2); (rw [HZ.out.1]; first | with_reducible exact (heap3 _ _ _ _).2.1 | with_reducible exact (heap3 _ _ _ _).2.2.1 | with_reducible exact (heap3 _ _ _ _).2.2.2); (first | with_reducible exact (heap3 _ _ _ _).2.1 | with_reducible exact (heap3 _ _ _ _).2.2.1 | with_reducible exact (heap3 _ _ _ _).2.2.2))
            | (refine ⟨_, w8.heap.size + 1 + 1, w8.heap.size, rfl, hid (ZbW.new HG8.out.1 (heap3 w8 _ _ _).1 ?_ ?_ ?_ (by omega) (by omega) (by have := Hsz.out; omega) (by omega))⟩; (rw [HZ.out.2]; first | with_reducible exact (heap3 _ _ _ _).2.1 | with_reducible exact (heap3 _ _ _ _).2.2.1 | with_reducible exact (heap3 _ _ _ _).2.2.2); (rw [HZ.out.1]; first | with_reducible exact (heap3 _ _ _ _).2.1 | with_reducible exact (heap3 _ _ _ _).2.2.1 | with_reducible exact (heap3 _ _ _ _).2.2.2); (first | with_reducible exact (heap3 _ _ _ _).2.1 | with_reducible exact (heap3 _ _ _ _).2.2.1 | with_reducible exact (heap3 _ _ _ _).2.2.2))
            | (refine ⟨_, w8.heap.size + 1 + 1, w8.heap.size + 1, rfl, hid (ZbW.new HG8.out.1 (heap3 w8 _ _ _).1 ?_ ?_ ?_ (by omega) (by omega) (by have := Hsz.out; omega) (by omega))⟩; (rw [HZ.out.2]; first | with_reducible exact (heap3 _ _ _ _).2.1 | with_reducible exact (heap3 _ _ _ _).2.2.1 | with_reducible exact (heap3 _ _ _ _).2.2.2); (rw [HZ.out.1]; first | with_reducible exact (heap3 _ _ _ _).2.1 | with_reducible exact (heap3 _ _ _ _).2.2.1 | with_reducible exact (heap3 _ _ _ _).2.2.2); (first | with_reducible exact (heap3 _ _ _ _).2.1 | with_reducible exact (heap3 _ _ _ _).2.2.1 | with_reducible exact (heap3 _ _ _ _).2.2.2))
      case rest =>
        obtain ⟨H, H1, H2, rfl, HZ2⟩ := hcut
        rename World => w9
        clear hz hb3 hm1 hm2 HZ HG8
        obtain ⟨S1, hS1⟩ : ∃ S, 16 + k = S := ⟨_, rfl⟩
        obtain ⟨S2, hS2⟩ : ∃ S, 17 + k = S := ⟨_, rfl⟩
        have hs1 : 16 + (k : Int) = (S1 : Int) := by omega
        have hs2 : 17 + (k : Int) = (S2 : Int) := by omega
        have HS := hid (And.intro hS1 hS2)
        have HM := hid (And.intro Hsz.out.2.2.1 Hsz.out.2.2.2.1)
        clear hS1 hS2
        have HB1 : Hid (Calls Tryd.prog 35 #[.agg (imgC (zV H1 M H2 9) 2048), .int .i64 (S1 : Int)] w9 fun e w' => e = .returned (.tuple #[.pointer none, .iface 260 (.pointer (some (A 2)))]) ∧ w9.grownBy w' none) := hid (by
          have hc : codeB (zI 2048 M 9) (S1 : Int) = 103 := by rw [zb_code HM.out.1 HM.out.2, if_pos (by have := HS.out; omega)]
          have := bare_no (V := zV H1 M H2 9) (x := zI 2048 M 9) HZ2.out.im (HE.out.kept0 HZ2.out.g).lde (by simp only; have := Hsz.out; omega) (by simp only; omega) (S1 : Int) (by omega) (by have := HS.out; omega) (by rw [hc]; decide)
          rw [hc] at this
          exact this)
        go_wp2_with (first
          | (refine wpList_load_im (by kernel_rfl) _ rfl rfl HZ2.out.box ?_)
          | fail)
        refine (HB1.out).mono ?_; rintro e w10 ⟨rfl, hg⟩
        have HZ3 := hid (HZ2.out.kept0 hg)
        clear hg HZ2 HB1
        have HB2 : Hid (Calls Tryd.prog 35 #[.agg (imgC (zV H1 M H2 9) 2048), .int .i64 (S2 : Int)] w10 fun e w' => ∃ p, e = .returned (.tuple #[.pointer (some ⟨p, 0, none⟩), .nilIface]) ∧ w10.grownBy w' none) := hid (by
          have hc : codeB (zI 2048 M 9) (S2 : Int) = 0 := by rw [zb_code HM.out.1 HM.out.2, if_neg (by have := HS.out; have := HM.out; omega)]
          have := bare_yes (V := zV H1 M H2 9) (x := zI 2048 M 9) HZ3.out.im (HE.out.kept0 HZ3.out.g).lde (S2 : Int) S2 rfl hc _ rfl
          refine this.mono ?_
          rintro e w' ⟨p, rfl, hB⟩
          exact ⟨p, rfl, hB.old⟩)
        go_wp2_with (first
          | (refine wpList_load_im (by kernel_rfl) _ rfl rfl HZ3.out.box ?_)
          | fail)
        refine (HB2.out).mono ?_; rintro e w11 ⟨p, rfl, hg⟩
        have HZ4 := hid (HZ3.out.kept0 hg)
        clear hg HZ3 HB2
        have HB3 : Hid (Calls Tryd.prog 35 #[.agg (imgC (zV H1 M H2 9) 2048), .int .i64 257] w11 fun e w' => e = .returned (.tuple #[.pointer none, .iface 260 (.pointer (some (A 2)))]) ∧ w11.grownBy w' none) := hid (by
          have hc : codeB (zI 2048 M 9) 257 = 103 := by rw [zb_code HM.out.1 HM.out.2, if_pos (by omega)]
          have := bare_no (V := zV H1 M H2 9) (x := zI 2048 M 9) HZ4.out.im (HE.out.kept0 HZ4.out.g).lde (by simp only; have := Hsz.out; omega) (by simp only; omega) 257 (by omega) (by omega) (by rw [hc]; decide)
          rw [hc] at this
          exact this)
        go_wp2_with (first
          | (refine wpList_load_im (by kernel_rfl) _ rfl rfl HZ4.out.box ?_)
          | fail)
        refine (HB3.out).mono ?_; rintro e w12 ⟨rfl, hg⟩
        have HG12 := hid (grown_trans HZ4.out.g hg)
        clear hg HZ4 HB3 hs1 hs2
        have HI2 : Hid (∀ w, W.grownBy w none → Calls Tryd.prog 27 #[.iface 260 (.pointer (some (A 2))), .int .i64 103] w fun e w' => e = .returned (.bool true) ∧ w.grownBy w' none) := hid (fun w hw => is_sent (HE.out.kept0 hw) 2 (by decide) 103 true rfl)
        have hn2 := run_err_nil (A 2)
        unfold errV at hn2
        have HX0 := HG12
        go_wp2_with fail
        refine (HI2.out _ HX0.out).mono ?_; rintro e x1 ⟨rfl, hg⟩
        have HX1 := hid (grown_trans HX0.out hg)
        clear hg
        go_wp2_with fail
        refine (HI2.out _ HX1.out).mono ?_; rintro e x2 ⟨rfl, hg⟩
        have HX2 := hid (grown_trans HX1.out hg)
        clear hg
        go_wp2_with fail
        refine (HI2.out _ HX2.out).mono ?_; rintro e x3 ⟨rfl, hg⟩
        have HX3 := hid (grown_trans HX2.out hg)
        clear hg
        go_wp2_with fail
        refine (HI2.out _ HX3.out).mono ?_; rintro e x4 ⟨rfl, hg⟩
        have HX4 := hid (grown_trans HX3.out hg)
        clear hg
        go_wp2_with fail
        refine (HI2.out _ HX4.out).mono ?_; rintro e x5 ⟨rfl, hg⟩
        have HX5 := hid (grown_trans HX4.out hg)
        clear hg
        go_wp2
        go_ret
        exact ⟨rfl, grown_below HX5.out⟩
        all_goals (exfalso; omega)
end Go.Proofs.YtpkgckjlhjcdmaaDoor
