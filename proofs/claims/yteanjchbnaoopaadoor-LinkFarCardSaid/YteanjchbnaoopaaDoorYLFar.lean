/- LinkFar: the walk. (Made by golfar.py.) -/
import Derived.Test.YteanjchbnaoopaaDoorYFr13P
import Derived.Test.YteanjchbnaoopaaDoorYLFarP
import Derived.Test.YteanjchbnaoopaaDoorYToAny
import Derived.Test.YteanjchbnaoopaaDoorYRewP
import Derived.Deep.CutRange
import Derived.BigQuiet
namespace Go.Proofs.YteanjchbnaoopaaDoor
open Go.RowKit
theorem brA_is (k : Nat) : brA k = if k = 0 then 0 else 4 := rfl
theorem zero_insF (w : World) : (zeroValue 36).run Tryd.prog w = .ok (.agg #[.int .i64 0, .int .i64 0, .int .i64 0, .int .i64 0, .int .u32 0]) w := by kernel_rfl
theorem info_insF : (Tryd.prog.info? 36).map (·.size) = some 5 := by kernel_rfl
theorem at_l (n : ByteArray) : lxC (atL n) = (lbC n).toList := rfl
set_option maxRecDepth 100000 in
set_option maxHeartbeats 32000000 in
theorem lfar_walk {W : World} {A : Nat → Addr} (he : ErrC W A) (n k : Int) (n0 : -9223372036854775808 ≤ n) (n1 : n ≤ 9223372036854775807) (k0 : -9223372036854775808 ≤ k) (k1 : k ≤ 9223372036854775807) :
    Calls Tryd.prog 4 #[.int .i64 n, .int .i64 k] W fun e w' => e = .returned (.bool true) ∧ W.grownBy w' none := by
  have HE := hid he
  obtain ⟨a, ha⟩ : ∃ a, numB n 60 = a := ⟨_, rfl⟩
  obtain ⟨b, hb⟩ : ∃ b, numB k 3 = b := ⟨_, rfl⟩
  have ha2 : a < 60 := by subst ha; exact numB_lt n (by omega)
  have hb2 : b < 3 := by subst hb; exact numB_lt k (by omega)
  obtain ⟨N, hN⟩ : ∃ N, a + 100 = N := ⟨_, rfl⟩
  have hN2 : (a : Int) + 100 = (N : Int) := by omega
  clear he
  go_enter Tryd.func4, Tryd.ntmps4
  go_wp2_with fail
  refine (first13_any HE.out).mono ?_
  rintro e w1 ⟨rfl, hg1⟩
  have HG1 := hid hg1
  clear hg1
  go_wp2_with fail
  refine (number_of n 60 60 a rfl ha (by omega) (by omega) n0 n1).mono ?_
  rintro e w2 ⟨rfl, rfl⟩
  go_wp2_with fail
  refine (number_of k 3 3 b rfl hb (by omega) (by omega) k0 k1).mono ?_
  rintro e w3 ⟨rfl, rfl⟩
  have HNb : Hid (100 ≤ N ∧ N < 160) := hid (by omega)
  have Hb2 := hid hb2
  have nN0 : (100 : Int) ≤ (N : Int) := by omega
  have nN1 : (N : Int) < 160 := by omega
  clear n0 n1 k0 k1 ha hb hN ha2
  obtain ⟨Oq, hOb⟩ : ∃ o, brO b = o := ⟨_, rfl⟩
  obtain ⟨Ab, hAb⟩ : ∃ o, brA b = o := ⟨_, rfl⟩
  have HOe := hid hOb
  have HAe := hid hAb
  have HOb : Hid ((#[.int .i64 16, .int .i64 17, .int .i64 18] : Array Value)[b]? = some (.int .i64 Oq)) := hid (by
    subst hOb
    obtain rfl | rfl | rfl : b = 0 ∨ b = 1 ∨ b = 2 := by omega
    all_goals rfl)
  have HLg : Hid ((#[.int .i64 19, .int .i64 20, .int .i64 21] : Array Value)[b]? = some (.int .i64 (19 + b))) := hid (by
    obtain rfl | rfl | rfl : b = 0 ∨ b = 1 ∨ b = 2 := by omega
    all_goals rfl)
  clear hOb hAb
  have al1 := World.grownBy_alloc w1 (.cells #[.int .i64 16, .int .i64 17, .int .i64 18] 3) none
  have al2 := World.grownBy_alloc (w1.alloc (.cells #[.int .i64 16, .int .i64 17, .int .i64 18] 3)) (.cells #[.int .i64 19, .int .i64 20, .int .i64 21] 3) none
  have HG3 := hid (grown_trans HG1.out (grown_trans al1 al2))
  have HA := hid ((RwAt.new w1 3 #[.int .i64 16, .int .i64 17, .int .i64 18]).kept0 al2)
  have HB := hid (RwAt.new (w1.alloc (.cells #[.int .i64 16, .int .i64 17, .int .i64 18] 3)) 3 #[.int .i64 19, .int .i64 20, .int .i64 21])
  have hsz : (w1.alloc (.cells #[.int .i64 16, .int .i64 17, .int .i64 18] 3)).heap.size = w1.heap.size + 1 := by simp
  rw [hsz] at HB
  clear al1 al2 hsz HG1
  obtain ⟨G1, hG1⟩ : ∃ g, w1.heap.size = g := ⟨_, rfl⟩
  rw [hG1] at HA HB ⊢
  clear hG1
  generalize (w1.alloc (.cells #[.int .i64 16, .int .i64 17, .int .i64 18] 3)).alloc (.cells #[.int .i64 19, .int .i64 20, .int .i64 21] 3) = w3 at HG3 HA HB ⊢
  have b0 : (0 : Int) ≤ (b : Int) := by omega
  have b1 : (b : Int) < 3 := by omega
  clear hb2
  go_upto_if 27 with (fail)
  go_cut [8] from 16 (fun u wz => u = .int .i64 Ab ∧ wz = w3)
  case first =>
    by_cases hz : b = 0
    · have HA0 : Hid (Ab = 0) := hid (by rw [← HAe.out, brA_is, if_pos hz])
      subst hz
      go_wp2
      go_meet
      case rel => exact ⟨by rw [HA0.out], rfl⟩
    · have HA0 : Hid (Ab = 4) := hid (by rw [← HAe.out, brA_is, if_neg hz])
      have hbp : (0 : Int) < (b : Int) := by omega
      have hbn : 0 < b := by omega
      go_wp2
      go_meet
      case rel => exact ⟨by rw [HA0.out], rfl⟩
  case rest =>
    obtain ⟨rfl, rfl⟩ := hcut
    go_upto_region 11 with (fail)
    have hg0 : wc.grownBy wc.drew none := grown_drew (grown_refl _ none)
    have HG4 := hid (grown_trans HG3.out hg0)
    have HA4 := hid (HA.out.kept0 hg0)
    have HB4 := hid (HB.out.kept0 hg0)
    have c4 : wc.drew.cell? ⟨G1, b, none⟩ = some (.int .i64 Oq) := HA4.out.cell b HOb.out
    refine wp_region_held_drew (S := fun W => W.cell? ⟨G1, b, none⟩ = some (.int .i64 Oq)) (by kernel_rfl) c4 (fun hS0 => ?_)
    clear hg0 HG3 HA HB c4
    generalize wc.drew = wd at HG4 HA4 HB4 hS0 ⊢
    have Hat : Hid (∀ w : World, Calls Tryd.prog 12 #[.string ⟨#[109, 97, 105, 110]⟩] w fun e w' => e = .returned (.agg #[.int .i64 0, .int .i64 0, .int .i64 0, .int .i64 0, .int .u32 0, .string nmMainL, .string ByteArray.empty, .bool false]) ∧ w.grownBy w' none) := hid (fun w => at_any nmMainL w)
    have Hto : Hid (∀ w : World, Calls Tryd.prog 13 #[.int .i64 Oq, .int .i64 Ab, .string ⟨#[101, 110, 100]⟩] w fun e w' => e = .returned (.agg #[.int .i64 Oq, .int .i64 Ab, .int .i64 0, .int .i64 0, .int .u32 0, .string ByteArray.empty, .string nmEndL, .bool false]) ∧ w.grownBy w' none) := hid (fun w => to_any Oq Ab nmEndL w)
    refine wpAnyH_take (i := 1) (v := ?_) rfl (by kernel_rfl) (by kernel_rfl) (by kernel_rfl) (fun _ _ _ h => h) (Or.inl ⟨by kernel_rfl, ?_⟩) hS0 ?_
    rotate_left
    · (intro W hSw; clear hSw; go_simp; try with_reducible rfl)
    try simp only [Act.put, List.setIfInBounds_toArray, List.set_cons_zero, List.set_cons_succ, List.getElem_toArray, List.getElem_cons_succ, List.getElem_cons_zero]
    refine wpAnyH_take (i := 2) (v := ?_) rfl (by kernel_rfl) (by kernel_rfl) (by kernel_rfl) (fun _ _ _ h => h) (Or.inl ⟨by kernel_rfl, ?_⟩) hS0 ?_
    rotate_left
    · (intro W hSw; clear hSw; go_simp; try with_reducible rfl)
    try simp only [Act.put, List.setIfInBounds_toArray, List.set_cons_zero, List.set_cons_succ, List.getElem_toArray, List.getElem_cons_succ, List.getElem_cons_zero]
    refine wpAnyH_take (i := 3) (v := ?_) rfl (by kernel_rfl) (by kernel_rfl) (by kernel_rfl) (fun _ _ _ h => h) (Or.inl ⟨by kernel_rfl, ?_⟩) hS0 ?_
    rotate_left
    · (intro W hSw; clear hSw; go_simp; try with_reducible rfl)
    try simp only [Act.put, List.setIfInBounds_toArray, List.set_cons_zero, List.set_cons_succ, List.getElem_toArray, List.getElem_cons_succ, List.getElem_cons_zero]
    refine wpAnyH_take (i := 4) (v := ?_) rfl (by kernel_rfl) (by kernel_rfl) (by kernel_rfl) (fun _ _ _ h => h) (Or.inl ⟨by kernel_rfl, ?_⟩) hS0 ?_
    rotate_left
    · (intro W hSw; have hc := hSw; clear hSw; go_simp; try with_reducible rfl)
    try simp only [Act.put, List.setIfInBounds_toArray, List.set_cons_zero, List.set_cons_succ, List.getElem_toArray, List.getElem_cons_succ, List.getElem_cons_zero]
    refine wpAnyH_take (i := 5) (v := ?_) rfl (by kernel_rfl) (by kernel_rfl) (by kernel_rfl) (fun _ _ _ h => h) (Or.inl ⟨by kernel_rfl, ?_⟩) hS0 ?_
    rotate_left
    · (intro W hSw; clear hSw; go_simp; try with_reducible rfl)
    try simp only [Act.put, List.setIfInBounds_toArray, List.set_cons_zero, List.set_cons_succ, List.getElem_toArray, List.getElem_cons_succ, List.getElem_cons_zero]
    refine wpAnyH_ready (rs := [0]) (by kernel_rfl) (by simp) ?_
    refine AllReadyH.cons rfl (fun KK hKK => ?_) AllReadyH.nil
    go_simp
    refine (Hat.out _).mono ?_; rintro e' wa ⟨rfl, hg⟩
    have HGa := hid hg
    have hS1 : wa.cell? ⟨G1, b, none⟩ = some (.int .i64 Oq) := (HA4.out.kept0 hg).cell b HOb.out
    clear hg
    refine hKK.out _ _ hS1 (fun _ => ?_)
    clear hKK KK hS0
    have hS0 := hS1
    clear hS1
    try simp only [Act.put, List.setIfInBounds_toArray, List.set_cons_zero, List.set_cons_succ, List.getElem_toArray, List.getElem_cons_succ, List.getElem_cons_zero]
    refine wpAnyH_ready (rs := [6]) (by kernel_rfl) (by simp) ?_
    refine AllReadyH.cons rfl (fun KK hKK => ?_) AllReadyH.nil
    go_simp
    refine (Hto.out _).mono ?_; rintro e' wb ⟨rfl, hg⟩
    have HGb := hid (grown_trans HGa.out hg)
    have hS1 : wb.cell? ⟨G1, b, none⟩ = some (.int .i64 Oq) := (HA4.out.kept0 HGb.out).cell b HOb.out
    clear hg HGa
    refine hKK.out _ _ hS1 (fun _ => ?_)
    clear hKK KK hS0
    have hS0 := hS1
    clear hS1
    try simp only [Act.put, List.setIfInBounds_toArray, List.set_cons_zero, List.set_cons_succ, List.getElem_toArray, List.getElem_cons_succ, List.getElem_cons_zero]
    refine wpAnyH_ready (rs := [7]) (by kernel_rfl) (by simp) ?_
    refine AllReadyH.cons rfl (fun KK hKK => ?_) AllReadyH.nil
    have HLw : Hid (LxW wd (wb.alloc (.cells #[.int .i64 0, .int .i64 0, .int .i64 0, .int .i64 0, .int .u32 0, .string nmMainL, .string ByteArray.empty, .bool false, .int .i64 Oq, .int .i64 Ab, .int .i64 0, .int .i64 0, .int .u32 0, .string ByteArray.empty, .string nmEndL, .bool false] 43)) (.slice (some ⟨wb.heap.size, 0, none⟩) 2 2) ([atL nmMainL, toL Oq Ab nmEndL] ++ List.replicate 0 (opL 1 0))) := hid ⟨World.ownsRow_lit wb #[.int .i64 0, .int .i64 0, .int .i64 0, .int .i64 0, .int .u32 0, .string nmMainL, .string ByteArray.empty, .bool false, .int .i64 Oq, .int .i64 Ab, .int .i64 0, .int .i64 0, .int .u32 0, .string ByteArray.empty, .string nmEndL, .bool false] 2 HGb.out.size (by unfold maxLen; omega) rfl, grown_trans HGb.out (World.grownBy_alloc _ _ none)⟩
    have hS1 : (wb.alloc (.cells #[.int .i64 0, .int .i64 0, .int .i64 0, .int .i64 0, .int .u32 0, .string nmMainL, .string ByteArray.empty, .bool false, .int .i64 Oq, .int .i64 Ab, .int .i64 0, .int .i64 0, .int .u32 0, .string ByteArray.empty, .string nmEndL, .bool false] 43)).cell? ⟨G1, b, none⟩ = some (.int .i64 Oq) := (HA4.out.kept0 HLw.out.g).cell b HOb.out
    go_simp
    refine hKK.out _ _ hS1 (fun _ => ?_)
    clear hKK KK hS0
    have hS0 := hS1
    clear hS1
    obtain ⟨G, hG⟩ : ∃ g, wb.heap.size = g := ⟨_, rfl⟩
    rw [hG] at HLw
    try rw [hG]
    clear hG
    generalize (wb.alloc (.cells #[.int .i64 0, .int .i64 0, .int .i64 0, .int .i64 0, .int .u32 0, .string nmMainL, .string ByteArray.empty, .bool false, .int .i64 Oq, .int .i64 Ab, .int .i64 0, .int .i64 0, .int .u32 0, .string ByteArray.empty, .string nmEndL, .bool false] 43)) = w6 at HLw hS0 ⊢
    try simp only [Act.put, List.setIfInBounds_toArray, List.set_cons_zero, List.set_cons_succ, List.getElem_toArray, List.getElem_cons_succ, List.getElem_cons_zero]
    refine wpAnyH_take (i := 8) (v := ?_) rfl (by kernel_rfl) (by kernel_rfl) (by kernel_rfl) (fun _ _ _ h => h) (Or.inl ⟨by kernel_rfl, ?_⟩) hS0 ?_
    rotate_left
    · (intro W hSw; clear hSw; go_simp; try with_reducible rfl)
    try simp only [Act.put, List.setIfInBounds_toArray, List.set_cons_zero, List.set_cons_succ, List.getElem_toArray, List.getElem_cons_succ, List.getElem_cons_zero]
    refine wpAnyH_done (by kernel_rfl) ?_ _
    clear hS0 HGb Hat Hto
    go_wp2
    go_loopw [9, 10] (fun v i wr => ∃ k : Nat, k ≤ N ∧ i = .int .i64 k ∧ Hid (LxW wd wr v ([atL nmMainL, toL Oq Ab nmEndL] ++ List.replicate k (opL 1 0)))) (fun _ i _ => N - (intOf i).toNat)
    case atStart => exact ⟨0, Nat.zero_le _, rfl, HLw⟩
    case round =>
      clear HLw
      obtain ⟨k, hk, rfl, HP⟩ := hrel
      have k0 : (0 : Int) ≤ (k : Int) := by omega
      obtain ⟨L, hL⟩ : ∃ L, ([atL nmMainL, toL Oq Ab nmEndL] ++ List.replicate k (opL 1 0)).length = L := ⟨_, rfl⟩
      have HLe := hid hL
      have HLk : Hid (L = k + 2) := hid (by rw [← hL]; simp)
      obtain ⟨⟨qp, qc, hqv⟩⟩ : Nonempty (∃ p c, _ = Value.slice p ([atL nmMainL, toL Oq Ab nmEndL] ++ List.replicate k (opL 1 0)).length c) := ⟨own_slice HP.out.own⟩
      rw [hL] at hqv
      subst hqv
      have HQ := hid HP.out
      clear HP hL
      have HLb : Hid (L ≤ 200) := hid (by have := HLk.out; have := HNb.out; omega)
      by_cases hlt : k < N
      · have kn : (k : Int) < (N : Int) := by omega
        have Hlt := hid hlt
        clear hlt hk
        have Hop : Hid (∀ w : World, Calls Tryd.prog 14 #[.int .i64 1, .slice none 0 0] w fun e w' => e = .returned (.agg #[.int .i64 1, .int .i64 0, .int .i64 0, .int .i64 0, .int .u32 0, .string ByteArray.empty, .string ByteArray.empty, .bool false]) ∧ w.grownBy w' none) := hid (fun w => op_nil 1 w)
        go_wp2_with fail
        refine (Hop.out _).mono ?_
        rintro e w7 ⟨rfl, hg⟩
        have HQ7 := hid (HQ.out.kept0 hg)
        clear hg HQ Hop
        have al := World.grownBy_alloc w7 (.cells #[.int .i64 1, .int .i64 0, .int .i64 0, .int .i64 0, .int .u32 0, .string ByteArray.empty, .string ByteArray.empty, .bool false] 43) none
        have HQ8 := hid (HQ7.out.kept0 al)
        have HOw := HQ8.out.own
        rw [HLe.out] at HOw
        have HOw := hid HOw
        have Hnews : Hid (∀ j u, (lxC (opL 1 0))[j]? = some u → (w7.alloc (.cells #[.int .i64 1, .int .i64 0, .int .i64 0, .int .i64 0, .int .u32 0, .string ByteArray.empty, .string ByteArray.empty, .bool false] 43)).cell? ((⟨w7.heap.size, 0, none⟩ : Addr).add j) = some u) := hid (World.news_of_block (heap_alloc_new w7 _))
        obtain ⟨i, hi, hz0, hz1, hz2⟩ := info_lnx
        have Hi := hid hi
        have Hz0 := hid hz0
        have Hz1 := hid hz1
        have Hz2 := hid hz2
        clear al HQ7 hi hz0 hz1 hz2
        go_wp2_with (first
          | (refine is_app _ _ _ rfl ?_
             refine wpList_append_lies _ rfl _ _ 46 rfl wd.heap.size 43 i _ 8 80 Tryd.underlying46 Hi.out Hz0.out Hz1.out Hz2.out rfl (by decide) _ L _ rfl HOw.out ⟨w7.heap.size, 0, none⟩ 1 1 _ rfl rfl Hnews.out (by simp [lxC, opL, Value.oneCell']) (by decide) (by have := HLb.out; unfold maxLen; omega) (by have := HLb.out; omega) HQ8.out.g.size _ rfl ?_
             intro g cap w9 hown hgrow hat hlt2
             have hgrow0 : (w7.alloc (.cells #[.int .i64 1, .int .i64 0, .int .i64 0, .int .i64 0, .int .u32 0, .string ByteArray.empty, .string ByteArray.empty, .bool false] 43)).grownBy w9 (Value.slice qp L qc).ownBlock := hgrow
             have HOn := hid (HQ8.out.add [opL 1 0] (by rw [HLe.out]; exact hown) hgrow0)
             clear hown hgrow hat hlt2 hgrow0)
          | fail)
        go_roundw
        case rel =>
          refine ⟨k + 1, Hlt.out, by go_num, hid ?_⟩
          have h := HOn.out
          rw [List.append_assoc, ← List.replicate_succ'] at h
          exact h
        case measure => simp [intOf]; have := Hlt.out; omega
      · obtain rfl : k = N := by omega
        have kn : ¬ ((k : Int) < (k : Int)) := by omega
        clear hlt hk
        have Hat2 : Hid (∀ w : World, Calls Tryd.prog 12 #[.string ⟨#[101, 110, 100]⟩] w fun e w' => e = .returned (.agg #[.int .i64 0, .int .i64 0, .int .i64 0, .int .i64 0, .int .u32 0, .string nmEndL, .string ByteArray.empty, .bool false]) ∧ w.grownBy w' none) := hid (fun w => at_any nmEndL w)
        go_wp2_with fail
        refine (Hat2.out _).mono ?_
        rintro e w7 ⟨rfl, hg⟩
        have HQ7 := hid (HQ.out.kept0 hg)
        clear hg HQ Hat2
        have al := World.grownBy_alloc w7 (.cells #[.int .i64 1] 3) none
        have Hop : Hid (Calls Tryd.prog 14 #[.int .i64 32, .slice (some ⟨w7.heap.size, 0, none⟩) 1 1] (w7.alloc (.cells #[.int .i64 1] 3)) fun e w' => e = .returned (.agg #[.int .i64 32, .int .i64 1, .int .i64 0, .int .i64 0, .int .u32 0, .string ByteArray.empty, .string ByteArray.empty, .bool false]) ∧ (w7.alloc (.cells #[.int .i64 1] 3)).grownBy w' none) := hid (op_one 32 1 w7.heap.size _ ((RwAt.new w7 3 #[.int .i64 1]).cell 0 rfl) (by simp))
        have HQ8 := hid (HQ7.out.kept0 al)
        clear al HQ7
        go_wp2_with fail
        refine Hop.out.mono ?_
        rintro e w9 ⟨rfl, hg⟩
        have HQ9 := hid (HQ8.out.kept0 hg)
        clear hg HQ8 Hop
        have al := World.grownBy_alloc w9 (.cells #[.int .i64 0, .int .i64 0, .int .i64 0, .int .i64 0, .int .u32 0, .string nmEndL, .string ByteArray.empty, .bool false, .int .i64 32, .int .i64 1, .int .i64 0, .int .i64 0, .int .u32 0, .string ByteArray.empty, .string ByteArray.empty, .bool false] 43) none
        have HQ8 := hid (HQ9.out.kept0 al)
        have HOw := HQ8.out.own
        rw [HLe.out] at HOw
        have HOw := hid HOw
        have Hnews : Hid (∀ j u, (csL lxC [atL nmEndL, opL 32 1])[j]? = some u → (w9.alloc (.cells #[.int .i64 0, .int .i64 0, .int .i64 0, .int .i64 0, .int .u32 0, .string nmEndL, .string ByteArray.empty, .bool false, .int .i64 32, .int .i64 1, .int .i64 0, .int .i64 0, .int .u32 0, .string ByteArray.empty, .string ByteArray.empty, .bool false] 43)).cell? ((⟨w9.heap.size, 0, none⟩ : Addr).add j) = some u) := hid (World.news_of_block (heap_alloc_new w9 _))
        obtain ⟨i, hi, hz0, hz1, hz2⟩ := info_lnx
        have Hi := hid hi
        have Hz0 := hid hz0
        have Hz1 := hid hz1
        have Hz2 := hid hz2
        clear al HQ9 hi hz0 hz1 hz2
        go_upto_region 17 with (first
          | (refine is_app _ _ _ rfl ?_
             refine wpList_append_lies _ rfl _ _ 46 rfl wd.heap.size 43 i _ 8 80 Tryd.underlying46 Hi.out Hz0.out Hz1.out Hz2.out rfl (by decide) _ L _ rfl HOw.out ⟨w9.heap.size, 0, none⟩ 2 2 _ rfl rfl Hnews.out (by simp [csL, lxC, opL, atL, Value.oneCell']) (by decide) (by have := HLb.out; unfold maxLen; omega) (by have := HLb.out; omega) HQ8.out.g.size _ rfl ?_
             intro g cap wz hown hgrow hat hlt2
             have hgrow0 : (w9.alloc (.cells #[.int .i64 0, .int .i64 0, .int .i64 0, .int .i64 0, .int .u32 0, .string nmEndL, .string ByteArray.empty, .bool false, .int .i64 32, .int .i64 1, .int .i64 0, .int .i64 0, .int .u32 0, .string ByteArray.empty, .string ByteArray.empty, .bool false] 43)).grownBy wz (Value.slice qp L qc).ownBlock := hgrow
             have HOn := hid (HQ8.out.add [atL nmEndL, opL 32 1] (by rw [HLe.out]; exact hown) hgrow0)
             clear hown hgrow hat hlt2 hgrow0)
          | fail)
        have HLf : Hid ([atL nmMainL, toL Oq Ab nmEndL] ++ List.replicate k (opL 1 0) ++ [atL nmEndL, opL 32 1] = lsFar k b) := hid (by
          rw [← HOe.out, ← HAe.out]; rfl)
        have HLn : Hid ((lsFar k b).length = L + 2) := hid (by rw [← HLf.out, List.length_append, HLe.out]; rfl)
        have HCs : Hid (CsAt wz (.slice (some ⟨g, 0, none⟩) (L + 2) cap) (lsFar k b).length (csL lxC (lsFar k b))) := hid (by have h := HOn.out.cs; rw [HLf.out] at h; exact h)
        have HQG := hid HOn.out.g
        have HGz := hid (grown_trans HG4.out HOn.out.g)
        clear HOn HOw Hnews Hi Hz0 Hz1 Hz2 HQ8
        go_wp2_with fail
        refine (mkx_any (D := []) (ls := lsFar k b) (by simp) (by rw [HLn.out]; have := HLb.out; omega) (.inl ⟨⟨_, _, rfl⟩, rfl⟩) HCs.out).mono ?_
        rintro e w4 ⟨V, rfl, ho, hg⟩
        rw [obFar_is _ _ Hb2.out] at ho
        obtain ⟨p0, c0, p1, c1, p2, c2, p3, c3, p4, c4, p5, c5, hV⟩ := ownO_slices ho
        obtain ⟨M, hM⟩ : ∃ M, (obFar k b).C.length = M := ⟨_, rfl⟩
        obtain ⟨M2, hM2⟩ : ∃ M, (obFar k b).M.length = M := ⟨_, rfl⟩
        rw [show (obFar k b).D.length = 0 from rfl, hM, hM2, show (obFar k b).R.length = 0 from rfl, show (obFar k b).Q.length = 1 from rfl, show (obFar k b).S.length = 2 from rfl] at hV
        subst hV
        have hal := World.grownBy_alloc w4 (.cells #[.slice p0 0 c0, .slice p1 M c1, .slice p2 M2 c2, .slice p3 0 c3, .slice p4 1 c4, .slice p5 2 c5] 52) none
        have HG5 := hid (grown_trans HGz.out (grown_trans hg hal))
        have HOb2 : Hid (ObsAt (w4.alloc (.cells #[.slice p0 0 c0, .slice p1 M c1, .slice p2 M2 c2, .slice p3 0 c3, .slice p4 1 c4, .slice p5 2 c5] 52)) (.slice (some ⟨w4.heap.size, 0, none⟩) 1 1) [⟨⟨.slice p0 0 c0, .slice p1 M c1, .slice p2 M2 c2, .slice p3 0 c3, .slice p4 1 c4, .slice p5 2 c5⟩, obFar k b⟩]) := hid ⟨csat_lit w4 _ _ 1, fun o h => by
          obtain rfl := List.mem_singleton.1 h
          exact ho.at_.kept0 hal⟩
        have HA5 := hid (HA4.out.kept0 (grown_trans HQG.out (grown_trans hg hal)))
        have HB5 := hid (HB4.out.kept0 (grown_trans HQG.out (grown_trans hg hal)))
        clear ho hg hal HGz HCs hM hM2 HA4 HB4 HQG
        unfold OV.agg
        go_wp2_with fail
        refine (link_any HOb2.out (HE.out.kept0 HG5.out) (fun o h => by obtain rfl := List.mem_singleton.1 h; exact obFar_b HNb.out.2 Hb2.out) (by simp)).mono ?_
        rintro e w6 hJ
        unfold LinkAt at hJ
        rw [show ([⟨⟨.slice p0 0 c0, .slice p1 M c1, .slice p2 M2 c2, .slice p3 0 c3, .slice p4 1 c4, .slice p5 2 c5⟩, obFar k b⟩] : List Ob).map (·.x) = [obFar k b] from rfl, jnFar_is HNb.out.2 Hb2.out] at hJ
        simp only at hJ
        obtain ⟨K, hK, hJ⟩ := hJ
        rw [itsFar_is] at hK
        clear HOb2
        by_cases hfar : k ≤ 126
        · obtain rfl := rndF_near hfar hK
          rw [if_neg (by rw [lngF_near HNb.out.2]; simp)] at hJ
          obtain ⟨_, _, v1, vC, vd, vp, vs, rfl, hro, hg⟩ := hJ
          obtain ⟨i1, i2, i3, i4⟩ := imgF_near (n := k) (k := b) (by omega)
          obtain ⟨I, hI⟩ : ∃ I, imgP (jnFar k b) 0 = I := ⟨_, rfl⟩
          rw [hI] at i1 i2 i3 i4 hro ⊢
          clear hI hK
          obtain ⟨x, hx⟩ : ∃ x, brW b / 256 * 256 + ((k : Int) + 1) % 256 = x := ⟨_, rfl⟩
          obtain ⟨hxb, hx1, hx2, hx4, hx5, hx6⟩ := wF_near Hb2.out (by omega) hx
          rw [hx] at i2
          obtain ⟨y, hy⟩ : ∃ y : Int, 16777216 = y := ⟨_, rfl⟩
          rw [hy] at i3
          obtain ⟨K1, hK1⟩ : ∃ K1 : Nat, k + 1 = K1 := ⟨_, rfl⟩
          have hK1i : (k : Int) + 1 = (K1 : Int) := by omega
          obtain ⟨cw3, hc3⟩ : ∃ c3, x / 256 % 256 = c3 := ⟨_, rfl⟩
          have HOf : Hid (∀ w, Calls Tryd.prog 9 #[.int .u32 x, .int .u32 y] w fun e w' => e = .returned (.tuple #[.agg #[.int .i64 Oq, .int .i64 Ab, .int .i64 cw3, .int .i64 (K1 : Int), .int .u32 0], .bool true]) ∧ w.grownBy w' none) := hid (fun w => (rof_yes x y w hxb.1 hxb.2 (hx6 y)).mono (fun e w' h => ⟨by rw [h.1, wantImm_no hx5, hx1, hx2, hx4, hc3, HOe.out, HAe.out, hK1i], below_is_grown h.2⟩))
          have HMm : Hid (I.C.length = k + 2) := hid i1
          have HI0 := hid i2
          have HI1 := hid i3
          have HIp : Hid (I.pl = []) := hid i4
          have hKn : ¬ ((127 : Int) < (K1 : Int)) := by omega
          have hKd : decide ((127 : Int) < (K1 : Int)) = false := by simpa using hKn
          have hKe : decide (127 < K1) = false := by simp; omega
          have hKf : ¬ (127 < K1) := by omega
          clear i1 i2 i3 i4 hx hxb hx1 hx2 hx4 hx5 hx6 hy hc3 hK1
          have r1 := hro ⟨v1, 25, 1, I.D.length, I.D.map (Value.int .u32)⟩ (by simp [imRo])
          have r2 := hro ⟨vC, 25, 1, I.C.length, I.C.map (Value.int .u32)⟩ (by simp [imRo])
          have r3 := hro ⟨vd, 3, 1, I.dr.length, I.dr.map (Value.int .i64)⟩ (by simp [imRo])
          have r4 := hro ⟨vp, 3, 1, I.pl.length, I.pl.map (Value.int .i64)⟩ (by simp [imRo])
          have r5 := hro ⟨vs, 3, 1, I.st.length, I.st.map (Value.int .i64)⟩ (by simp [imRo])
          simp only at r1 r2 r3 r4 r5
          rw [HIp.out] at r4
          obtain ⟨q1, d1, e1⟩ := own_slice r1
          obtain ⟨gC, cC, e2⟩ := own_some r2 (by rw [HMm.out]; omega)
          obtain ⟨q3, d3, e3⟩ := own_slice r3
          obtain ⟨q4, d4, e4⟩ := own_slice r4
          obtain ⟨q5, d5, e5⟩ := own_slice r5
          obtain ⟨n1, hn1⟩ : ∃ n, I.D.length = n := ⟨_, rfl⟩
          obtain ⟨m, hm⟩ : ∃ n, I.C.length = n := ⟨_, rfl⟩
          obtain ⟨n3, hn3⟩ : ∃ n, I.dr.length = n := ⟨_, rfl⟩
          obtain ⟨n5, hn5⟩ : ∃ n, I.st.length = n := ⟨_, rfl⟩
          have hmk : (k : Int) + 2 = (m : Int) := by have := HMm.out; omega
          have m0 : (1 : Int) < (m : Int) := by omega
          have m2 : (0 : Int) < (m : Int) := by omega
          have m1 : (m : Int) ≤ 200 := by omega
          rw [hn1] at e1
          rw [hm] at e2 r2
          rw [hn3] at e3
          simp only [List.length_nil] at e4
          rw [hn5] at e5
          subst e1 e2 e3 e4 e5
          obtain ⟨e0, he0⟩ : ∃ e, I.e = e := ⟨_, rfl⟩
          rw [he0]
          have hal := World.grownBy_alloc w6 (.cells #[.int .u32 e0, .slice q1 n1 d1, .slice (some ⟨gC, 0, none⟩) m cC, .slice q3 n3 d3, .slice q4 0 d4, .slice q5 n5 d5] 29) none
          have HG6 := hid (grown_trans HG5.out (grown_trans hg hal))
          have HX := hid (RwAt.new w6 29 #[.int .u32 e0, .slice q1 n1 d1, .slice (some ⟨gC, 0, none⟩) m cC, .slice q3 n3 d3, .slice q4 0 d4, .slice q5 n5 d5])
          have HRc := hid (own_keep0 r2 hal)
          have HRp := hid (own_keep0 r4 hal)
          have HA6 := hid (HA5.out.kept0 (grown_trans hg hal))
          have HB6 := hid (HB5.out.kept0 (grown_trans hg hal))
          have Hzi := zero_image
          clear r1 r2 r3 r4 r5 hro hg hal hn1 hm hn3 hn5 he0 HG5 HA5 HB5 hfar
          go_upto_region 21 with (fail)
          clear Hzi
          obtain ⟨X, hX⟩ : ∃ X, w6.heap.size = X := ⟨_, rfl⟩
          rw [hX] at HX ⊢
          clear hX
          generalize w6.alloc (.cells #[.int .u32 e0, .slice q1 n1 d1, .slice (some ⟨gC, 0, none⟩) m cC, .slice q3 n3 d3, .slice q4 0 d4, .slice q5 n5 d5] 29) = w8 at HX HG6 HRc HRp HA6 HB6 ⊢
          go_cut [14, 15] from 16 (fun u14 u15 wz => ∃ XI, u14 = .pointer (some ⟨XI, 0, none⟩) ∧ u15 = .bool true ∧ Hid (RwAt wz XI 36 #[.int .i64 Oq, .int .i64 Ab, .int .i64 cw3, .int .i64 (K1 : Int), .int .u32 0] ∧ w8.grownBy wz none))
          case first =>
            rename_i hJ0 hJ
            have hg0 : w8.grownBy w8.drew none := grown_drew (grown_refl _ none)
            have HX9 := hid (HX.out.kept0 hg0)
            have HRc9 := hid (own_keep0 HRc.out hg0)
            have hm0 : 0 < m := by omega
            have hm1 : 1 < m := by omega
            have HSf : Hid (∀ W, w8.drew.grownBy W none → W.cell? ⟨X, 2, none⟩ = some (.slice (some ⟨gC, 0, none⟩) m cC) ∧ W.cell? ⟨gC, 0, none⟩ = some (.int .u32 x) ∧ W.cell? ⟨gC, 1, none⟩ = some (.int .u32 y)) := hid (fun W h => ⟨(HX9.out.kept0 h).cell 2 rfl, ((own_keep0 HRc9.out h).cellAt 0 (by omega)).trans (by rw [List.getElem?_map, HI0.out]; rfl), ((own_keep0 HRc9.out h).cellAt 1 (by omega)).trans (by rw [List.getElem?_map, HI1.out]; rfl)⟩)
            refine wp_region_held_drew (S := fun W => W.cell? ⟨X, 2, none⟩ = some (.slice (some ⟨gC, 0, none⟩) m cC) ∧ W.cell? ⟨gC, 0, none⟩ = some (.int .u32 x) ∧ W.cell? ⟨gC, 1, none⟩ = some (.int .u32 y)) (by kernel_rfl) (HSf.out _ (grown_refl _ none)) (fun hS0 => ?_)
            have HG0 := hid hg0
            clear hg0 HX HG6 HRc HRp HA6 HB6
            generalize w8.drew = wd9 at HX9 HRc9 HSf HG0 hS0 ⊢
            have Hzn := zero_insF
            refine wpAnyH_take (i := 0) (v := ?_) rfl (by kernel_rfl) (by kernel_rfl) (by kernel_rfl) (fun _ _ _ h => h) (Or.inl ⟨by kernel_rfl, ?_⟩) hS0 ?_
            rotate_left
            · (intro W hSw; clear hSw; go_simp; try with_reducible rfl)
            try simp only [Act.put, List.setIfInBounds_toArray, List.set_cons_zero, List.set_cons_succ, List.getElem_toArray, List.getElem_cons_zero]
            refine wpAnyH_take (i := 1) (v := ?_) rfl (by kernel_rfl) (by kernel_rfl) (by kernel_rfl) (fun _ _ _ h => h) (Or.inl ⟨by kernel_rfl, ?_⟩) hS0 ?_
            rotate_left
            · (intro W hSw; have hc := hSw.1; clear hSw; go_simp; try with_reducible rfl)
            try simp only [Act.put, List.setIfInBounds_toArray, List.set_cons_zero, List.set_cons_succ, List.getElem_toArray, List.getElem_cons_succ, List.getElem_cons_zero]
            refine wpAnyH_take (i := 2) (v := ?_) rfl (by kernel_rfl) (by kernel_rfl) (by kernel_rfl) (fun _ _ _ h => h) (Or.inl ⟨by kernel_rfl, ?_⟩) hS0 ?_
            rotate_left
            · (intro W hSw; clear hSw; go_simp; try with_reducible rfl)
            try simp only [Act.put, List.setIfInBounds_toArray, List.set_cons_zero, List.set_cons_succ, List.getElem_toArray, List.getElem_cons_succ, List.getElem_cons_zero]
            refine wpAnyH_take (i := 3) (v := ?_) rfl (by kernel_rfl) (by kernel_rfl) (by kernel_rfl) (fun _ _ _ h => h) (Or.inl ⟨by kernel_rfl, ?_⟩) hS0 ?_
            rotate_left
            · (intro W hSw; have hc := hSw.2.1; clear hSw; go_simp; try with_reducible rfl)
            try simp only [Act.put, List.setIfInBounds_toArray, List.set_cons_zero, List.set_cons_succ, List.getElem_toArray, List.getElem_cons_succ, List.getElem_cons_zero]
            refine wpAnyH_take (i := 4) (v := ?_) rfl (by kernel_rfl) (by kernel_rfl) (by kernel_rfl) (fun _ _ _ h => h) (Or.inl ⟨by kernel_rfl, ?_⟩) hS0 ?_
            rotate_left
            · (intro W hSw; clear hSw; go_simp; try with_reducible rfl)
            try simp only [Act.put, List.setIfInBounds_toArray, List.set_cons_zero, List.set_cons_succ, List.getElem_toArray, List.getElem_cons_succ, List.getElem_cons_zero]
            refine wpAnyH_take (i := 5) (v := ?_) rfl (by kernel_rfl) (by kernel_rfl) (by kernel_rfl) (fun _ _ _ h => h) (Or.inl ⟨by kernel_rfl, ?_⟩) hS0 ?_
            rotate_left
            · (intro W hSw; have hc := hSw.1; clear hSw; go_simp; try with_reducible rfl)
            try simp only [Act.put, List.setIfInBounds_toArray, List.set_cons_zero, List.set_cons_succ, List.getElem_toArray, List.getElem_cons_succ, List.getElem_cons_zero]
            refine wpAnyH_take (i := 6) (v := ?_) rfl (by kernel_rfl) (by kernel_rfl) (by kernel_rfl) (fun _ _ _ h => h) (Or.inl ⟨by kernel_rfl, ?_⟩) hS0 ?_
            rotate_left
            · (intro W hSw; clear hSw; go_simp; try with_reducible rfl)
            try simp only [Act.put, List.setIfInBounds_toArray, List.set_cons_zero, List.set_cons_succ, List.getElem_toArray, List.getElem_cons_succ, List.getElem_cons_zero]
            refine wpAnyH_take (i := 7) (v := ?_) rfl (by kernel_rfl) (by kernel_rfl) (by kernel_rfl) (fun _ _ _ h => h) (Or.inl ⟨by kernel_rfl, ?_⟩) hS0 ?_
            rotate_left
            · (intro W hSw; have hc := hSw.2.2; clear hSw; go_simp; try with_reducible rfl)
            try simp only [Act.put, List.setIfInBounds_toArray, List.set_cons_zero, List.set_cons_succ, List.getElem_toArray, List.getElem_cons_succ, List.getElem_cons_zero]
            refine wpAnyH_ready (rs := [8, 12]) (by kernel_rfl) (by simp) ?_
            refine AllReadyH.cons rfl (fun KK hKK => ?_) (AllReadyH.cons rfl (fun KK hKK => ?_) AllReadyH.nil)
            · go_simp
              refine (HOf.out _).mono ?_; rintro e' wf ⟨rfl, hg⟩
              have HGf := hid (hg)
              have hS1 := HSf.out _ HGf.out
              clear hg
              refine hKK.out _ _ hS1 (fun _ => ?_)
              clear hKK KK hS0
              have hS0 := hS1
              clear hS1
              try simp only [Act.put, List.setIfInBounds_toArray, List.set_cons_zero, List.set_cons_succ, List.getElem_toArray, List.getElem_cons_succ, List.getElem_cons_zero]
              refine wpAnyH_take (i := 9) (v := ?_) rfl (by kernel_rfl) (by kernel_rfl) (by kernel_rfl) (fun _ _ _ h => h) (Or.inl ⟨by kernel_rfl, ?_⟩) hS0 ?_
              rotate_left
              · (intro W hSw; clear hSw; go_simp; try with_reducible rfl)
              try simp only [Act.put, List.setIfInBounds_toArray, List.set_cons_zero, List.set_cons_succ, List.getElem_toArray, List.getElem_cons_succ, List.getElem_cons_zero]
              refine wpAnyH_take (i := 10) (v := ?_) rfl (by kernel_rfl) (by kernel_rfl) (by kernel_rfl) (fun _ _ _ h => h) (Or.inl ⟨by kernel_rfl, ?_⟩) hS0 ?_
              rotate_left
              · (intro W hSw; clear hSw; go_simp; try with_reducible rfl)
              try simp only [Act.put, List.setIfInBounds_toArray, List.set_cons_zero, List.set_cons_succ, List.getElem_toArray, List.getElem_cons_succ, List.getElem_cons_zero]
              refine wpAnyH_take (i := 11) (v := ?_) rfl (by kernel_rfl) (by kernel_rfl) (by kernel_rfl) (fun _ _ _ h => h) (Or.inl ⟨by kernel_rfl, ?_⟩) hS0 ?_
              rotate_left
              · (intro W hSw; clear hSw; go_simp; try with_reducible rfl)
              try simp only [Act.put, List.setIfInBounds_toArray, List.set_cons_zero, List.set_cons_succ, List.getElem_toArray, List.getElem_cons_succ, List.getElem_cons_zero]
              refine wpAnyH_ready (rs := [12]) (by kernel_rfl) (by simp) ?_
              refine AllReadyH.cons rfl (fun KK hKK => ?_) AllReadyH.nil
              go_simp
              have hal := World.grownBy_alloc wf (.cells #[.int .i64 0, .int .i64 0, .int .i64 0, .int .i64 0, .int .u32 0] 36) none
              have HGg := hid (grown_trans HGf.out hal)
              have HNi := hid (RwAt.new wf 36 #[.int .i64 0, .int .i64 0, .int .i64 0, .int .i64 0, .int .u32 0])
              have hS1 := HSf.out _ HGg.out
              clear hal
              refine hKK.out _ _ hS1 (fun _ => ?_)
              clear hKK KK hS0
              have hS0 := hS1
              clear hS1
              obtain ⟨XI, hXI⟩ : ∃ X, wf.heap.size = X := ⟨_, rfl⟩
              rw [hXI] at HNi
              have HXd : Hid (wd9.heap.size ≤ XI) := hid (by rw [← hXI]; exact HGf.out.size)
              try rw [hXI]
              clear hXI
              generalize wf.alloc (.cells #[.int .i64 0, .int .i64 0, .int .i64 0, .int .i64 0, .int .u32 0] 36) = wg at HGg HNi hS0 ⊢
              try simp only [Act.put, List.setIfInBounds_toArray, List.set_cons_zero, List.set_cons_succ, List.getElem_toArray, List.getElem_cons_succ, List.getElem_cons_zero]
              refine wpAnyH_ready (rs := [13]) (by kernel_rfl) (by simp) ?_
              refine AllReadyH.cons rfl (fun KK hKK => ?_) AllReadyH.nil
              refine wp_store_row 36 (.tmp 14) (.tmp 73) rfl XI #[.int .i64 Oq, .int .i64 Ab, .int .i64 cw3, .int .i64 (K1 : Int), .int .u32 0] rfl rfl _ _ HNi.out.blk info_insF rfl (by simp [Value.oneCell']) ?_
              have HNj := hid (HNi.out.row #[.int .i64 Oq, .int .i64 Ab, .int .i64 cw3, .int .i64 (K1 : Int), .int .u32 0])
              have HGh := hid (grown_setRow HGg.out HXd.out #[.int .i64 Oq, .int .i64 Ab, .int .i64 cw3, .int .i64 (K1 : Int), .int .u32 0])
              have hS1 := HSf.out _ HGh.out
              refine hKK.out _ _ hS1 (fun _ => ?_)
              clear hKK KK hS0
              have hS0 := hS1
              clear hS1
              generalize wg.setRow XI #[.int .i64 Oq, .int .i64 Ab, .int .i64 cw3, .int .i64 (K1 : Int), .int .u32 0] = wh at HNj HGh hS0 ⊢
              try simp only [Act.put, List.getElem_toArray, List.getElem_cons_succ, List.getElem_cons_zero]
              refine wpAnyH_take (i := 14) (v := ?_) rfl (by kernel_rfl) (by kernel_rfl) (by kernel_rfl) (fun _ _ _ h => h) (Or.inl ⟨by kernel_rfl, ?_⟩) hS0 ?_
              rotate_left
              · (intro W hSw; clear hSw; go_simp; try with_reducible rfl)
              try simp only [Act.put, List.setIfInBounds_toArray, List.set_cons_zero, List.set_cons_succ, List.getElem_toArray, List.getElem_cons_succ, List.getElem_cons_zero]
              refine wpAnyH_done (by kernel_rfl) ?_ _
              refine hJ _ _ (Met.intro (hJ0 _ _ ?_))
              repeat apply Exists.intro
              refine ⟨?_, rfl⟩
              exact ⟨XI, rfl, rfl, hid ⟨HNj.out, grown_trans HG0.out HGh.out⟩⟩
            · go_simp
              have hal := World.grownBy_alloc wd9 (.cells #[.int .i64 0, .int .i64 0, .int .i64 0, .int .i64 0, .int .u32 0] 36) none
              have HGg := hid (hal)
              have HNi := hid (RwAt.new wd9 36 #[.int .i64 0, .int .i64 0, .int .i64 0, .int .i64 0, .int .u32 0])
              have hS1 := HSf.out _ HGg.out
              clear hal
              refine hKK.out _ _ hS1 (fun _ => ?_)
              clear hKK KK hS0
              have hS0 := hS1
              clear hS1
              obtain ⟨XI, hXI⟩ : ∃ X, wd9.heap.size = X := ⟨_, rfl⟩
              rw [hXI] at HNi
              have HXd : Hid (wd9.heap.size ≤ XI) := hid (by rw [← hXI]; exact Nat.le_refl _)
              try rw [hXI]
              clear hXI
              generalize wd9.alloc (.cells #[.int .i64 0, .int .i64 0, .int .i64 0, .int .i64 0, .int .u32 0] 36) = wg at HGg HNi hS0 ⊢
              try simp only [Act.put, List.setIfInBounds_toArray, List.set_cons_zero, List.set_cons_succ, List.getElem_toArray, List.getElem_cons_succ, List.getElem_cons_zero]
              refine wpAnyH_ready (rs := [8]) (by kernel_rfl) (by simp) ?_
              refine AllReadyH.cons rfl (fun KK hKK => ?_) AllReadyH.nil
              go_simp
              refine (HOf.out _).mono ?_; rintro e' wf ⟨rfl, hg⟩
              have HGf := hid (grown_trans HGg.out hg)
              have hS1 := HSf.out _ HGf.out
              have HNi2 := hid (HNi.out.kept0 hg)
              clear hg HNi
              have HNi := HNi2
              clear HNi2
              refine hKK.out _ _ hS1 (fun _ => ?_)
              clear hKK KK hS0
              have hS0 := hS1
              clear hS1
              try simp only [Act.put, List.setIfInBounds_toArray, List.set_cons_zero, List.set_cons_succ, List.getElem_toArray, List.getElem_cons_succ, List.getElem_cons_zero]
              refine wpAnyH_take (i := 9) (v := ?_) rfl (by kernel_rfl) (by kernel_rfl) (by kernel_rfl) (fun _ _ _ h => h) (Or.inl ⟨by kernel_rfl, ?_⟩) hS0 ?_
              rotate_left
              · (intro W hSw; clear hSw; go_simp; try with_reducible rfl)
              try simp only [Act.put, List.setIfInBounds_toArray, List.set_cons_zero, List.set_cons_succ, List.getElem_toArray, List.getElem_cons_succ, List.getElem_cons_zero]
              refine wpAnyH_take (i := 10) (v := ?_) rfl (by kernel_rfl) (by kernel_rfl) (by kernel_rfl) (fun _ _ _ h => h) (Or.inl ⟨by kernel_rfl, ?_⟩) hS0 ?_
              rotate_left
              · (intro W hSw; clear hSw; go_simp; try with_reducible rfl)
              try simp only [Act.put, List.setIfInBounds_toArray, List.set_cons_zero, List.set_cons_succ, List.getElem_toArray, List.getElem_cons_succ, List.getElem_cons_zero]
              refine wpAnyH_take (i := 11) (v := ?_) rfl (by kernel_rfl) (by kernel_rfl) (by kernel_rfl) (fun _ _ _ h => h) (Or.inl ⟨by kernel_rfl, ?_⟩) hS0 ?_
              rotate_left
              · (intro W hSw; clear hSw; go_simp; try with_reducible rfl)
              try simp only [Act.put, List.setIfInBounds_toArray, List.set_cons_zero, List.set_cons_succ, List.getElem_toArray, List.getElem_cons_succ, List.getElem_cons_zero]
              refine wpAnyH_ready (rs := [13]) (by kernel_rfl) (by simp) ?_
              refine AllReadyH.cons rfl (fun KK hKK => ?_) AllReadyH.nil
              refine wp_store_row 36 (.tmp 14) (.tmp 73) rfl XI #[.int .i64 Oq, .int .i64 Ab, .int .i64 cw3, .int .i64 (K1 : Int), .int .u32 0] rfl rfl _ _ HNi.out.blk info_insF rfl (by simp [Value.oneCell']) ?_
              have HNj := hid (HNi.out.row #[.int .i64 Oq, .int .i64 Ab, .int .i64 cw3, .int .i64 (K1 : Int), .int .u32 0])
              have HGh := hid (grown_setRow HGf.out HXd.out #[.int .i64 Oq, .int .i64 Ab, .int .i64 cw3, .int .i64 (K1 : Int), .int .u32 0])
              have hS1 := HSf.out _ HGh.out
              refine hKK.out _ _ hS1 (fun _ => ?_)
              clear hKK KK hS0
              have hS0 := hS1
              clear hS1
              generalize wf.setRow XI #[.int .i64 Oq, .int .i64 Ab, .int .i64 cw3, .int .i64 (K1 : Int), .int .u32 0] = wh at HNj HGh hS0 ⊢
              try simp only [Act.put, List.getElem_toArray, List.getElem_cons_succ, List.getElem_cons_zero]
              refine wpAnyH_take (i := 14) (v := ?_) rfl (by kernel_rfl) (by kernel_rfl) (by kernel_rfl) (fun _ _ _ h => h) (Or.inl ⟨by kernel_rfl, ?_⟩) hS0 ?_
              rotate_left
              · (intro W hSw; clear hSw; go_simp; try with_reducible rfl)
              try simp only [Act.put, List.setIfInBounds_toArray, List.set_cons_zero, List.set_cons_succ, List.getElem_toArray, List.getElem_cons_succ, List.getElem_cons_zero]
              refine wpAnyH_done (by kernel_rfl) ?_ _
              refine hJ _ _ (Met.intro (hJ0 _ _ ?_))
              repeat apply Exists.intro
              refine ⟨?_, rfl⟩
              exact ⟨XI, rfl, rfl, hid ⟨HNj.out, grown_trans HG0.out HGh.out⟩⟩
          case rest =>
            obtain ⟨XI, rfl, rfl, hc0⟩ := hcut
            have HNj := hid hc0.out.1
            have HGh := hid hc0.out.2
            clear hc0
            clear HOf
            have i1 := HNj.out.cell 1 (v := .int .i64 Ab) rfl
            go_upto_region 25 with (fail)
            clear i1
            have x2 := (HX.out.kept0 HGh.out).cell 2 (v := .slice (some ⟨gC, 0, none⟩) m cC) rfl
            have x4 := (HX.out.kept0 HGh.out).cell 4 (v := .slice q4 0 d4) rfl
            have j0 := HNj.out.cell 0 (v := .int .i64 Oq) rfl
            have j3 := HNj.out.cell 3 (v := .int .i64 (K1 : Int)) rfl
            have a0 := (HA6.out.kept0 HGh.out).cell b HOb.out
            have HGz := hid (grown_trans HG6.out HGh.out)
            go_big_quiet (fail)
            go_wp2
            go_ret
            exact ⟨rfl, grown_drewN HGz.out _⟩
        · obtain rfl := rndF_far (by omega) hK
          rw [if_neg (by rw [lngF_far (by omega) HNb.out.2]; simp)] at hJ
          obtain ⟨_, _, v1, vC, vd, vp, vs, rfl, hro, hg⟩ := hJ
          obtain ⟨i1, i2, i3, i4⟩ := imgF_far (n := k) (k := b) (by omega) HNb.out.2
          obtain ⟨I, hI⟩ : ∃ I, imgP (jnFar k b) 1 = I := ⟨_, rfl⟩
          rw [hI] at i1 i2 i3 i4 hro ⊢
          clear hI hK
          obtain ⟨x, hx⟩ : ∃ x, lgW (brW b) = x := ⟨_, rfl⟩
          obtain ⟨hxb, hx1, hx2, hx5⟩ := wF_far b Hb2.out
          have hx6 := iF_far (k := b) Hb2.out (2048 + (k : Int) + 2)
          rw [hx] at i2 hxb hx1 hx2 hx5 hx6
          obtain ⟨P1, hP1⟩ : ∃ P1 : Nat, 2048 + k = P1 := ⟨_, rfl⟩
          have hP1i : 2048 + (k : Int) = (P1 : Int) := by omega
          obtain ⟨y, hyN⟩ : ∃ y : Nat, P1 + 2 = y := ⟨_, rfl⟩
          have hyi : (P1 : Int) + 2 = (y : Int) := by omega
          rw [hP1i, hyi] at i3 hx6
          obtain ⟨Jb, hJb⟩ : ∃ J : Int, 19 + (b : Int) = J := ⟨_, rfl⟩
          have HLb2 := HLg.out
          rw [hJb] at HLb2 hx1
          have HLj := hid HLb2
          clear HLb2
          obtain ⟨K1, hK1⟩ : ∃ K1 : Nat, k + 1 = K1 := ⟨_, rfl⟩
          have hK1i : (k : Int) + 1 = (K1 : Int) := by omega
          obtain ⟨cw3, hc3⟩ : ∃ c3, x / 256 % 256 = c3 := ⟨_, rfl⟩
          obtain ⟨cw4, hc4⟩ : ∃ c4, x % 256 = c4 := ⟨_, rfl⟩
          have HOf : Hid (∀ w, Calls Tryd.prog 9 #[.int .u32 x, .int .u32 (y : Int)] w fun e w' => e = .returned (.tuple #[.agg #[.int .i64 Jb, .int .i64 Ab, .int .i64 cw3, .int .i64 cw4, .int .u32 (y : Int)], .bool true]) ∧ w.grownBy w' none) := hid (fun w => (rof_yes x y w hxb.1 hxb.2 hx6).mono (fun e w' h => ⟨by rw [h.1, wantImm_yes hx5, hx1, hx2, hc3, hc4, HAe.out], below_is_grown h.2⟩))
          have HMm : Hid (I.C.length = k + 3) := hid i1
          have HI0 := hid i2
          have HI1 := hid i3
          have HIp : Hid (I.pl = [1]) := hid i4
          have hKn : (127 : Int) < (K1 : Int) := by omega
          have HyN : Hid ((y : Int) < 4294967296 ∧ y = k + 2050) := hid (by have := HNb.out.2; omega)
          clear i1 i2 i3 i4 hx hxb hx1 hx2 hx5 hx6 hJb hc3 hc4 hK1 hP1 hyN
          have r1 := hro ⟨v1, 25, 1, I.D.length, I.D.map (Value.int .u32)⟩ (by simp [imRo])
          have r2 := hro ⟨vC, 25, 1, I.C.length, I.C.map (Value.int .u32)⟩ (by simp [imRo])
          have r3 := hro ⟨vd, 3, 1, I.dr.length, I.dr.map (Value.int .i64)⟩ (by simp [imRo])
          have r4 := hro ⟨vp, 3, 1, I.pl.length, I.pl.map (Value.int .i64)⟩ (by simp [imRo])
          have r5 := hro ⟨vs, 3, 1, I.st.length, I.st.map (Value.int .i64)⟩ (by simp [imRo])
          simp only at r1 r2 r3 r4 r5
          rw [HIp.out] at r4
          obtain ⟨q1, d1, e1⟩ := own_slice r1
          obtain ⟨gC, cC, e2⟩ := own_some r2 (by rw [HMm.out]; omega)
          obtain ⟨q3, d3, e3⟩ := own_slice r3
          obtain ⟨q4, d4, e4⟩ := own_slice r4
          obtain ⟨q5, d5, e5⟩ := own_slice r5
          obtain ⟨n1, hn1⟩ : ∃ n, I.D.length = n := ⟨_, rfl⟩
          obtain ⟨m, hm⟩ : ∃ n, I.C.length = n := ⟨_, rfl⟩
          obtain ⟨n3, hn3⟩ : ∃ n, I.dr.length = n := ⟨_, rfl⟩
          obtain ⟨n5, hn5⟩ : ∃ n, I.st.length = n := ⟨_, rfl⟩
          have hmk : (k : Int) + 3 = (m : Int) := by have := HMm.out; omega
          have m0 : (1 : Int) < (m : Int) := by omega
          have m2 : (0 : Int) < (m : Int) := by omega
          have m1 : (m : Int) ≤ 200 := by omega
          rw [hn1] at e1
          rw [hm] at e2 r2
          rw [hn3] at e3
          simp only [List.length_nil, List.length_cons] at e4
          rw [hn5] at e5
          subst e1 e2 e3 e4 e5
          obtain ⟨e0, he0⟩ : ∃ e, I.e = e := ⟨_, rfl⟩
          rw [he0]
          have hal := World.grownBy_alloc w6 (.cells #[.int .u32 e0, .slice q1 n1 d1, .slice (some ⟨gC, 0, none⟩) m cC, .slice q3 n3 d3, .slice q4 1 d4, .slice q5 n5 d5] 29) none
          have HG6 := hid (grown_trans HG5.out (grown_trans hg hal))
          have HX := hid (RwAt.new w6 29 #[.int .u32 e0, .slice q1 n1 d1, .slice (some ⟨gC, 0, none⟩) m cC, .slice q3 n3 d3, .slice q4 1 d4, .slice q5 n5 d5])
          have HRc := hid (own_keep0 r2 hal)
          have HRp := hid (own_keep0 r4 hal)
          have HA6 := hid (HA5.out.kept0 (grown_trans hg hal))
          have HB6 := hid (HB5.out.kept0 (grown_trans hg hal))
          have Hzi := zero_image
          clear r1 r2 r3 r4 r5 hro hg hal hn1 hm hn3 hn5 he0 HG5 HA5 HB5 hfar
          go_upto_region 21 with (fail)
          clear Hzi
          obtain ⟨X, hX⟩ : ∃ X, w6.heap.size = X := ⟨_, rfl⟩
          rw [hX] at HX ⊢
          clear hX
          generalize w6.alloc (.cells #[.int .u32 e0, .slice q1 n1 d1, .slice (some ⟨gC, 0, none⟩) m cC, .slice q3 n3 d3, .slice q4 1 d4, .slice q5 n5 d5] 29) = w8 at HX HG6 HRc HRp HA6 HB6 ⊢
          go_cut [14, 15] from 16 (fun u14 u15 wz => ∃ XI, u14 = .pointer (some ⟨XI, 0, none⟩) ∧ u15 = .bool true ∧ Hid (RwAt wz XI 36 #[.int .i64 Jb, .int .i64 Ab, .int .i64 cw3, .int .i64 cw4, .int .u32 (y : Int)] ∧ w8.grownBy wz none))
          case first =>
            rename_i hJ0 hJ
            have hg0 : w8.grownBy w8.drew none := grown_drew (grown_refl _ none)
            have HX9 := hid (HX.out.kept0 hg0)
            have HRc9 := hid (own_keep0 HRc.out hg0)
            have hm0 : 0 < m := by omega
            have hm1 : 1 < m := by omega
            have HSf : Hid (∀ W, w8.drew.grownBy W none → W.cell? ⟨X, 2, none⟩ = some (.slice (some ⟨gC, 0, none⟩) m cC) ∧ W.cell? ⟨gC, 0, none⟩ = some (.int .u32 x) ∧ W.cell? ⟨gC, 1, none⟩ = some (.int .u32 (y : Int))) := hid (fun W h => ⟨(HX9.out.kept0 h).cell 2 rfl, ((own_keep0 HRc9.out h).cellAt 0 (by omega)).trans (by rw [List.getElem?_map, HI0.out]; rfl), ((own_keep0 HRc9.out h).cellAt 1 (by omega)).trans (by rw [List.getElem?_map, HI1.out]; rfl)⟩)
            refine wp_region_held_drew (S := fun W => W.cell? ⟨X, 2, none⟩ = some (.slice (some ⟨gC, 0, none⟩) m cC) ∧ W.cell? ⟨gC, 0, none⟩ = some (.int .u32 x) ∧ W.cell? ⟨gC, 1, none⟩ = some (.int .u32 (y : Int))) (by kernel_rfl) (HSf.out _ (grown_refl _ none)) (fun hS0 => ?_)
            have HG0 := hid hg0
            clear hg0 HX HG6 HRc HRp HA6 HB6
            generalize w8.drew = wd9 at HX9 HRc9 HSf HG0 hS0 ⊢
            have Hzn := zero_insF
            refine wpAnyH_take (i := 0) (v := ?_) rfl (by kernel_rfl) (by kernel_rfl) (by kernel_rfl) (fun _ _ _ h => h) (Or.inl ⟨by kernel_rfl, ?_⟩) hS0 ?_
            rotate_left
            · (intro W hSw; clear hSw; go_simp; try with_reducible rfl)
            try simp only [Act.put, List.setIfInBounds_toArray, List.set_cons_zero, List.set_cons_succ, List.getElem_toArray, List.getElem_cons_zero]
            refine wpAnyH_take (i := 1) (v := ?_) rfl (by kernel_rfl) (by kernel_rfl) (by kernel_rfl) (fun _ _ _ h => h) (Or.inl ⟨by kernel_rfl, ?_⟩) hS0 ?_
            rotate_left
            · (intro W hSw; have hc := hSw.1; clear hSw; go_simp; try with_reducible rfl)
            try simp only [Act.put, List.setIfInBounds_toArray, List.set_cons_zero, List.set_cons_succ, List.getElem_toArray, List.getElem_cons_succ, List.getElem_cons_zero]
            refine wpAnyH_take (i := 2) (v := ?_) rfl (by kernel_rfl) (by kernel_rfl) (by kernel_rfl) (fun _ _ _ h => h) (Or.inl ⟨by kernel_rfl, ?_⟩) hS0 ?_
            rotate_left
            · (intro W hSw; clear hSw; go_simp; try with_reducible rfl)
            try simp only [Act.put, List.setIfInBounds_toArray, List.set_cons_zero, List.set_cons_succ, List.getElem_toArray, List.getElem_cons_succ, List.getElem_cons_zero]
            refine wpAnyH_take (i := 3) (v := ?_) rfl (by kernel_rfl) (by kernel_rfl) (by kernel_rfl) (fun _ _ _ h => h) (Or.inl ⟨by kernel_rfl, ?_⟩) hS0 ?_
            rotate_left
            · (intro W hSw; have hc := hSw.2.1; clear hSw; go_simp; try with_reducible rfl)
            try simp only [Act.put, List.setIfInBounds_toArray, List.set_cons_zero, List.set_cons_succ, List.getElem_toArray, List.getElem_cons_succ, List.getElem_cons_zero]
            refine wpAnyH_take (i := 4) (v := ?_) rfl (by kernel_rfl) (by kernel_rfl) (by kernel_rfl) (fun _ _ _ h => h) (Or.inl ⟨by kernel_rfl, ?_⟩) hS0 ?_
            rotate_left
            · (intro W hSw; clear hSw; go_simp; try with_reducible rfl)
            try simp only [Act.put, List.setIfInBounds_toArray, List.set_cons_zero, List.set_cons_succ, List.getElem_toArray, List.getElem_cons_succ, List.getElem_cons_zero]
            refine wpAnyH_take (i := 5) (v := ?_) rfl (by kernel_rfl) (by kernel_rfl) (by kernel_rfl) (fun _ _ _ h => h) (Or.inl ⟨by kernel_rfl, ?_⟩) hS0 ?_
            rotate_left
            · (intro W hSw; have hc := hSw.1; clear hSw; go_simp; try with_reducible rfl)
            try simp only [Act.put, List.setIfInBounds_toArray, List.set_cons_zero, List.set_cons_succ, List.getElem_toArray, List.getElem_cons_succ, List.getElem_cons_zero]
            refine wpAnyH_take (i := 6) (v := ?_) rfl (by kernel_rfl) (by kernel_rfl) (by kernel_rfl) (fun _ _ _ h => h) (Or.inl ⟨by kernel_rfl, ?_⟩) hS0 ?_
            rotate_left
            · (intro W hSw; clear hSw; go_simp; try with_reducible rfl)
            try simp only [Act.put, List.setIfInBounds_toArray, List.set_cons_zero, List.set_cons_succ, List.getElem_toArray, List.getElem_cons_succ, List.getElem_cons_zero]
            refine wpAnyH_take (i := 7) (v := ?_) rfl (by kernel_rfl) (by kernel_rfl) (by kernel_rfl) (fun _ _ _ h => h) (Or.inl ⟨by kernel_rfl, ?_⟩) hS0 ?_
            rotate_left
            · (intro W hSw; have hc := hSw.2.2; clear hSw; go_simp; try with_reducible rfl)
            try simp only [Act.put, List.setIfInBounds_toArray, List.set_cons_zero, List.set_cons_succ, List.getElem_toArray, List.getElem_cons_succ, List.getElem_cons_zero]
            refine wpAnyH_ready (rs := [8, 12]) (by kernel_rfl) (by simp) ?_
            refine AllReadyH.cons rfl (fun KK hKK => ?_) (AllReadyH.cons rfl (fun KK hKK => ?_) AllReadyH.nil)
            · go_simp
              refine (HOf.out _).mono ?_; rintro e' wf ⟨rfl, hg⟩
              have HGf := hid (hg)
              have hS1 := HSf.out _ HGf.out
              clear hg
              refine hKK.out _ _ hS1 (fun _ => ?_)
              clear hKK KK hS0
              have hS0 := hS1
              clear hS1
              try simp only [Act.put, List.setIfInBounds_toArray, List.set_cons_zero, List.set_cons_succ, List.getElem_toArray, List.getElem_cons_succ, List.getElem_cons_zero]
              refine wpAnyH_take (i := 9) (v := ?_) rfl (by kernel_rfl) (by kernel_rfl) (by kernel_rfl) (fun _ _ _ h => h) (Or.inl ⟨by kernel_rfl, ?_⟩) hS0 ?_
              rotate_left
              · (intro W hSw; clear hSw; go_simp; try with_reducible rfl)
              try simp only [Act.put, List.setIfInBounds_toArray, List.set_cons_zero, List.set_cons_succ, List.getElem_toArray, List.getElem_cons_succ, List.getElem_cons_zero]
              refine wpAnyH_take (i := 10) (v := ?_) rfl (by kernel_rfl) (by kernel_rfl) (by kernel_rfl) (fun _ _ _ h => h) (Or.inl ⟨by kernel_rfl, ?_⟩) hS0 ?_
              rotate_left
              · (intro W hSw; clear hSw; go_simp; try with_reducible rfl)
              try simp only [Act.put, List.setIfInBounds_toArray, List.set_cons_zero, List.set_cons_succ, List.getElem_toArray, List.getElem_cons_succ, List.getElem_cons_zero]
              refine wpAnyH_take (i := 11) (v := ?_) rfl (by kernel_rfl) (by kernel_rfl) (by kernel_rfl) (fun _ _ _ h => h) (Or.inl ⟨by kernel_rfl, ?_⟩) hS0 ?_
              rotate_left
              · (intro W hSw; clear hSw; go_simp; try with_reducible rfl)
              try simp only [Act.put, List.setIfInBounds_toArray, List.set_cons_zero, List.set_cons_succ, List.getElem_toArray, List.getElem_cons_succ, List.getElem_cons_zero]
              refine wpAnyH_ready (rs := [12]) (by kernel_rfl) (by simp) ?_
              refine AllReadyH.cons rfl (fun KK hKK => ?_) AllReadyH.nil
              go_simp
              have hal := World.grownBy_alloc wf (.cells #[.int .i64 0, .int .i64 0, .int .i64 0, .int .i64 0, .int .u32 0] 36) none
              have HGg := hid (grown_trans HGf.out hal)
              have HNi := hid (RwAt.new wf 36 #[.int .i64 0, .int .i64 0, .int .i64 0, .int .i64 0, .int .u32 0])
              have hS1 := HSf.out _ HGg.out
              clear hal
              refine hKK.out _ _ hS1 (fun _ => ?_)
              clear hKK KK hS0
              have hS0 := hS1
              clear hS1
              obtain ⟨XI, hXI⟩ : ∃ X, wf.heap.size = X := ⟨_, rfl⟩
              rw [hXI] at HNi
              have HXd : Hid (wd9.heap.size ≤ XI) := hid (by rw [← hXI]; exact HGf.out.size)
              try rw [hXI]
              clear hXI
              generalize wf.alloc (.cells #[.int .i64 0, .int .i64 0, .int .i64 0, .int .i64 0, .int .u32 0] 36) = wg at HGg HNi hS0 ⊢
              try simp only [Act.put, List.setIfInBounds_toArray, List.set_cons_zero, List.set_cons_succ, List.getElem_toArray, List.getElem_cons_succ, List.getElem_cons_zero]
              refine wpAnyH_ready (rs := [13]) (by kernel_rfl) (by simp) ?_
              refine AllReadyH.cons rfl (fun KK hKK => ?_) AllReadyH.nil
              refine wp_store_row 36 (.tmp 14) (.tmp 73) rfl XI #[.int .i64 Jb, .int .i64 Ab, .int .i64 cw3, .int .i64 cw4, .int .u32 (y : Int)] rfl rfl _ _ HNi.out.blk info_insF rfl (by simp [Value.oneCell']) ?_
              have HNj := hid (HNi.out.row #[.int .i64 Jb, .int .i64 Ab, .int .i64 cw3, .int .i64 cw4, .int .u32 (y : Int)])
              have HGh := hid (grown_setRow HGg.out HXd.out #[.int .i64 Jb, .int .i64 Ab, .int .i64 cw3, .int .i64 cw4, .int .u32 (y : Int)])
              have hS1 := HSf.out _ HGh.out
              refine hKK.out _ _ hS1 (fun _ => ?_)
              clear hKK KK hS0
              have hS0 := hS1
              clear hS1
              generalize wg.setRow XI #[.int .i64 Jb, .int .i64 Ab, .int .i64 cw3, .int .i64 cw4, .int .u32 (y : Int)] = wh at HNj HGh hS0 ⊢
              try simp only [Act.put, List.getElem_toArray, List.getElem_cons_succ, List.getElem_cons_zero]
              refine wpAnyH_take (i := 14) (v := ?_) rfl (by kernel_rfl) (by kernel_rfl) (by kernel_rfl) (fun _ _ _ h => h) (Or.inl ⟨by kernel_rfl, ?_⟩) hS0 ?_
              rotate_left
              · (intro W hSw; clear hSw; go_simp; try with_reducible rfl)
              try simp only [Act.put, List.setIfInBounds_toArray, List.set_cons_zero, List.set_cons_succ, List.getElem_toArray, List.getElem_cons_succ, List.getElem_cons_zero]
              refine wpAnyH_done (by kernel_rfl) ?_ _
              refine hJ _ _ (Met.intro (hJ0 _ _ ?_))
              repeat apply Exists.intro
              refine ⟨?_, rfl⟩
              exact ⟨XI, rfl, rfl, hid ⟨HNj.out, grown_trans HG0.out HGh.out⟩⟩
            · go_simp
              have hal := World.grownBy_alloc wd9 (.cells #[.int .i64 0, .int .i64 0, .int .i64 0, .int .i64 0, .int .u32 0] 36) none
              have HGg := hid (hal)
              have HNi := hid (RwAt.new wd9 36 #[.int .i64 0, .int .i64 0, .int .i64 0, .int .i64 0, .int .u32 0])
              have hS1 := HSf.out _ HGg.out
              clear hal
              refine hKK.out _ _ hS1 (fun _ => ?_)
              clear hKK KK hS0
              have hS0 := hS1
              clear hS1
              obtain ⟨XI, hXI⟩ : ∃ X, wd9.heap.size = X := ⟨_, rfl⟩
              rw [hXI] at HNi
              have HXd : Hid (wd9.heap.size ≤ XI) := hid (by rw [← hXI]; exact Nat.le_refl _)
              try rw [hXI]
              clear hXI
              generalize wd9.alloc (.cells #[.int .i64 0, .int .i64 0, .int .i64 0, .int .i64 0, .int .u32 0] 36) = wg at HGg HNi hS0 ⊢
              try simp only [Act.put, List.setIfInBounds_toArray, List.set_cons_zero, List.set_cons_succ, List.getElem_toArray, List.getElem_cons_succ, List.getElem_cons_zero]
              refine wpAnyH_ready (rs := [8]) (by kernel_rfl) (by simp) ?_
              refine AllReadyH.cons rfl (fun KK hKK => ?_) AllReadyH.nil
              go_simp
              refine (HOf.out _).mono ?_; rintro e' wf ⟨rfl, hg⟩
              have HGf := hid (grown_trans HGg.out hg)
              have hS1 := HSf.out _ HGf.out
              have HNi2 := hid (HNi.out.kept0 hg)
              clear hg HNi
              have HNi := HNi2
              clear HNi2
              refine hKK.out _ _ hS1 (fun _ => ?_)
              clear hKK KK hS0
              have hS0 := hS1
              clear hS1
              try simp only [Act.put, List.setIfInBounds_toArray, List.set_cons_zero, List.set_cons_succ, List.getElem_toArray, List.getElem_cons_succ, List.getElem_cons_zero]
              refine wpAnyH_take (i := 9) (v := ?_) rfl (by kernel_rfl) (by kernel_rfl) (by kernel_rfl) (fun _ _ _ h => h) (Or.inl ⟨by kernel_rfl, ?_⟩) hS0 ?_
              rotate_left
              · (intro W hSw; clear hSw; go_simp; try with_reducible rfl)
              try simp only [Act.put, List.setIfInBounds_toArray, List.set_cons_zero, List.set_cons_succ, List.getElem_toArray, List.getElem_cons_succ, List.getElem_cons_zero]
              refine wpAnyH_take (i := 10) (v := ?_) rfl (by kernel_rfl) (by kernel_rfl) (by kernel_rfl) (fun _ _ _ h => h) (Or.inl ⟨by kernel_rfl, ?_⟩) hS0 ?_
              rotate_left
              · (intro W hSw; clear hSw; go_simp; try with_reducible rfl)
              try simp only [Act.put, List.setIfInBounds_toArray, List.set_cons_zero, List.set_cons_succ, List.getElem_toArray, List.getElem_cons_succ, List.getElem_cons_zero]
              refine wpAnyH_take (i := 11) (v := ?_) rfl (by kernel_rfl) (by kernel_rfl) (by kernel_rfl) (fun _ _ _ h => h) (Or.inl ⟨by kernel_rfl, ?_⟩) hS0 ?_
              rotate_left
              · (intro W hSw; clear hSw; go_simp; try with_reducible rfl)
              try simp only [Act.put, List.setIfInBounds_toArray, List.set_cons_zero, List.set_cons_succ, List.getElem_toArray, List.getElem_cons_succ, List.getElem_cons_zero]
              refine wpAnyH_ready (rs := [13]) (by kernel_rfl) (by simp) ?_
              refine AllReadyH.cons rfl (fun KK hKK => ?_) AllReadyH.nil
              refine wp_store_row 36 (.tmp 14) (.tmp 73) rfl XI #[.int .i64 Jb, .int .i64 Ab, .int .i64 cw3, .int .i64 cw4, .int .u32 (y : Int)] rfl rfl _ _ HNi.out.blk info_insF rfl (by simp [Value.oneCell']) ?_
              have HNj := hid (HNi.out.row #[.int .i64 Jb, .int .i64 Ab, .int .i64 cw3, .int .i64 cw4, .int .u32 (y : Int)])
              have HGh := hid (grown_setRow HGf.out HXd.out #[.int .i64 Jb, .int .i64 Ab, .int .i64 cw3, .int .i64 cw4, .int .u32 (y : Int)])
              have hS1 := HSf.out _ HGh.out
              refine hKK.out _ _ hS1 (fun _ => ?_)
              clear hKK KK hS0
              have hS0 := hS1
              clear hS1
              generalize wf.setRow XI #[.int .i64 Jb, .int .i64 Ab, .int .i64 cw3, .int .i64 cw4, .int .u32 (y : Int)] = wh at HNj HGh hS0 ⊢
              try simp only [Act.put, List.getElem_toArray, List.getElem_cons_succ, List.getElem_cons_zero]
              refine wpAnyH_take (i := 14) (v := ?_) rfl (by kernel_rfl) (by kernel_rfl) (by kernel_rfl) (fun _ _ _ h => h) (Or.inl ⟨by kernel_rfl, ?_⟩) hS0 ?_
              rotate_left
              · (intro W hSw; clear hSw; go_simp; try with_reducible rfl)
              try simp only [Act.put, List.setIfInBounds_toArray, List.set_cons_zero, List.set_cons_succ, List.getElem_toArray, List.getElem_cons_succ, List.getElem_cons_zero]
              refine wpAnyH_done (by kernel_rfl) ?_ _
              refine hJ _ _ (Met.intro (hJ0 _ _ ?_))
              repeat apply Exists.intro
              refine ⟨?_, rfl⟩
              exact ⟨XI, rfl, rfl, hid ⟨HNj.out, grown_trans HG0.out HGh.out⟩⟩
          case rest =>
            obtain ⟨XI, rfl, rfl, hc0⟩ := hcut
            have HNj := hid hc0.out.1
            have HGh := hid hc0.out.2
            clear hc0
            clear HOf
            have i1 := HNj.out.cell 1 (v := .int .i64 Ab) rfl
            go_upto_region 26 with (fail)
            clear i1
            have hg0 : wc.grownBy wc.drew none := grown_drew (grown_refl _ none)
            have hgd := grown_trans HGh.out hg0
            have HXg := hid (HX.out.kept0 hgd)
            have HNg := hid (HNj.out.kept0 hg0)
            have HBg := hid (HB6.out.kept0 hgd)
            have HRg := hid (own_keep0 HRp.out hgd)
            have HGg := hid (grown_trans HG6.out hgd)
            have hwm : IntKind.i64.wrap (m : Int) = (m : Int) := by rw [IntKind.wrap_i64]; omega
            have hwP : IntKind.i64.wrap (P1 : Int) = (P1 : Int) := by rw [IntKind.wrap_i64]; omega
            have hwy : IntKind.i64.wrap (y : Int) = (y : Int) := by rw [IntKind.wrap_i64]; omega
            have hwu : IntKind.u32.wrap (y : Int) = (y : Int) := by rw [IntKind.wrap_u32]; omega
            have hwu2 : (y : Int) % 4294967296 = (y : Int) := by omega
            have hb3 : b < 3 := by omega
            have HSf : Hid (∀ W, wc.drew.grownBy W none → W.cell? ⟨X, 2, none⟩ = some (.slice (some ⟨gC, 0, none⟩) m cC) ∧ W.cell? ⟨XI, 0, none⟩ = some (.int .i64 Jb) ∧ W.cell? ⟨G1 + 1, b, none⟩ = some (.int .i64 Jb) ∧ W.cell? ⟨XI, 4, none⟩ = some (.int .u32 (y : Int)) ∧ W.cell? ⟨X, 4, none⟩ = some (.slice q4 1 d4)) := hid (fun W h => ⟨(HXg.out.kept0 h).cell 2 rfl, (HNg.out.kept0 h).cell 0 rfl, (HBg.out.kept0 h).cell b HLj.out, (HNg.out.kept0 h).cell 4 rfl, (HXg.out.kept0 h).cell 4 rfl⟩)
            refine wp_region_held_drew (S := fun W => W.cell? ⟨X, 2, none⟩ = some (.slice (some ⟨gC, 0, none⟩) m cC) ∧ W.cell? ⟨XI, 0, none⟩ = some (.int .i64 Jb) ∧ W.cell? ⟨G1 + 1, b, none⟩ = some (.int .i64 Jb) ∧ W.cell? ⟨XI, 4, none⟩ = some (.int .u32 (y : Int)) ∧ W.cell? ⟨X, 4, none⟩ = some (.slice q4 1 d4)) (by kernel_rfl) (HSf.out _ (grown_refl _ none)) (fun hS0 => ?_)
            clear hg0 hgd HX HNj HB6 HRp HG6 HGh
            generalize wc.drew = we at HXg HNg HBg HRg HGg HSf hS0 ⊢
            refine wpAnyH_take (i := 0) (v := ?_) rfl (by kernel_rfl) (by kernel_rfl) (by kernel_rfl) (fun _ _ _ h => h) (Or.inl ⟨by kernel_rfl, ?_⟩) hS0 ?_
            rotate_left
            · (intro W hSw; clear hSw; go_simp; try with_reducible rfl)
            try simp only [Act.put, List.setIfInBounds_toArray, List.set_cons_zero, List.set_cons_succ, List.getElem_toArray, List.getElem_cons_zero]
            refine wpAnyH_take (i := 1) (v := ?_) rfl (by kernel_rfl) (by kernel_rfl) (by kernel_rfl) (fun _ _ _ h => h) (Or.inl ⟨by kernel_rfl, ?_⟩) hS0 ?_
            rotate_left
            · (intro W hSw; clear hSw; go_simp; try with_reducible rfl)
            try simp only [Act.put, List.setIfInBounds_toArray, List.set_cons_zero, List.set_cons_succ, List.getElem_toArray, List.getElem_cons_succ, List.getElem_cons_zero]
            refine wpAnyH_take (i := 2) (v := ?_) rfl (by kernel_rfl) (by kernel_rfl) (by kernel_rfl) (fun _ _ _ h => h) (Or.inl ⟨by kernel_rfl, ?_⟩) hS0 ?_
            rotate_left
            · (intro W hSw; clear hSw; go_simp; try with_reducible rfl)
            try simp only [Act.put, List.setIfInBounds_toArray, List.set_cons_zero, List.set_cons_succ, List.getElem_toArray, List.getElem_cons_succ, List.getElem_cons_zero]
            refine wpAnyH_take (i := 3) (v := ?_) rfl (by kernel_rfl) (by kernel_rfl) (by kernel_rfl) (fun _ _ _ h => h) (Or.inl ⟨by kernel_rfl, ?_⟩) hS0 ?_
            rotate_left
            · (intro W hSw; have hc := hSw.1; clear hSw; go_simp; try with_reducible rfl)
            try simp only [Act.put, List.setIfInBounds_toArray, List.set_cons_zero, List.set_cons_succ, List.getElem_toArray, List.getElem_cons_succ, List.getElem_cons_zero]
            refine wpAnyH_take (i := 4) (v := ?_) rfl (by kernel_rfl) (by kernel_rfl) (by kernel_rfl) (fun _ _ _ h => h) (Or.inl ⟨by kernel_rfl, ?_⟩) hS0 ?_
            rotate_left
            · (intro W hSw; clear hSw; go_simp; try with_reducible rfl)
            try simp only [Act.put, List.setIfInBounds_toArray, List.set_cons_zero, List.set_cons_succ, List.getElem_toArray, List.getElem_cons_succ, List.getElem_cons_zero]
            refine wpAnyH_take (i := 5) (v := ?_) rfl (by kernel_rfl) (by kernel_rfl) (by kernel_rfl) (fun _ _ _ h => h) (Or.inl ⟨by kernel_rfl, ?_⟩) hS0 ?_
            rotate_left
            · (intro W hSw; clear hSw; go_simp; try with_reducible rfl)
            try simp only [Act.put, List.setIfInBounds_toArray, List.set_cons_zero, List.set_cons_succ, List.getElem_toArray, List.getElem_cons_succ, List.getElem_cons_zero]
            refine wpAnyH_take (i := 6) (v := ?_) rfl (by kernel_rfl) (by kernel_rfl) (by kernel_rfl) (fun _ _ _ h => h) (Or.inl ⟨by kernel_rfl, ?_⟩) hS0 ?_
            rotate_left
            · (intro W hSw; clear hSw; go_simp; try with_reducible rfl)
            try simp only [Act.put, List.setIfInBounds_toArray, List.set_cons_zero, List.set_cons_succ, List.getElem_toArray, List.getElem_cons_succ, List.getElem_cons_zero]
            refine wpAnyH_take (i := 7) (v := ?_) rfl (by kernel_rfl) (by kernel_rfl) (by kernel_rfl) (fun _ _ _ h => h) (Or.inl ⟨by kernel_rfl, ?_⟩) hS0 ?_
            rotate_left
            · (intro W hSw; clear hSw; go_simp; try with_reducible rfl)
            try simp only [Act.put, List.setIfInBounds_toArray, List.set_cons_zero, List.set_cons_succ, List.getElem_toArray, List.getElem_cons_succ, List.getElem_cons_zero]
            refine wpAnyH_take (i := 8) (v := ?_) rfl (by kernel_rfl) (by kernel_rfl) (by kernel_rfl) (fun _ _ _ h => h) (Or.inl ⟨by kernel_rfl, ?_⟩) hS0 ?_
            rotate_left
            · (intro W hSw; clear hSw; go_simp; try with_reducible rfl)
            try simp only [Act.put, List.setIfInBounds_toArray, List.set_cons_zero, List.set_cons_succ, List.getElem_toArray, List.getElem_cons_succ, List.getElem_cons_zero]
            refine wpAnyH_take (i := 9) (v := ?_) rfl (by kernel_rfl) (by kernel_rfl) (by kernel_rfl) (fun _ _ _ h => h) (Or.inl ⟨by kernel_rfl, ?_⟩) hS0 ?_
            rotate_left
            · (intro W hSw; clear hSw; go_simp; try with_reducible rfl)
            try simp only [Act.put, List.setIfInBounds_toArray, List.set_cons_zero, List.set_cons_succ, List.getElem_toArray, List.getElem_cons_succ, List.getElem_cons_zero]
            refine wpAnyH_take (i := 10) (v := ?_) rfl (by kernel_rfl) (by kernel_rfl) (by kernel_rfl) (fun _ _ _ h => h) (Or.inl ⟨by kernel_rfl, ?_⟩) hS0 ?_
            rotate_left
            · (intro W hSw; clear hSw; go_simp; try with_reducible rfl)
            try simp only [Act.put, List.setIfInBounds_toArray, List.set_cons_zero, List.set_cons_succ, List.getElem_toArray, List.getElem_cons_succ, List.getElem_cons_zero]
            refine wpAnyH_take (i := 11) (v := ?_) rfl (by kernel_rfl) (by kernel_rfl) (by kernel_rfl) (fun _ _ _ h => h) (Or.inl ⟨by kernel_rfl, ?_⟩) hS0 ?_
            rotate_left
            · (intro W hSw; have hc := hSw.2.1; clear hSw; go_simp; try with_reducible rfl)
            try simp only [Act.put, List.setIfInBounds_toArray, List.set_cons_zero, List.set_cons_succ, List.getElem_toArray, List.getElem_cons_succ, List.getElem_cons_zero]
            refine wpAnyH_take (i := 12) (v := ?_) rfl (by kernel_rfl) (by kernel_rfl) (by kernel_rfl) (fun _ _ _ h => h) (Or.inl ⟨by kernel_rfl, ?_⟩) hS0 ?_
            rotate_left
            · (intro W hSw; clear hSw; go_simp; try with_reducible rfl)
            try simp only [Act.put, List.setIfInBounds_toArray, List.set_cons_zero, List.set_cons_succ, List.getElem_toArray, List.getElem_cons_succ, List.getElem_cons_zero]
            refine wpAnyH_take (i := 13) (v := ?_) rfl (by kernel_rfl) (by kernel_rfl) (by kernel_rfl) (fun _ _ _ h => h) (Or.inl ⟨by kernel_rfl, ?_⟩) hS0 ?_
            rotate_left
            · (intro W hSw; clear hSw; go_simp; try with_reducible rfl)
            try simp only [Act.put, List.setIfInBounds_toArray, List.set_cons_zero, List.set_cons_succ, List.getElem_toArray, List.getElem_cons_succ, List.getElem_cons_zero]
            refine wpAnyH_take (i := 14) (v := ?_) rfl (by kernel_rfl) (by kernel_rfl) (by kernel_rfl) (fun _ _ _ h => h) (Or.inl ⟨by kernel_rfl, ?_⟩) hS0 ?_
            rotate_left
            · (intro W hSw; clear hSw; go_simp; try with_reducible rfl)
            try simp only [Act.put, List.setIfInBounds_toArray, List.set_cons_zero, List.set_cons_succ, List.getElem_toArray, List.getElem_cons_succ, List.getElem_cons_zero]
            refine wpAnyH_take (i := 15) (v := ?_) rfl (by kernel_rfl) (by kernel_rfl) (by kernel_rfl) (fun _ _ _ h => h) (Or.inl ⟨by kernel_rfl, ?_⟩) hS0 ?_
            rotate_left
            · (intro W hSw; have hc := hSw.2.2.1; clear hSw; go_simp; try with_reducible rfl)
            try simp only [Act.put, List.setIfInBounds_toArray, List.set_cons_zero, List.set_cons_succ, List.getElem_toArray, List.getElem_cons_succ, List.getElem_cons_zero]
            refine wpAnyH_take (i := 16) (v := ?_) rfl (by kernel_rfl) (by kernel_rfl) (by kernel_rfl) (fun _ _ _ h => h) (Or.inl ⟨by kernel_rfl, ?_⟩) hS0 ?_
            rotate_left
            · (intro W hSw; clear hSw; go_simp; try with_reducible rfl)
            try simp only [Act.put, List.setIfInBounds_toArray, List.set_cons_zero, List.set_cons_succ, List.getElem_toArray, List.getElem_cons_succ, List.getElem_cons_zero]
            refine wpAnyH_take (i := 17) (v := ?_) rfl (by kernel_rfl) (by kernel_rfl) (by kernel_rfl) (fun _ _ _ h => h) (Or.inl ⟨by kernel_rfl, ?_⟩) hS0 ?_
            rotate_left
            · (intro W hSw; clear hSw; go_simp; try with_reducible rfl)
            try simp only [Act.put, List.setIfInBounds_toArray, List.set_cons_zero, List.set_cons_succ, List.getElem_toArray, List.getElem_cons_succ, List.getElem_cons_zero]
            refine wpAnyH_take (i := 18) (v := ?_) rfl (by kernel_rfl) (by kernel_rfl) (by kernel_rfl) (fun _ _ _ h => h) (Or.inl ⟨by kernel_rfl, ?_⟩) hS0 ?_
            rotate_left
            · (intro W hSw; clear hSw; go_simp; try with_reducible rfl)
            try simp only [Act.put, List.setIfInBounds_toArray, List.set_cons_zero, List.set_cons_succ, List.getElem_toArray, List.getElem_cons_succ, List.getElem_cons_zero]
            refine wpAnyH_take (i := 19) (v := ?_) rfl (by kernel_rfl) (by kernel_rfl) (by kernel_rfl) (fun _ _ _ h => h) (Or.inl ⟨by kernel_rfl, ?_⟩) hS0 ?_
            rotate_left
            · (intro W hSw; clear hSw; go_simp; try with_reducible rfl)
            try simp only [Act.put, List.setIfInBounds_toArray, List.set_cons_zero, List.set_cons_succ, List.getElem_toArray, List.getElem_cons_succ, List.getElem_cons_zero]
            refine wpAnyH_take (i := 20) (v := ?_) rfl (by kernel_rfl) (by kernel_rfl) (by kernel_rfl) (fun _ _ _ h => h) (Or.inl ⟨by kernel_rfl, ?_⟩) hS0 ?_
            rotate_left
            · (intro W hSw; have hc := hSw.2.2.2.1; clear hSw; go_simp; try with_reducible rfl)
            try simp only [Act.put, List.setIfInBounds_toArray, List.set_cons_zero, List.set_cons_succ, List.getElem_toArray, List.getElem_cons_succ, List.getElem_cons_zero]
            refine wpAnyH_take (i := 21) (v := ?_) rfl (by kernel_rfl) (by kernel_rfl) (by kernel_rfl) (fun _ _ _ h => h) (Or.inl ⟨by kernel_rfl, ?_⟩) hS0 ?_
            rotate_left
            · (intro W hSw; clear hSw; go_simp; try with_reducible rfl)
            try simp only [Act.put, List.setIfInBounds_toArray, List.set_cons_zero, List.set_cons_succ, List.getElem_toArray, List.getElem_cons_succ, List.getElem_cons_zero]
            refine wpAnyH_take (i := 22) (v := ?_) rfl (by kernel_rfl) (by kernel_rfl) (by kernel_rfl) (fun _ _ _ h => h) (Or.inl ⟨by kernel_rfl, ?_⟩) hS0 ?_
            rotate_left
            · (intro W hSw; clear hSw; go_simp; try with_reducible rfl)
            try simp only [Act.put, List.setIfInBounds_toArray, List.set_cons_zero, List.set_cons_succ, List.getElem_toArray, List.getElem_cons_succ, List.getElem_cons_zero]
            refine wpAnyH_take (i := 23) (v := ?_) rfl (by kernel_rfl) (by kernel_rfl) (by kernel_rfl) (fun _ _ _ h => h) (Or.inl ⟨by kernel_rfl, ?_⟩) hS0 ?_
            rotate_left
            · (intro W hSw; clear hSw; go_simp; try with_reducible rfl)
            try simp only [Act.put, List.setIfInBounds_toArray, List.set_cons_zero, List.set_cons_succ, List.getElem_toArray, List.getElem_cons_succ, List.getElem_cons_zero]
            refine wpAnyH_take (i := 24) (v := ?_) rfl (by kernel_rfl) (by kernel_rfl) (by kernel_rfl) (fun _ _ _ h => h) (Or.inl ⟨by kernel_rfl, ?_⟩) hS0 ?_
            rotate_left
            · (intro W hSw; clear hSw; go_simp; try with_reducible rfl)
            try simp only [Act.put, List.setIfInBounds_toArray, List.set_cons_zero, List.set_cons_succ, List.getElem_toArray, List.getElem_cons_succ, List.getElem_cons_zero]
            refine wpAnyH_take (i := 25) (v := ?_) rfl (by kernel_rfl) (by kernel_rfl) (by kernel_rfl) (fun _ _ _ h => h) (Or.inl ⟨by kernel_rfl, ?_⟩) hS0 ?_
            rotate_left
            · (intro W hSw; clear hSw; go_simp; try with_reducible rfl)
            try simp only [Act.put, List.setIfInBounds_toArray, List.set_cons_zero, List.set_cons_succ, List.getElem_toArray, List.getElem_cons_succ, List.getElem_cons_zero]
            refine wpAnyH_take (i := 26) (v := ?_) rfl (by kernel_rfl) (by kernel_rfl) (by kernel_rfl) (fun _ _ _ h => h) (Or.inl ⟨by kernel_rfl, ?_⟩) hS0 ?_
            rotate_left
            · (intro W hSw; clear hSw; go_simp; try with_reducible rfl)
            try simp only [Act.put, List.setIfInBounds_toArray, List.set_cons_zero, List.set_cons_succ, List.getElem_toArray, List.getElem_cons_succ, List.getElem_cons_zero]
            refine wpAnyH_take (i := 27) (v := ?_) rfl (by kernel_rfl) (by kernel_rfl) (by kernel_rfl) (fun _ _ _ h => h) (Or.inl ⟨by kernel_rfl, ?_⟩) hS0 ?_
            rotate_left
            · (intro W hSw; clear hSw; go_simp; try with_reducible rfl)
            try simp only [Act.put, List.setIfInBounds_toArray, List.set_cons_zero, List.set_cons_succ, List.getElem_toArray, List.getElem_cons_succ, List.getElem_cons_zero]
            refine wpAnyH_take (i := 28) (v := ?_) rfl (by kernel_rfl) (by kernel_rfl) (by kernel_rfl) (fun _ _ _ h => h) (Or.inl ⟨by kernel_rfl, ?_⟩) hS0 ?_
            rotate_left
            · (intro W hSw; clear hSw; go_simp; try with_reducible rfl)
            try simp only [Act.put, List.setIfInBounds_toArray, List.set_cons_zero, List.set_cons_succ, List.getElem_toArray, List.getElem_cons_succ, List.getElem_cons_zero]
            refine wpAnyH_take (i := 29) (v := ?_) rfl (by kernel_rfl) (by kernel_rfl) (by kernel_rfl) (fun _ _ _ h => h) (Or.inl ⟨by kernel_rfl, ?_⟩) hS0 ?_
            rotate_left
            · (intro W hSw; have hc := hSw.2.2.2.2; clear hSw; go_simp; try with_reducible rfl)
            try simp only [Act.put, List.setIfInBounds_toArray, List.set_cons_zero, List.set_cons_succ, List.getElem_toArray, List.getElem_cons_succ, List.getElem_cons_zero]
            refine wpAnyH_ready (rs := [30]) (by kernel_rfl) (by simp) ?_
            refine AllReadyH.cons rfl (fun KK hKK => ?_) AllReadyH.nil
            go_simp
            have hal := World.grownBy_alloc we (.cells #[.int .i64 1] 3) none
            have HGa := hid hal
            have HCa : Hid (SlAt (we.alloc (.cells #[.int .i64 1] 3)) .i64 (.slice (some ⟨we.heap.size, 0, none⟩) 1 1) [1]) := hid (CsAt.toSlX (xs := [1]) (csat_lit we #[.int .i64 1] 3 1))
            have hS1 := HSf.out _ HGa.out
            clear hal
            refine hKK.out _ _ hS1 (fun _ => ?_)
            clear hKK KK hS0
            have hS0 := hS1
            clear hS1
            obtain ⟨gz, hgz⟩ : ∃ X, we.heap.size = X := ⟨_, rfl⟩
            rw [hgz] at HCa
            try rw [hgz]
            clear hgz
            generalize we.alloc (.cells #[.int .i64 1] 3) = wf at HGa HCa hS0 ⊢
            try simp only [Act.put, List.setIfInBounds_toArray, List.set_cons_zero, List.set_cons_succ, List.getElem_toArray, List.getElem_cons_succ, List.getElem_cons_zero]
            refine wpAnyH_ready (rs := [31]) (by kernel_rfl) (by simp) ?_
            refine AllReadyH.cons rfl (fun KK hKK => ?_) AllReadyH.nil
            go_simp
            refine (six_any (SlAt.own (own_keep0 HRg.out HGa.out)) HCa.out (by simp) (by simp) true (by simp)).mono ?_; rintro e' wg ⟨rfl, hg⟩
            have HGb := hid (grown_trans HGa.out hg)
            have hS1 := HSf.out _ HGb.out
            clear hg
            refine hKK.out _ _ hS1 (fun _ => ?_)
            clear hKK KK hS0
            have hS0 := hS1
            clear hS1
            try simp only [Act.put, List.setIfInBounds_toArray, List.set_cons_zero, List.set_cons_succ, List.getElem_toArray, List.getElem_cons_succ, List.getElem_cons_zero]
            refine wpAnyH_take (i := 32) (v := ?_) rfl (by kernel_rfl) (by kernel_rfl) (by kernel_rfl) (fun _ _ _ h => h) (Or.inl ⟨by kernel_rfl, ?_⟩) hS0 ?_
            rotate_left
            · (intro W hSw; clear hSw; go_simp; try with_reducible rfl)
            try simp only [Act.put, List.setIfInBounds_toArray, List.set_cons_zero, List.set_cons_succ, List.getElem_toArray, List.getElem_cons_succ, List.getElem_cons_zero]
            refine wpAnyH_take (i := 33) (v := ?_) rfl (by kernel_rfl) (by kernel_rfl) (by kernel_rfl) (fun _ _ _ h => h) (Or.inl ⟨by kernel_rfl, ?_⟩) hS0 ?_
            rotate_left
            · (intro W hSw; clear hSw; go_simp; try with_reducible rfl)
            try simp only [Act.put, List.setIfInBounds_toArray, List.set_cons_zero, List.set_cons_succ, List.getElem_toArray, List.getElem_cons_succ, List.getElem_cons_zero]
            refine wpAnyH_done (by kernel_rfl) ?_ _
            clear hS0 HGa HCa
            have HGz := hid (grown_trans HGg.out HGb.out)
            go_wp2
            go_ret
            exact ⟨rfl, HGz.out⟩
end Go.Proofs.YteanjchbnaoopaaDoor
