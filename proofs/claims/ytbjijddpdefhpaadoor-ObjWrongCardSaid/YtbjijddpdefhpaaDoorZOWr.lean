/- The law ObjWrong: walked. (Made by goowrong.py.) -/
import Derived.Test.YtbjijddpdefhpaaDoorZOWr1
import Derived.Deep.Cut
import Derived.Deep.CutRange
import Derived.Deep.CutBlock
import Derived.Deep.RegionHeld3
import Derived.StillTailTactics
namespace Go.Proofs.YtbjijddpdefhpaaDoor
open Go.RowKit
theorem build_rl (x k : Int) (w : World) : (Instr.build 46 #[(0, .int .i64 x), (1, .int .i64 k)]).run Tryd.prog w = .ok (.agg #[.int .i64 x, .int .i64 k, .int .i64 0, .int .i64 0]) w := by kernel_rfl
set_option maxRecDepth 100000 in
set_option maxHeartbeats 16000000 in
theorem wrong_walk (a0 b0 : Int) (W : World) (A : Nat → Addr) (hS : Sents W A) (ha0 : -9223372036854775808 ≤ a0) (ha1 : a0 ≤ 9223372036854775807) (hb0 : -9223372036854775808 ≤ b0) (hb1 : b0 ≤ 9223372036854775807) :
    Calls Tryd.prog 3 #[.int .i64 a0, .int .i64 b0] W fun e W' => e = .returned (.bool true) ∧ Below W.heap.size W W' := by
  have HS := hid hS
  have Ha := hid (And.intro ha0 ha1)
  have Hb := hid (And.intro hb0 hb1)
  clear hS ha0 ha1 hb0 hb1
  go_enter Tryd.func3, Tryd.ntmps3
  go_wp2_with fail
  refine (first9_any HS.out.errc).mono ?_
  rintro e w2 ⟨rfl, hg⟩
  have HLW : Hid (LW W w2 (.slice none 0 0) 0) := hid ⟨World.ownsRow_nil _ _ _ _, hg⟩
  clear hg
  obtain ⟨a, ha⟩ : ∃ a, numB b0 20 = a := ⟨_, rfl⟩
  have HA := hid ha
  have ha20 : a < 20 := by rw [← ha]; exact numB_lt b0 (by omega)
  have Ha20 := hid ha20
  obtain ⟨K, hK⟩ : ∃ K, numB a0 9 = K := ⟨_, rfl⟩
  have HK := hid hK
  have hK9 : K < 9 := by rw [← hK]; exact numB_lt a0 (by omega)
  have HK9 := hid hK9
  have a0' : (0 : Int) ≤ (a : Int) := by omega
  have a20 : (a : Int) < 20 := by omega
  clear ha ha20 hK hK9
  go_wp2_with fail
  refine (number_of b0 20 20 a rfl HA.out (by omega) (by omega) Hb.out.1 Hb.out.2).mono ?_
  rintro e w3 ⟨rfl, rfl⟩
  go_wp2
  go_loopw [6, 7] (fun v i wr => ∃ k : Nat, k ≤ a ∧ i = .int .i64 k ∧ Hid (LW W wr v k)) (fun _ i _ => a - (intOf i).toNat)
  case atStart => exact ⟨0, Nat.zero_le _, rfl, HLW⟩
  case round =>
    obtain ⟨k, hk, rfl, HR⟩ := hrel
    have k0 : (0 : Int) ≤ (k : Int) := by omega
    by_cases hlt : k < a
    · have kn : (k : Int) < (a : Int) := by omega
      have Hlt := hid hlt
      obtain ⟨vp, vc, rfl⟩ := own_slice HR.out.own
      have HV := hid HR.out
      clear hlt HR
      obtain ⟨i, hi, hz0, hz1, hz2⟩ := info_line
      have Hi := hid hi
      have Hz0 := hid hz0
      have Hz1 := hid hz1
      have Hz2 := hid hz2
      clear hi hz0 hz1 hz2
      have Hop : Hid (∀ w : World, Calls Tryd.prog 8 #[.int .i64 1, .slice none 0 0] w fun e w' => e = .returned (.agg #[.int .i64 1, .int .i64 0, .int .i64 0, .int .i64 0, .int .u32 0, .string ByteArray.empty, .string ByteArray.empty, .bool false]) ∧ w.grownBy w' none) := hid (fun w => op_nil 1 w)
      go_wp2_with fail
      refine (Hop.out _).mono ?_
      rintro e w5 ⟨rfl, hg⟩
      have HV5 := hid (HV.out.kept0 hg)
      have HV6 := hid (HV5.out.kept0 (World.grownBy_alloc w5 (.cells #[.int .i64 1, .int .i64 0, .int .i64 0, .int .i64 0, .int .u32 0, .string ByteArray.empty, .string ByteArray.empty, .bool false] 29) none))
      have Hnews : Hid (∀ j u, [.int .i64 1, .int .i64 0, .int .i64 0, .int .i64 0, .int .u32 0, .string ByteArray.empty, .string ByteArray.empty, .bool false][j]? = some u → (w5.alloc (.cells #[.int .i64 1, .int .i64 0, .int .i64 0, .int .i64 0, .int .u32 0, .string ByteArray.empty, .string ByteArray.empty, .bool false] 29)).cell? ((⟨w5.heap.size, 0, none⟩ : Addr).add j) = some u) := hid (World.news_of_block (heap_alloc_new w5 _))
      clear hg Hop
      go_wp2_with (first
        | (refine wpList_append_lies _ rfl _ _ 24 rfl W.heap.size 29 i _ 8 80 Tryd.underlying24 Hi.out Hz0.out Hz1.out Hz2.out rfl (by decide) _ k _ rfl HV6.out.own ⟨w5.heap.size, 0, none⟩ 1 1 _ rfl rfl Hnews.out (by simp [Value.oneCell']) (by decide) (by have := Hlt.out; have := Ha20.out; unfold maxLen; omega) (by have := Hlt.out; have := Ha20.out; omega) HV6.out.g.size _ rfl ?_
           intro g cap w7 hown hgrow hat hlt2
           have HO := hid hown
           have HGr : Hid (W.grownBy w7 none) := hid (grown_new' (grown_trans (grown_none HV6.out.g) hgrow) (fun j hj => (HV6.out.own.lt j hj).1))
           clear hown hgrow hat hlt2)
        | fail)
      go_roundw
      case rel => exact ⟨k + 1, Hlt.out, by go_num, hid ⟨by rw [nopsC_succ]; exact HO.out, HGr.out⟩⟩
      case measure => simp [intOf]; have := Hlt.out; omega
    · obtain rfl : k = a := by omega
      clear hlt
      obtain ⟨vp, vc, rfl⟩ := own_slice HR.out.own
      have HV := hid HR.out
      clear HR HLW
      obtain ⟨i, hi, hz0, hz1, hz2⟩ := info_line
      have Hi := hid hi
      have Hz0 := hid hz0
      have Hz1 := hid hz1
      have Hz2 := hid hz2
      clear hi hz0 hz1 hz2
      have Hat : Hid (∀ w : World, Calls Tryd.prog 9 #[.string ⟨#[109, 97, 105, 110]⟩] w fun e w' => e = .returned (.agg #[.int .i64 0, .int .i64 0, .int .i64 0, .int .i64 0, .int .u32 0, .string nmMain, .string ByteArray.empty, .bool false]) ∧ w.grownBy w' none) := hid (fun w => at_any nmMain w)
      go_wp2_with fail
      refine (Hat.out _).mono ?_
      rintro e w5 ⟨rfl, hg⟩
      have HV5 := hid (HV.out.kept0 hg)
      have HV6 := hid (HV5.out.kept0 (World.grownBy_alloc w5 (.cells #[.int .i64 1] 3) none))
      have Hop : Hid (Calls Tryd.prog 8 #[.int .i64 32, .slice (some ⟨w5.heap.size, 0, none⟩) 1 1] (w5.alloc (.cells #[.int .i64 1] 3)) fun e w' => e = .returned (.agg #[.int .i64 32, .int .i64 1, .int .i64 0, .int .i64 0, .int .u32 0, .string ByteArray.empty, .string ByteArray.empty, .bool false]) ∧ (w5.alloc (.cells #[.int .i64 1] 3)).grownBy w' none) := hid (op_one 32 1 w5.heap.size _ ((RwAt.new w5 3 #[.int .i64 1]).cell 0 rfl) (by simp))
      clear hg HV Hat
      go_wp2_with fail
      refine Hop.out.mono ?_
      rintro e w7 ⟨rfl, hg⟩
      have HV7 := hid (HV6.out.kept0 hg)
      clear hg HV5 HV6 Hop
      have HV8 := hid (HV7.out.kept0 (World.grownBy_alloc w7 (.cells #[.int .i64 0, .int .i64 0, .int .i64 0, .int .i64 0, .int .u32 0, .string nmMain, .string ByteArray.empty, .bool false, .int .i64 32, .int .i64 1, .int .i64 0, .int .i64 0, .int .u32 0, .string ByteArray.empty, .string ByteArray.empty, .bool false] 29) none))
      have Hnews : Hid (∀ j u, [.int .i64 0, .int .i64 0, .int .i64 0, .int .i64 0, .int .u32 0, .string nmMain, .string ByteArray.empty, .bool false, .int .i64 32, .int .i64 1, .int .i64 0, .int .i64 0, .int .u32 0, .string ByteArray.empty, .string ByteArray.empty, .bool false][j]? = some u → (w7.alloc (.cells #[.int .i64 0, .int .i64 0, .int .i64 0, .int .i64 0, .int .u32 0, .string nmMain, .string ByteArray.empty, .bool false, .int .i64 32, .int .i64 1, .int .i64 0, .int .i64 0, .int .u32 0, .string ByteArray.empty, .string ByteArray.empty, .bool false] 29)).cell? ((⟨w7.heap.size, 0, none⟩ : Addr).add j) = some u) := hid (World.news_of_block (heap_alloc_new w7 _))
      go_upto_region 11 with (first
        | (refine wpList_append_lies _ rfl _ _ 24 rfl W.heap.size 29 i _ 8 80 Tryd.underlying24 Hi.out Hz0.out Hz1.out Hz2.out rfl (by decide) _ k _ rfl HV8.out.own ⟨w7.heap.size, 0, none⟩ 2 2 _ rfl rfl Hnews.out (by simp [Value.oneCell']) (by decide) (by have := Ha20.out; unfold maxLen; omega) (by have := Ha20.out; omega) HV8.out.g.size _ rfl ?_
           intro g cap w9 hown hgrow hat hlt2
           have HO : Hid (w9.ownsRow W.heap.size 29 8 (.slice (some ⟨g, 0, none⟩) (k + 2) cap) (k + 2) (lnsC k)) := hid hown
           have HG9 : Hid (W.grownBy w9 none) := hid (grown_new' (grown_trans (grown_none HV8.out.g) hgrow) (fun j hj => (HV8.out.own.lt j hj).1))
           clear hown hgrow hat hlt2)
        | fail)
      clear HV7 HV8 Hnews Hi Hz0 Hz1 Hz2
      have al := World.grownBy_alloc w9 (.cells #[.int .u32 1, .int .u32 2] 25) none
      have HGA := hid (grown_trans HG9.out al)
      have HD : Hid (SlAt (w9.alloc (.cells #[.int .u32 1, .int .u32 2] 25)) .u32 (.slice (some ⟨w9.heap.size, 0, none⟩) 2 2) [1, 2]) := hid (.inr ⟨w9.heap.size, 0, 2, rfl, by simp, fun j x hx => by
        have := World.news_of_block (heap_alloc_new w9 (.cells #[.int .u32 1, .int .u32 2] 25)) j (.int .u32 x) (by
          have : ([Value.int .u32 1, .int .u32 2] : List Value) = [1, 2].map (Value.int .u32) := rfl
          show ([Value.int .u32 1, .int .u32 2] : List Value)[j]? = _
          rw [this, List.getElem?_map, hx]; rfl)
        rw [Addr.add_mid] at this
        exact this⟩)
      have HC := hid (CsAt.own (own_keep0 HO.out al))
      clear al
      go_wp2_with fail
      refine (make_any (by have := Ha20.out; omega) HD.out HC.out).mono ?_
      rintro e wb ⟨⟨d, c, m, r, q, s⟩, rfl, ho, hg⟩
      obtain ⟨dp, dc, hdv⟩ := own_slice ho.d
      obtain ⟨cp, cc, hcv⟩ := own_slice ho.c
      obtain ⟨mp, mc, hmv⟩ := own_slice ho.m
      obtain ⟨rp, rc, hrv⟩ := own_slice ho.r
      obtain ⟨qp, qc, hqv⟩ := own_slice ho.q
      obtain ⟨sp, sc, hsv⟩ := own_slice ho.s
      simp only at hdv hcv hmv hrv hqv hsv
      rw [(halt_len k).1] at hcv
      rw [(halt_len k).2] at hmv
      rw [(halt_RQ k).1] at hrv
      rw [(halt_RQ k).2] at hqv
      rw [halt_S k] at hsv
      have hdv : d = .slice dp 2 dc := hdv
      have hrv : r = .slice rp 0 rc := hrv
      have hqv : q = .slice qp 0 qc := hqv
      have hsv : s = .slice sp 1 sc := hsv
      obtain ⟨T, hT⟩ : ∃ T, k + 1 = T := ⟨_, rfl⟩
      rw [hT] at hcv hmv
      have HT := hid hT
      have hT1 : (1 : Int) ≤ (T : Int) := by omega
      have hT2 : (T : Int) ≤ 20 := by omega
      subst hdv; subst hcv; subst hmv; subst hrv; subst hqv; subst hsv
      have HOb := hid (OBx.new ho HGA.out.size (grown_trans HGA.out hg))
      clear ho hg hT HD HC HO HG9 HGA
      go_upto_region 12 with (fail)
      obtain ⟨G, hG⟩ : ∃ G, wb.heap.size = G := ⟨_, rfl⟩
      rw [hG] at HOb ⊢
      clear hG
      generalize wb.alloc (.cells #[.slice dp 2 dc, .slice cp T cc, .slice mp T mc, .slice rp 0 rc, .slice qp 0 qc, .slice sp 1 sc] 37) = w4 at HOb ⊢
      have e1 := HOb.out.g1.cell 1 (v := .slice cp T cc) rfl
      go_wp2_with fail
      refine (placed_any 105 T (by omega) _).mono ?_
      rintro e wc ⟨rfl, hg⟩
      have HOc := hid (HOb.out.kept0 hg)
      have HOd := hid (HOc.out.box (.cells #[.int .i64 105, .bool true, .int .i64 T] 40))
      have HXd := hid (RwAt.new wc 40 #[.int .i64 105, .bool true, .int .i64 T])
      have HPB := hid HOc.out.base_le.size
      clear e1 hg HOb HOc
      go_upto_region 14 with (fail)
      obtain ⟨P, hP⟩ : ∃ P, wc.heap.size = P := ⟨_, rfl⟩
      rw [hP] at HOd HXd HPB ⊢
      clear hP
      have HPG : Hid (P ≠ G) := hid (by
        have h0 := HOd.out.g1.blk
        have h1 := HXd.out.blk
        intro e
        rw [← e, h1] at h0
        simp at h0)
      generalize wc.alloc (.cells #[.int .i64 105, .bool true, .int .i64 T] 40) = w4 at HOd HXd ⊢
      go_wp2_with fail
      refine (number_of a0 9 9 K rfl HK.out (by omega) (by omega) Ha.out.1 Ha.out.2).mono ?_
      rintro e wc ⟨rfl, rfl⟩
      obtain ⟨y, hy⟩ : ∃ y : Int, (K : Int) = y := ⟨_, rfl⟩
      rw [hy]
      have Hy : Hid (y = 0 ∨ y = 1 ∨ y = 2 ∨ y = 3 ∨ y = 4 ∨ y = 5 ∨ y = 6 ∨ y = 7 ∨ y = 8) := hid (by have := HK9.out; omega)
      clear hy
      go_upto_block 2 with fail
      go_cut [] from 41 to 140 (fun wz => Hid (∃ i, i < 9 ∧ WrS W k G P i wz))
      case first =>
        rcases Hy.out with rfl | rfl | rfl | rfl | rfl | rfl | rfl | rfl | rfl
        · clear Hy
          have HlC : Hid ((objK k (k + 2)).C.length = T) := hid ((halt_len k).1.trans HT.out)
          have HlM : Hid ((objK k (k + 2)).M.length = T) := hid ((halt_len k).2.trans HT.out)
          obtain ⟨iC, hi, hz0, hz1, hz2⟩ := info_u32
          have HiC := hid hi
          have Hz0C := hid hz0
          have Hz1C := hid hz1
          have Hz2C := hid hz2
          have eiC := HOd.out.g1.cell 1 (v := .slice cp T cc) rfl
          have HSC := hid (HOd.out.kept0 (World.grownBy_alloc w4 (.cells #[.int .u32 0] 25) none))
          have HOwC := HSC.out.own.c
          simp only at HOwC
          rw [HlC.out] at HOwC
          have HOwC := hid HOwC
          have HNC : Hid (∀ j u, [Value.int .u32 0][j]? = some u → (w4.alloc (.cells #[.int .u32 0] 25)).cell? ((⟨w4.heap.size, 0, none⟩ : Addr).add j) = some u) := hid (World.news_of_block (heap_alloc_new w4 _))
          have HNeC := hid (HSC.out.ne (.slice cp T cc) (by simp))
          clear hi hz0 hz1 hz2
          go_upto_region 19 with (first
            | (refine wpList_append_lies _ rfl _ _ 32 rfl W.heap.size 25 iC _ 1 4 Tryd.underlying32 HiC.out Hz0C.out Hz1C.out Hz2C.out rfl (by decide) _ T _ rfl HOwC.out ⟨w4.heap.size, 0, none⟩ 1 1 _ rfl rfl HNC.out (by simp [Value.oneCell']) (by decide) (by unfold maxLen; omega) (by omega) HSC.out.le _ rfl ?_
               intro gC capC vC hown hgrow hat hlt2
               have HRC := hid hown
               have hgrow0 : (w4.alloc (.cells #[.int .u32 0] 25)).grownBy vC (Value.slice cp T cc).ownBlock := hgrow
               have hat0 : (Value.slice cp T cc).ownBlock = some gC ∨ gC = (w4.alloc (.cells #[.int .u32 0] 25)).heap.size := hat
               have HGC := hid hgrow0
               have HTC := hid hat0
               have bC := HSC.out.g1.kept hgrow0 (fun e => HNeC.out.1 e.symm)
               have cC := bC.cell 1 (v := .slice cp T cc) rfl
               have zC := bC.free 1
               clear hown hgrow hat hlt2 hgrow0 hat0)
            | fail)
          have HOe := hid (OBx.tC HSC.out [0] HlC.out.symm rfl HGC.out HTC.out HRC.out)
          have HXe := hid (((HXd.out.kept0 (World.grownBy_alloc w4 (.cells #[.int .u32 0] 25) none)).kept HGC.out (fun e => HNeC.out.2 P (by simp) e.symm)).other G 1 (.slice (some ⟨gC, 0, none⟩) (T + 1) capC) HPG.out)
          clear cC zC bC eiC
          generalize vC.setCell ⟨G, 1, none⟩ (.slice (some ⟨gC, 0, none⟩) (T + 1) capC) = w5 at HOe HXe ⊢
          clear HSC HOwC HNC HNeC HGC HTC HRC HiC Hz0C Hz1C Hz2C HOd HXd
          obtain ⟨iM, hi, hz0, hz1, hz2⟩ := info_u8
          have HiM := hid hi
          have Hz0M := hid hz0
          have Hz1M := hid hz1
          have Hz2M := hid hz2
          have eiM := HOe.out.g1.cell 2 (v := .slice mp T mc) rfl
          have HSM := hid (HOe.out.kept0 (World.grownBy_alloc w5 (.cells #[.int .u8 1] 5) none))
          have HOwM := HSM.out.own.m
          simp only at HOwM
          rw [HlM.out] at HOwM
          have HOwM := hid HOwM
          have HNM : Hid (∀ j u, [Value.int .u8 1][j]? = some u → (w5.alloc (.cells #[.int .u8 1] 5)).cell? ((⟨w5.heap.size, 0, none⟩ : Addr).add j) = some u) := hid (World.news_of_block (heap_alloc_new w5 _))
          have HNeM := hid (HSM.out.ne (.slice mp T mc) (by simp))
          clear hi hz0 hz1 hz2
          go_wp2_with (first
            | (refine wpList_append_lies _ rfl _ _ 33 rfl W.heap.size 5 iM _ 1 1 Tryd.underlying33 HiM.out Hz0M.out Hz1M.out Hz2M.out rfl (by decide) _ T _ rfl HOwM.out ⟨w5.heap.size, 0, none⟩ 1 1 _ rfl rfl HNM.out (by simp [Value.oneCell']) (by decide) (by unfold maxLen; omega) (by omega) HSM.out.le _ rfl ?_
               intro gM capM vM hown hgrow hat hlt2
               have HRM := hid hown
               have hgrow0 : (w5.alloc (.cells #[.int .u8 1] 5)).grownBy vM (Value.slice mp T mc).ownBlock := hgrow
               have hat0 : (Value.slice mp T mc).ownBlock = some gM ∨ gM = (w5.alloc (.cells #[.int .u8 1] 5)).heap.size := hat
               have HGM := hid hgrow0
               have HTM := hid hat0
               have bM := HSM.out.g1.kept hgrow0 (fun e => HNeM.out.1 e.symm)
               have cM := bM.cell 2 (v := .slice mp T mc) rfl
               have zM := bM.free 2
               clear hown hgrow hat hlt2 hgrow0 hat0)
            | fail)
          have HOf := hid (OBx.tM HSM.out [1] HlM.out.symm rfl HGM.out HTM.out HRM.out)
          have HXf := hid (((HXe.out.kept0 (World.grownBy_alloc w5 (.cells #[.int .u8 1] 5) none)).kept HGM.out (fun e => HNeM.out.2 P (by simp) e.symm)).other G 2 (.slice (some ⟨gM, 0, none⟩) (T + 1) capM) HPG.out)
          clear cM zM bM eiM
          generalize vM.setCell ⟨G, 2, none⟩ (.slice (some ⟨gM, 0, none⟩) (T + 1) capM) = w6 at HOf HXf ⊢
          clear HSM HOwM HNM HNeM HGM HTM HRM HiM Hz0M Hz1M Hz2M HOe HXe
          go_meet
          exact hid ⟨0, by omega, ⟨_, HOf.out⟩, by rw [show fltN (wrF k 0) = ((k + 1 : Nat) : Int) from rfl, HT.out]; exact HXf.out⟩
        · clear Hy
          have HlC : Hid ((objK k (k + 2)).C.length = T) := hid ((halt_len k).1.trans HT.out)
          have HlM : Hid ((objK k (k + 2)).M.length = T) := hid ((halt_len k).2.trans HT.out)
          obtain ⟨iC, hi, hz0, hz1, hz2⟩ := info_u32
          have HiC := hid hi
          have Hz0C := hid hz0
          have Hz1C := hid hz1
          have Hz2C := hid hz2
          have eiC := HOd.out.g1.cell 1 (v := .slice cp T cc) rfl
          have HSC := hid (HOd.out.kept0 (World.grownBy_alloc w4 (.cells #[.int .u32 1610612736, .int .u32 1] 25) none))
          have HOwC := HSC.out.own.c
          simp only at HOwC
          rw [HlC.out] at HOwC
          have HOwC := hid HOwC
          have HNC : Hid (∀ j u, [Value.int .u32 1610612736, Value.int .u32 1][j]? = some u → (w4.alloc (.cells #[.int .u32 1610612736, .int .u32 1] 25)).cell? ((⟨w4.heap.size, 0, none⟩ : Addr).add j) = some u) := hid (World.news_of_block (heap_alloc_new w4 _))
          have HNeC := hid (HSC.out.ne (.slice cp T cc) (by simp))
          clear hi hz0 hz1 hz2
          go_upto_region 22 with (first
            | (refine wpList_append_lies _ rfl _ _ 32 rfl W.heap.size 25 iC _ 1 4 Tryd.underlying32 HiC.out Hz0C.out Hz1C.out Hz2C.out rfl (by decide) _ T _ rfl HOwC.out ⟨w4.heap.size, 0, none⟩ 2 2 _ rfl rfl HNC.out (by simp [Value.oneCell']) (by decide) (by unfold maxLen; omega) (by omega) HSC.out.le _ rfl ?_
               intro gC capC vC hown hgrow hat hlt2
               have HRC := hid hown
               have hgrow0 : (w4.alloc (.cells #[.int .u32 1610612736, .int .u32 1] 25)).grownBy vC (Value.slice cp T cc).ownBlock := hgrow
               have hat0 : (Value.slice cp T cc).ownBlock = some gC ∨ gC = (w4.alloc (.cells #[.int .u32 1610612736, .int .u32 1] 25)).heap.size := hat
               have HGC := hid hgrow0
               have HTC := hid hat0
               have bC := HSC.out.g1.kept hgrow0 (fun e => HNeC.out.1 e.symm)
               have cC := bC.cell 1 (v := .slice cp T cc) rfl
               have zC := bC.free 1
               clear hown hgrow hat hlt2 hgrow0 hat0)
            | fail)
          have HOe := hid (OBx.tC HSC.out [1610612736, 1] HlC.out.symm rfl HGC.out HTC.out HRC.out)
          have HXe := hid (((HXd.out.kept0 (World.grownBy_alloc w4 (.cells #[.int .u32 1610612736, .int .u32 1] 25) none)).kept HGC.out (fun e => HNeC.out.2 P (by simp) e.symm)).other G 1 (.slice (some ⟨gC, 0, none⟩) (T + 2) capC) HPG.out)
          clear cC zC bC eiC
          generalize vC.setCell ⟨G, 1, none⟩ (.slice (some ⟨gC, 0, none⟩) (T + 2) capC) = w5 at HOe HXe ⊢
          clear HSC HOwC HNC HNeC HGC HTC HRC HiC Hz0C Hz1C Hz2C HOd HXd
          obtain ⟨iM, hi, hz0, hz1, hz2⟩ := info_u8
          have HiM := hid hi
          have Hz0M := hid hz0
          have Hz1M := hid hz1
          have Hz2M := hid hz2
          have eiM := HOe.out.g1.cell 2 (v := .slice mp T mc) rfl
          have HSM := hid (HOe.out.kept0 (World.grownBy_alloc w5 (.cells #[.int .u8 1, .int .u8 0] 5) none))
          have HOwM := HSM.out.own.m
          simp only at HOwM
          rw [HlM.out] at HOwM
          have HOwM := hid HOwM
          have HNM : Hid (∀ j u, [Value.int .u8 1, Value.int .u8 0][j]? = some u → (w5.alloc (.cells #[.int .u8 1, .int .u8 0] 5)).cell? ((⟨w5.heap.size, 0, none⟩ : Addr).add j) = some u) := hid (World.news_of_block (heap_alloc_new w5 _))
          have HNeM := hid (HSM.out.ne (.slice mp T mc) (by simp))
          clear hi hz0 hz1 hz2
          go_wp2_with (first
            | (refine wpList_append_lies _ rfl _ _ 33 rfl W.heap.size 5 iM _ 1 1 Tryd.underlying33 HiM.out Hz0M.out Hz1M.out Hz2M.out rfl (by decide) _ T _ rfl HOwM.out ⟨w5.heap.size, 0, none⟩ 2 2 _ rfl rfl HNM.out (by simp [Value.oneCell']) (by decide) (by unfold maxLen; omega) (by omega) HSM.out.le _ rfl ?_
               intro gM capM vM hown hgrow hat hlt2
               have HRM := hid hown
               have hgrow0 : (w5.alloc (.cells #[.int .u8 1, .int .u8 0] 5)).grownBy vM (Value.slice mp T mc).ownBlock := hgrow
               have hat0 : (Value.slice mp T mc).ownBlock = some gM ∨ gM = (w5.alloc (.cells #[.int .u8 1, .int .u8 0] 5)).heap.size := hat
               have HGM := hid hgrow0
               have HTM := hid hat0
               have bM := HSM.out.g1.kept hgrow0 (fun e => HNeM.out.1 e.symm)
               have cM := bM.cell 2 (v := .slice mp T mc) rfl
               have zM := bM.free 2
               clear hown hgrow hat hlt2 hgrow0 hat0)
            | fail)
          have HOf := hid (OBx.tM HSM.out [1, 0] HlM.out.symm rfl HGM.out HTM.out HRM.out)
          have HXf := hid (((HXe.out.kept0 (World.grownBy_alloc w5 (.cells #[.int .u8 1, .int .u8 0] 5) none)).kept HGM.out (fun e => HNeM.out.2 P (by simp) e.symm)).other G 2 (.slice (some ⟨gM, 0, none⟩) (T + 2) capM) HPG.out)
          clear cM zM bM eiM
          generalize vM.setCell ⟨G, 2, none⟩ (.slice (some ⟨gM, 0, none⟩) (T + 2) capM) = w6 at HOf HXf ⊢
          clear HSM HOwM HNM HNeM HGM HTM HRM HiM Hz0M Hz1M Hz2M HOe HXe
          go_meet
          exact hid ⟨1, by omega, ⟨_, HOf.out⟩, by rw [show fltN (wrF k 1) = ((k + 1 : Nat) : Int) from rfl, HT.out]; exact HXf.out⟩
        · clear Hy
          have HlC : Hid ((objK k (k + 2)).C.length = T) := hid ((halt_len k).1.trans HT.out)
          have HlM : Hid ((objK k (k + 2)).M.length = T) := hid ((halt_len k).2.trans HT.out)
          obtain ⟨iC, hi, hz0, hz1, hz2⟩ := info_u32
          have HiC := hid hi
          have Hz0C := hid hz0
          have Hz1C := hid hz1
          have Hz2C := hid hz2
          have eiC := HOd.out.g1.cell 1 (v := .slice cp T cc) rfl
          have HSC := hid (HOd.out.kept0 (World.grownBy_alloc w4 (.cells #[.int .u32 5] 25) none))
          have HOwC := HSC.out.own.c
          simp only at HOwC
          rw [HlC.out] at HOwC
          have HOwC := hid HOwC
          have HNC : Hid (∀ j u, [Value.int .u32 5][j]? = some u → (w4.alloc (.cells #[.int .u32 5] 25)).cell? ((⟨w4.heap.size, 0, none⟩ : Addr).add j) = some u) := hid (World.news_of_block (heap_alloc_new w4 _))
          have HNeC := hid (HSC.out.ne (.slice cp T cc) (by simp))
          clear hi hz0 hz1 hz2
          go_upto_region 25 with (first
            | (refine wpList_append_lies _ rfl _ _ 32 rfl W.heap.size 25 iC _ 1 4 Tryd.underlying32 HiC.out Hz0C.out Hz1C.out Hz2C.out rfl (by decide) _ T _ rfl HOwC.out ⟨w4.heap.size, 0, none⟩ 1 1 _ rfl rfl HNC.out (by simp [Value.oneCell']) (by decide) (by unfold maxLen; omega) (by omega) HSC.out.le _ rfl ?_
               intro gC capC vC hown hgrow hat hlt2
               have HRC := hid hown
               have hgrow0 : (w4.alloc (.cells #[.int .u32 5] 25)).grownBy vC (Value.slice cp T cc).ownBlock := hgrow
               have hat0 : (Value.slice cp T cc).ownBlock = some gC ∨ gC = (w4.alloc (.cells #[.int .u32 5] 25)).heap.size := hat
               have HGC := hid hgrow0
               have HTC := hid hat0
               have bC := HSC.out.g1.kept hgrow0 (fun e => HNeC.out.1 e.symm)
               have cC := bC.cell 1 (v := .slice cp T cc) rfl
               have zC := bC.free 1
               clear hown hgrow hat hlt2 hgrow0 hat0)
            | fail)
          have HOe := hid (OBx.tC HSC.out [5] HlC.out.symm rfl HGC.out HTC.out HRC.out)
          have HXe := hid (((HXd.out.kept0 (World.grownBy_alloc w4 (.cells #[.int .u32 5] 25) none)).kept HGC.out (fun e => HNeC.out.2 P (by simp) e.symm)).other G 1 (.slice (some ⟨gC, 0, none⟩) (T + 1) capC) HPG.out)
          clear cC zC bC eiC
          generalize vC.setCell ⟨G, 1, none⟩ (.slice (some ⟨gC, 0, none⟩) (T + 1) capC) = w5 at HOe HXe ⊢
          clear HSC HOwC HNC HNeC HGC HTC HRC HiC Hz0C Hz1C Hz2C HOd HXd
          obtain ⟨iM, hi, hz0, hz1, hz2⟩ := info_u8
          have HiM := hid hi
          have Hz0M := hid hz0
          have Hz1M := hid hz1
          have Hz2M := hid hz2
          have eiM := HOe.out.g1.cell 2 (v := .slice mp T mc) rfl
          have HSM := hid (HOe.out.kept0 (World.grownBy_alloc w5 (.cells #[.int .u8 0] 5) none))
          have HOwM := HSM.out.own.m
          simp only at HOwM
          rw [HlM.out] at HOwM
          have HOwM := hid HOwM
          have HNM : Hid (∀ j u, [Value.int .u8 0][j]? = some u → (w5.alloc (.cells #[.int .u8 0] 5)).cell? ((⟨w5.heap.size, 0, none⟩ : Addr).add j) = some u) := hid (World.news_of_block (heap_alloc_new w5 _))
          have HNeM := hid (HSM.out.ne (.slice mp T mc) (by simp))
          clear hi hz0 hz1 hz2
          go_upto_region 26 with (first
            | (refine wpList_append_lies _ rfl _ _ 33 rfl W.heap.size 5 iM _ 1 1 Tryd.underlying33 HiM.out Hz0M.out Hz1M.out Hz2M.out rfl (by decide) _ T _ rfl HOwM.out ⟨w5.heap.size, 0, none⟩ 1 1 _ rfl rfl HNM.out (by simp [Value.oneCell']) (by decide) (by unfold maxLen; omega) (by omega) HSM.out.le _ rfl ?_
               intro gM capM vM hown hgrow hat hlt2
               have HRM := hid hown
               have hgrow0 : (w5.alloc (.cells #[.int .u8 0] 5)).grownBy vM (Value.slice mp T mc).ownBlock := hgrow
               have hat0 : (Value.slice mp T mc).ownBlock = some gM ∨ gM = (w5.alloc (.cells #[.int .u8 0] 5)).heap.size := hat
               have HGM := hid hgrow0
               have HTM := hid hat0
               have bM := HSM.out.g1.kept hgrow0 (fun e => HNeM.out.1 e.symm)
               have cM := bM.cell 2 (v := .slice mp T mc) rfl
               have zM := bM.free 2
               clear hown hgrow hat hlt2 hgrow0 hat0)
            | fail)
          have HOf := hid (OBx.tM HSM.out [0] HlM.out.symm rfl HGM.out HTM.out HRM.out)
          have HXf := hid (((HXe.out.kept0 (World.grownBy_alloc w5 (.cells #[.int .u8 0] 5) none)).kept HGM.out (fun e => HNeM.out.2 P (by simp) e.symm)).other G 2 (.slice (some ⟨gM, 0, none⟩) (T + 1) capM) HPG.out)
          clear cM zM bM eiM
          generalize vM.setCell ⟨G, 2, none⟩ (.slice (some ⟨gM, 0, none⟩) (T + 1) capM) = w6 at HOf HXf ⊢
          clear HSM HOwM HNM HNeM HGM HTM HRM HiM Hz0M Hz1M Hz2M HOe HXe
          go_wp2_with fail
          refine (placed_any 109 T (by omega) _).mono ?_
          rintro e wq ⟨rfl, hg⟩
          have HOfq := hid (HOf.out.kept0 hg)
          have HXfq := hid (HXf.out.kept0 hg)
          clear hg HOf HXf
          have HOg := hid (OBx.want HOfq.out HPB.out HPG.out #[.int .i64 109, .bool true, .int .i64 T])
          have HXg := hid (HXfq.out.row #[.int .i64 109, .bool true, .int .i64 T])
          go_wp2_with (first
            | (refine wpList_store_rw rfl 40 _ _ rfl rfl rfl HXfq.out info_flt rfl (by simp [Value.oneCell']) ?_)
            | fail)
          go_meet
          exact hid ⟨2, by omega, ⟨_, HOg.out⟩, by rw [show fltN (wrF k 2) = ((k + 1 : Nat) : Int) from rfl, HT.out]; exact HXg.out⟩
        · clear Hy
          have HlC : Hid ((objK k (k + 2)).C.length = T) := hid ((halt_len k).1.trans HT.out)
          have HlM : Hid ((objK k (k + 2)).M.length = T) := hid ((halt_len k).2.trans HT.out)
          obtain ⟨iC, hi, hz0, hz1, hz2⟩ := info_u32
          have HiC := hid hi
          have Hz0C := hid hz0
          have Hz1C := hid hz1
          have Hz2C := hid hz2
          have eiC := HOd.out.g1.cell 1 (v := .slice cp T cc) rfl
          have HSC := hid (HOd.out.kept0 (World.grownBy_alloc w4 (.cells #[.int .u32 234881024] 25) none))
          have HOwC := HSC.out.own.c
          simp only at HOwC
          rw [HlC.out] at HOwC
          have HOwC := hid HOwC
          have HNC : Hid (∀ j u, [Value.int .u32 234881024][j]? = some u → (w4.alloc (.cells #[.int .u32 234881024] 25)).cell? ((⟨w4.heap.size, 0, none⟩ : Addr).add j) = some u) := hid (World.news_of_block (heap_alloc_new w4 _))
          have HNeC := hid (HSC.out.ne (.slice cp T cc) (by simp))
          clear hi hz0 hz1 hz2
          go_upto_region 29 with (first
            | (refine wpList_append_lies _ rfl _ _ 32 rfl W.heap.size 25 iC _ 1 4 Tryd.underlying32 HiC.out Hz0C.out Hz1C.out Hz2C.out rfl (by decide) _ T _ rfl HOwC.out ⟨w4.heap.size, 0, none⟩ 1 1 _ rfl rfl HNC.out (by simp [Value.oneCell']) (by decide) (by unfold maxLen; omega) (by omega) HSC.out.le _ rfl ?_
               intro gC capC vC hown hgrow hat hlt2
               have HRC := hid hown
               have hgrow0 : (w4.alloc (.cells #[.int .u32 234881024] 25)).grownBy vC (Value.slice cp T cc).ownBlock := hgrow
               have hat0 : (Value.slice cp T cc).ownBlock = some gC ∨ gC = (w4.alloc (.cells #[.int .u32 234881024] 25)).heap.size := hat
               have HGC := hid hgrow0
               have HTC := hid hat0
               have bC := HSC.out.g1.kept hgrow0 (fun e => HNeC.out.1 e.symm)
               have cC := bC.cell 1 (v := .slice cp T cc) rfl
               have zC := bC.free 1
               clear hown hgrow hat hlt2 hgrow0 hat0)
            | fail)
          have HOe := hid (OBx.tC HSC.out [234881024] HlC.out.symm rfl HGC.out HTC.out HRC.out)
          have HXe := hid (((HXd.out.kept0 (World.grownBy_alloc w4 (.cells #[.int .u32 234881024] 25) none)).kept HGC.out (fun e => HNeC.out.2 P (by simp) e.symm)).other G 1 (.slice (some ⟨gC, 0, none⟩) (T + 1) capC) HPG.out)
          clear cC zC bC eiC
          generalize vC.setCell ⟨G, 1, none⟩ (.slice (some ⟨gC, 0, none⟩) (T + 1) capC) = w5 at HOe HXe ⊢
          clear HSC HOwC HNC HNeC HGC HTC HRC HiC Hz0C Hz1C Hz2C HOd HXd
          obtain ⟨iM, hi, hz0, hz1, hz2⟩ := info_u8
          have HiM := hid hi
          have Hz0M := hid hz0
          have Hz1M := hid hz1
          have Hz2M := hid hz2
          have eiM := HOe.out.g1.cell 2 (v := .slice mp T mc) rfl
          have HSM := hid (HOe.out.kept0 (World.grownBy_alloc w5 (.cells #[.int .u8 1] 5) none))
          have HOwM := HSM.out.own.m
          simp only at HOwM
          rw [HlM.out] at HOwM
          have HOwM := hid HOwM
          have HNM : Hid (∀ j u, [Value.int .u8 1][j]? = some u → (w5.alloc (.cells #[.int .u8 1] 5)).cell? ((⟨w5.heap.size, 0, none⟩ : Addr).add j) = some u) := hid (World.news_of_block (heap_alloc_new w5 _))
          have HNeM := hid (HSM.out.ne (.slice mp T mc) (by simp))
          clear hi hz0 hz1 hz2
          go_upto_region 30 with (first
            | (refine wpList_append_lies _ rfl _ _ 33 rfl W.heap.size 5 iM _ 1 1 Tryd.underlying33 HiM.out Hz0M.out Hz1M.out Hz2M.out rfl (by decide) _ T _ rfl HOwM.out ⟨w5.heap.size, 0, none⟩ 1 1 _ rfl rfl HNM.out (by simp [Value.oneCell']) (by decide) (by unfold maxLen; omega) (by omega) HSM.out.le _ rfl ?_
               intro gM capM vM hown hgrow hat hlt2
               have HRM := hid hown
               have hgrow0 : (w5.alloc (.cells #[.int .u8 1] 5)).grownBy vM (Value.slice mp T mc).ownBlock := hgrow
               have hat0 : (Value.slice mp T mc).ownBlock = some gM ∨ gM = (w5.alloc (.cells #[.int .u8 1] 5)).heap.size := hat
               have HGM := hid hgrow0
               have HTM := hid hat0
               have bM := HSM.out.g1.kept hgrow0 (fun e => HNeM.out.1 e.symm)
               have cM := bM.cell 2 (v := .slice mp T mc) rfl
               have zM := bM.free 2
               clear hown hgrow hat hlt2 hgrow0 hat0)
            | fail)
          have HOf := hid (OBx.tM HSM.out [1] HlM.out.symm rfl HGM.out HTM.out HRM.out)
          have HXf := hid (((HXe.out.kept0 (World.grownBy_alloc w5 (.cells #[.int .u8 1] 5) none)).kept HGM.out (fun e => HNeM.out.2 P (by simp) e.symm)).other G 2 (.slice (some ⟨gM, 0, none⟩) (T + 1) capM) HPG.out)
          clear cM zM bM eiM
          generalize vM.setCell ⟨G, 2, none⟩ (.slice (some ⟨gM, 0, none⟩) (T + 1) capM) = w6 at HOf HXf ⊢
          clear HSM HOwM HNM HNeM HGM HTM HRM HiM Hz0M Hz1M Hz2M HOe HXe
          go_wp2_with fail
          refine (placed_any 109 T (by omega) _).mono ?_
          rintro e wq ⟨rfl, hg⟩
          have HOfq := hid (HOf.out.kept0 hg)
          have HXfq := hid (HXf.out.kept0 hg)
          clear hg HOf HXf
          have HOg := hid (OBx.want HOfq.out HPB.out HPG.out #[.int .i64 109, .bool true, .int .i64 T])
          have HXg := hid (HXfq.out.row #[.int .i64 109, .bool true, .int .i64 T])
          go_wp2_with (first
            | (refine wpList_store_rw rfl 40 _ _ rfl rfl rfl HXfq.out info_flt rfl (by simp [Value.oneCell']) ?_)
            | fail)
          go_meet
          exact hid ⟨3, by omega, ⟨_, HOg.out⟩, by rw [show fltN (wrF k 3) = ((k + 1 : Nat) : Int) from rfl, HT.out]; exact HXg.out⟩
        · clear Hy
          have HlC : Hid ((objK k (k + 2)).C.length = T) := hid ((halt_len k).1.trans HT.out)
          have HlM : Hid ((objK k (k + 2)).M.length = T) := hid ((halt_len k).2.trans HT.out)
          obtain ⟨iC, hi, hz0, hz1, hz2⟩ := info_u32
          have HiC := hid hi
          have Hz0C := hid hz0
          have Hz1C := hid hz1
          have Hz2C := hid hz2
          have eiC := HOd.out.g1.cell 1 (v := .slice cp T cc) rfl
          have HSC := hid (HOd.out.kept0 (World.grownBy_alloc w4 (.cells #[.int .u32 5] 25) none))
          have HOwC := HSC.out.own.c
          simp only at HOwC
          rw [HlC.out] at HOwC
          have HOwC := hid HOwC
          have HNC : Hid (∀ j u, [Value.int .u32 5][j]? = some u → (w4.alloc (.cells #[.int .u32 5] 25)).cell? ((⟨w4.heap.size, 0, none⟩ : Addr).add j) = some u) := hid (World.news_of_block (heap_alloc_new w4 _))
          have HNeC := hid (HSC.out.ne (.slice cp T cc) (by simp))
          clear hi hz0 hz1 hz2
          go_upto_region 33 with (first
            | (refine wpList_append_lies _ rfl _ _ 32 rfl W.heap.size 25 iC _ 1 4 Tryd.underlying32 HiC.out Hz0C.out Hz1C.out Hz2C.out rfl (by decide) _ T _ rfl HOwC.out ⟨w4.heap.size, 0, none⟩ 1 1 _ rfl rfl HNC.out (by simp [Value.oneCell']) (by decide) (by unfold maxLen; omega) (by omega) HSC.out.le _ rfl ?_
               intro gC capC vC hown hgrow hat hlt2
               have HRC := hid hown
               have hgrow0 : (w4.alloc (.cells #[.int .u32 5] 25)).grownBy vC (Value.slice cp T cc).ownBlock := hgrow
               have hat0 : (Value.slice cp T cc).ownBlock = some gC ∨ gC = (w4.alloc (.cells #[.int .u32 5] 25)).heap.size := hat
               have HGC := hid hgrow0
               have HTC := hid hat0
               have bC := HSC.out.g1.kept hgrow0 (fun e => HNeC.out.1 e.symm)
               have cC := bC.cell 1 (v := .slice cp T cc) rfl
               have zC := bC.free 1
               clear hown hgrow hat hlt2 hgrow0 hat0)
            | fail)
          have HOe := hid (OBx.tC HSC.out [5] HlC.out.symm rfl HGC.out HTC.out HRC.out)
          have HXe := hid (((HXd.out.kept0 (World.grownBy_alloc w4 (.cells #[.int .u32 5] 25) none)).kept HGC.out (fun e => HNeC.out.2 P (by simp) e.symm)).other G 1 (.slice (some ⟨gC, 0, none⟩) (T + 1) capC) HPG.out)
          clear cC zC bC eiC
          generalize vC.setCell ⟨G, 1, none⟩ (.slice (some ⟨gC, 0, none⟩) (T + 1) capC) = w5 at HOe HXe ⊢
          clear HSC HOwC HNC HNeC HGC HTC HRC HiC Hz0C Hz1C Hz2C HOd HXd
          go_wp2_with fail
          refine (bare_any 109 _).mono ?_
          rintro e wq ⟨rfl, hg⟩
          unfold faultV
          have HOeq := hid (HOe.out.kept0 hg)
          have HXeq := hid (HXe.out.kept0 hg)
          clear hg HOe HXe
          have HOg := hid (OBx.want HOeq.out HPB.out HPG.out #[.int .i64 109, .bool false, .int .i64 0])
          have HXg := hid (HXeq.out.row #[.int .i64 109, .bool false, .int .i64 0])
          go_wp2_with (first
            | (refine wpList_store_rw rfl 40 _ _ rfl rfl rfl HXeq.out info_flt rfl (by simp [Value.oneCell']) ?_)
            | fail)
          go_meet
          exact hid ⟨4, by omega, ⟨_, HOg.out⟩, by exact HXg.out⟩
        · clear Hy
          have HlC : Hid ((objK k (k + 2)).C.length = T) := hid ((halt_len k).1.trans HT.out)
          have HlM : Hid ((objK k (k + 2)).M.length = T) := hid ((halt_len k).2.trans HT.out)
          obtain ⟨sg, rfl⟩ : ∃ sg, sp = some ⟨sg, 0, none⟩ := by
            have h := HOd.out.own.s
            simp only at h
            rw [halt_S k] at h
            obtain ⟨g, cap, hv, _, _⟩ := h.form (show 0 < 1 by omega)
            simp only [Value.slice.injEq] at hv
            exact ⟨g, hv.1⟩
          have HSm := CsAt.own HOd.out.own.s
          simp only at HSm
          rw [halt_S k] at HSm
          obtain ⟨b5, o5, c5, hv5, _, _, hc5⟩ := HSm.at_ (show 0 < 1 by omega)
          simp only [Value.slice.injEq, Option.some.injEq, Addr.mk.injEq, and_true] at hv5
          obtain ⟨⟨rfl, rfl⟩, -⟩ := hv5
          have s0 : w4.cell? ⟨sg, 0, none⟩ = some (.string nmMain) := hc5 0 _ rfl
          have s1 : w4.cell? ⟨sg, 1, none⟩ = some (.int .i64 2) := hc5 1 _ rfl
          have s2 : w4.cell? ⟨sg, 2, none⟩ = some (.int .i64 k) := hc5 2 _ rfl
          have s3 : w4.cell? ⟨sg, 3, none⟩ = some (.bool true) := hc5 3 _ rfl
          have e5 := HOd.out.g1.cell 5 (v := .slice (some ⟨sg, 0, none⟩) 1 sc) rfl
          have hdr := grown_drew (grown_refl w4 none)
          have s0 : w4.drew.cell? ⟨sg, 0, none⟩ = some (.string nmMain) := s0
          have s1 : w4.drew.cell? ⟨sg, 1, none⟩ = some (.int .i64 2) := s1
          have s2 : w4.drew.cell? ⟨sg, 2, none⟩ = some (.int .i64 k) := s2
          have s3 : w4.drew.cell? ⟨sg, 3, none⟩ = some (.bool true) := s3
          have e5 : w4.drew.cell? ⟨G, 5, none⟩ = some (.slice (some ⟨sg, 0, none⟩) 1 sc) := e5
          have HOD := hid (HOd.out.kept0 hdr)
          have HXD := hid (HXd.out.kept0 hdr)
          clear HSm hc5 hdr
          obtain ⟨iS, hi, hz0, hz1, hz2⟩ := info_symb
          have HiS := hid hi
          have Hz0S := hid hz0
          have Hz1S := hid hz1
          have Hz2S := hid hz2
          have HSS := hid (HOD.out.kept0 (World.grownBy_alloc w4.drew (.cells #[.string nmMain, .int .i64 2, .int .i64 k, .bool true] 44) none))
          have HOwS := HSS.out.own.s
          simp only at HOwS
          rw [halt_S k] at HOwS
          have HOwS : Hid ((w4.drew.alloc (.cells #[.string nmMain, .int .i64 2, .int .i64 k, .bool true] 44)).ownsRow W.heap.size 44 4 (.slice (some ⟨sg, 0, none⟩) 1 sc) 1 (sysC [⟨nmMain, 2, k, true⟩])) := hid HOwS
          have HNS : Hid (∀ j u, [Value.string nmMain, .int .i64 2, .int .i64 k, .bool true][j]? = some u → (w4.drew.alloc (.cells #[.string nmMain, .int .i64 2, .int .i64 k, .bool true] 44)).cell? ((⟨w4.drew.heap.size, 0, none⟩ : Addr).add j) = some u) := hid (World.news_of_block (heap_alloc_new w4.drew _))
          have HNeS := hid (HSS.out.ne (.slice (some ⟨sg, 0, none⟩) 1 sc) (by simp))
          have e5b : (w4.alloc (.cells #[.string nmMain, .int .i64 2, .int .i64 k, .bool true] 44)).cell? ⟨G, 5, none⟩ = some (.slice (some ⟨sg, 0, none⟩) 1 sc) := HSS.out.g1.cell 5 (v := .slice (some ⟨sg, 0, none⟩) 1 sc) rfl
          clear hi hz0 hz1 hz2
          go_upto_region 35 with (fail)
          go_region_law (first
            | (refine step_append_lies _ rfl (.tmp 110) (.tmp 115) 35 rfl W.heap.size 44 iS _ 4 40 Tryd.underlying35 HiS.out Hz0S.out Hz1S.out Hz2S.out rfl (by decide) (.slice (some ⟨sg, 0, none⟩) 1 sc) 1 _ (by simp [Act.eval]) HOwS.out ⟨w4.drew.heap.size, 0, none⟩ 1 1 _ (by simp [Act.eval]) rfl HNS.out (by simp [Value.oneCell']) (by decide) (by unfold maxLen; omega) (by omega) HSS.out.le _ rfl ?_
               intro gS capS vS hown hgrow hat hlt2
               have HRS := hid hown
               have HGS := hid hgrow
               have HTS := hid hat
               have bS := HSS.out.g1.kept hgrow (fun e => HNeS.out.1 e.symm)
               have cS := bS.cell 5 (v := .slice (some ⟨sg, 0, none⟩) 1 sc) rfl
               have zS := bS.free 5
               clear hown hgrow hat hlt2 bS)
            | fail)
          all_goals
            have HOe := hid (OBx.tS HSS.out [⟨nmMain, 2, k, true⟩] (by rw [halt_S k]) rfl HGS.out HTS.out (by rw [halt_S k]; exact HRS.out))
            have HXe := hid (((HXD.out.kept0 (World.grownBy_alloc w4.drew (.cells #[.string nmMain, .int .i64 2, .int .i64 k, .bool true] 44) none)).kept HGS.out (fun e => HNeS.out.2 P (by simp) e.symm)).other G 5 (.slice (some ⟨gS, 0, none⟩) (1 + 1) capS) HPG.out)
            clear HOD HXD HOd HXd HSS HOwS HNS HNeS HRS HGS HTS HiS Hz0S Hz1S Hz2S s0 s1 s2 s3 e5 e5b
            go_wp2_with fail
            refine (placed_any 106 1 (by omega) _).mono ?_
            rintro e wq ⟨rfl, hg⟩
            have HOeq := hid (HOe.out.kept0 hg)
            have HXeq := hid (HXe.out.kept0 hg)
            clear hg HOe HXe
            have HOg := hid (OBx.want HOeq.out HPB.out HPG.out #[.int .i64 106, .bool true, .int .i64 1])
            have HXg := hid (HXeq.out.row #[.int .i64 106, .bool true, .int .i64 1])
            go_wp2_with (first
              | (refine wpList_store_rw rfl 40 _ _ rfl rfl rfl HXeq.out info_flt rfl (by simp [Value.oneCell']) ?_)
              | fail)
            go_meet
            exact hid ⟨5, by omega, ⟨_, HOg.out⟩, by exact HXg.out⟩
        · clear Hy
          have HlC : Hid ((objK k (k + 2)).C.length = T) := hid ((halt_len k).1.trans HT.out)
          have HlM : Hid ((objK k (k + 2)).M.length = T) := hid ((halt_len k).2.trans HT.out)
          obtain ⟨iC, hi, hz0, hz1, hz2⟩ := info_u32
          have HiC := hid hi
          have Hz0C := hid hz0
          have Hz1C := hid hz1
          have Hz2C := hid hz2
          have eiC := HOd.out.g1.cell 1 (v := .slice cp T cc) rfl
          have HSC := hid (HOd.out.kept0 (World.grownBy_alloc w4 (.cells #[.int .u32 268435456] 25) none))
          have HOwC := HSC.out.own.c
          simp only at HOwC
          rw [HlC.out] at HOwC
          have HOwC := hid HOwC
          have HNC : Hid (∀ j u, [Value.int .u32 268435456][j]? = some u → (w4.alloc (.cells #[.int .u32 268435456] 25)).cell? ((⟨w4.heap.size, 0, none⟩ : Addr).add j) = some u) := hid (World.news_of_block (heap_alloc_new w4 _))
          have HNeC := hid (HSC.out.ne (.slice cp T cc) (by simp))
          clear hi hz0 hz1 hz2
          go_upto_region 39 with (first
            | (refine wpList_append_lies _ rfl _ _ 32 rfl W.heap.size 25 iC _ 1 4 Tryd.underlying32 HiC.out Hz0C.out Hz1C.out Hz2C.out rfl (by decide) _ T _ rfl HOwC.out ⟨w4.heap.size, 0, none⟩ 1 1 _ rfl rfl HNC.out (by simp [Value.oneCell']) (by decide) (by unfold maxLen; omega) (by omega) HSC.out.le _ rfl ?_
               intro gC capC vC hown hgrow hat hlt2
               have HRC := hid hown
               have hgrow0 : (w4.alloc (.cells #[.int .u32 268435456] 25)).grownBy vC (Value.slice cp T cc).ownBlock := hgrow
               have hat0 : (Value.slice cp T cc).ownBlock = some gC ∨ gC = (w4.alloc (.cells #[.int .u32 268435456] 25)).heap.size := hat
               have HGC := hid hgrow0
               have HTC := hid hat0
               have bC := HSC.out.g1.kept hgrow0 (fun e => HNeC.out.1 e.symm)
               have cC := bC.cell 1 (v := .slice cp T cc) rfl
               have zC := bC.free 1
               clear hown hgrow hat hlt2 hgrow0 hat0)
            | fail)
          have HOe := hid (OBx.tC HSC.out [268435456] HlC.out.symm rfl HGC.out HTC.out HRC.out)
          have HXe := hid (((HXd.out.kept0 (World.grownBy_alloc w4 (.cells #[.int .u32 268435456] 25) none)).kept HGC.out (fun e => HNeC.out.2 P (by simp) e.symm)).other G 1 (.slice (some ⟨gC, 0, none⟩) (T + 1) capC) HPG.out)
          clear cC zC bC eiC
          generalize vC.setCell ⟨G, 1, none⟩ (.slice (some ⟨gC, 0, none⟩) (T + 1) capC) = w5 at HOe HXe ⊢
          clear HSC HOwC HNC HNeC HGC HTC HRC HiC Hz0C Hz1C Hz2C HOd HXd
          obtain ⟨iM, hi, hz0, hz1, hz2⟩ := info_u8
          have HiM := hid hi
          have Hz0M := hid hz0
          have Hz1M := hid hz1
          have Hz2M := hid hz2
          have eiM := HOe.out.g1.cell 2 (v := .slice mp T mc) rfl
          have HSM := hid (HOe.out.kept0 (World.grownBy_alloc w5 (.cells #[.int .u8 1] 5) none))
          have HOwM := HSM.out.own.m
          simp only at HOwM
          rw [HlM.out] at HOwM
          have HOwM := hid HOwM
          have HNM : Hid (∀ j u, [Value.int .u8 1][j]? = some u → (w5.alloc (.cells #[.int .u8 1] 5)).cell? ((⟨w5.heap.size, 0, none⟩ : Addr).add j) = some u) := hid (World.news_of_block (heap_alloc_new w5 _))
          have HNeM := hid (HSM.out.ne (.slice mp T mc) (by simp))
          clear hi hz0 hz1 hz2
          go_upto_region 40 with (first
            | (refine wpList_append_lies _ rfl _ _ 33 rfl W.heap.size 5 iM _ 1 1 Tryd.underlying33 HiM.out Hz0M.out Hz1M.out Hz2M.out rfl (by decide) _ T _ rfl HOwM.out ⟨w5.heap.size, 0, none⟩ 1 1 _ rfl rfl HNM.out (by simp [Value.oneCell']) (by decide) (by unfold maxLen; omega) (by omega) HSM.out.le _ rfl ?_
               intro gM capM vM hown hgrow hat hlt2
               have HRM := hid hown
               have hgrow0 : (w5.alloc (.cells #[.int .u8 1] 5)).grownBy vM (Value.slice mp T mc).ownBlock := hgrow
               have hat0 : (Value.slice mp T mc).ownBlock = some gM ∨ gM = (w5.alloc (.cells #[.int .u8 1] 5)).heap.size := hat
               have HGM := hid hgrow0
               have HTM := hid hat0
               have bM := HSM.out.g1.kept hgrow0 (fun e => HNeM.out.1 e.symm)
               have cM := bM.cell 2 (v := .slice mp T mc) rfl
               have zM := bM.free 2
               clear hown hgrow hat hlt2 hgrow0 hat0)
            | fail)
          have HOf := hid (OBx.tM HSM.out [1] HlM.out.symm rfl HGM.out HTM.out HRM.out)
          have HXf := hid (((HXe.out.kept0 (World.grownBy_alloc w5 (.cells #[.int .u8 1] 5) none)).kept HGM.out (fun e => HNeM.out.2 P (by simp) e.symm)).other G 2 (.slice (some ⟨gM, 0, none⟩) (T + 1) capM) HPG.out)
          clear cM zM bM eiM
          generalize vM.setCell ⟨G, 2, none⟩ (.slice (some ⟨gM, 0, none⟩) (T + 1) capM) = w6 at HOf HXf ⊢
          clear HSM HOwM HNM HNeM HGM HTM HRM HiM Hz0M Hz1M Hz2M HOe HXe
          go_wp2_with fail
          refine (placed_any 107 T (by omega) _).mono ?_
          rintro e wq ⟨rfl, hg⟩
          have HOfq := hid (HOf.out.kept0 hg)
          have HXfq := hid (HXf.out.kept0 hg)
          clear hg HOf HXf
          have HOg := hid (OBx.want HOfq.out HPB.out HPG.out #[.int .i64 107, .bool true, .int .i64 T])
          have HXg := hid (HXfq.out.row #[.int .i64 107, .bool true, .int .i64 T])
          go_wp2_with (first
            | (refine wpList_store_rw rfl 40 _ _ rfl rfl rfl HXfq.out info_flt rfl (by simp [Value.oneCell']) ?_)
            | fail)
          go_meet
          exact hid ⟨6, by omega, ⟨_, HOg.out⟩, by rw [show fltN (wrF k 6) = ((k + 1 : Nat) : Int) from rfl, HT.out]; exact HXg.out⟩
        · clear Hy
          have HlC : Hid ((objK k (k + 2)).C.length = T) := hid ((halt_len k).1.trans HT.out)
          have HlM : Hid ((objK k (k + 2)).M.length = T) := hid ((halt_len k).2.trans HT.out)
          have HS := hid (HOd.out.kept0 (World.grownBy_alloc w4 (.cells #[.int .i64 1, .int .i64 1, .int .i64 0, .int .i64 0, .int .i64 1, .int .i64 1, .int .i64 0, .int .i64 0] 46) none))
          have e3 := HS.out.g1.cell 3 (v := .slice rp 0 rc) rfl
          have f3 := HS.out.g1.free 3
          have HOe := hid (OBx.tR (g := w4.heap.size) (cap := 2) (N := 0) (M := 2) HOd.out [⟨1, 1, 0, 0⟩, ⟨1, 1, 0, 0⟩] rfl rfl (World.grownBy_alloc w4 (.cells #[.int .i64 1, .int .i64 1, .int .i64 0, .int .i64 0, .int .i64 1, .int .i64 1, .int .i64 0, .int .i64 0] 46) _) (.inr rfl) (World.ownsRow_lit w4 #[.int .i64 1, .int .i64 1, .int .i64 0, .int .i64 0, .int .i64 1, .int .i64 1, .int .i64 0, .int .i64 0] 2 HOd.out.le (by decide) rfl))
          have HXe := hid ((HXd.out.kept0 (World.grownBy_alloc w4 (.cells #[.int .i64 1, .int .i64 1, .int .i64 0, .int .i64 0, .int .i64 1, .int .i64 1, .int .i64 0, .int .i64 0] 46) none)).other G 3 (.slice (some ⟨w4.heap.size, 0, none⟩) 2 2) HPG.out)
          have hb1 := build_rl 1 1
          go_upto_region 43 with (fail)
          clear e3 f3 hb1 HS
          have HOe : Hid (OBx W ((w4.alloc (.cells #[.int .i64 1, .int .i64 1, .int .i64 0, .int .i64 0, .int .i64 1, .int .i64 1, .int .i64 0, .int .i64 0] 46)).setCell ⟨G, 3, none⟩ (.slice (some ⟨w4.heap.size, 0, none⟩) 2 2)) G [P] ⟨.slice dp 2 dc, .slice cp T cc, .slice mp T mc, .slice (some ⟨w4.heap.size, 0, none⟩) 2 2, .slice qp 0 qc, .slice sp 1 sc⟩ (wrP k 7)) := hid (by have h := HOe.out; exact h)
          generalize (w4.alloc (.cells #[.int .i64 1, .int .i64 1, .int .i64 0, .int .i64 0, .int .i64 1, .int .i64 1, .int .i64 0, .int .i64 0] 46)).setCell ⟨G, 3, none⟩ (.slice (some ⟨w4.heap.size, 0, none⟩) 2 2) = w5 at HOe HXe ⊢
          clear HOd HXd
          go_wp2_with fail
          refine (placed_any 103 1 (by omega) _).mono ?_
          rintro e wq ⟨rfl, hg⟩
          have HOeq := hid (HOe.out.kept0 hg)
          have HXeq := hid (HXe.out.kept0 hg)
          clear hg HOe HXe
          have HOg := hid (OBx.want HOeq.out HPB.out HPG.out #[.int .i64 103, .bool true, .int .i64 1])
          have HXg := hid (HXeq.out.row #[.int .i64 103, .bool true, .int .i64 1])
          go_wp2_with (first
            | (refine wpList_store_rw rfl 40 _ _ rfl rfl rfl HXeq.out info_flt rfl (by simp [Value.oneCell']) ?_)
            | fail)
          go_meet
          exact hid ⟨7, by omega, ⟨_, HOg.out⟩, by exact HXg.out⟩
        · clear Hy
          have HlC : Hid ((objK k (k + 2)).C.length = T) := hid ((halt_len k).1.trans HT.out)
          have HlM : Hid ((objK k (k + 2)).M.length = T) := hid ((halt_len k).2.trans HT.out)
          have HS := hid (HOd.out.kept0 (World.grownBy_alloc w4 (.cells #[.int .i64 k, .int .i64 2, .int .i64 0, .int .i64 0] 46) none))
          have e4 := HS.out.g1.cell 4 (v := .slice qp 0 qc) rfl
          have f4 := HS.out.g1.free 4
          have HOe := hid (OBx.tQ (g := w4.heap.size) (cap := 1) (N := 0) (M := 1) HOd.out [⟨k, 2, 0, 0⟩] rfl rfl (World.grownBy_alloc w4 (.cells #[.int .i64 k, .int .i64 2, .int .i64 0, .int .i64 0] 46) _) (.inr rfl) (World.ownsRow_lit w4 #[.int .i64 k, .int .i64 2, .int .i64 0, .int .i64 0] 1 HOd.out.le (by decide) rfl))
          have HXe := hid ((HXd.out.kept0 (World.grownBy_alloc w4 (.cells #[.int .i64 k, .int .i64 2, .int .i64 0, .int .i64 0] 46) none)).other G 4 (.slice (some ⟨w4.heap.size, 0, none⟩) 1 1) HPG.out)
          have hb1 := build_rl k 2
          have hTk : (T : Int) - 1 = (k : Int) := by have := HT.out; omega
          go_upto_region 16 with (fail)
          clear e4 f4 hb1 HS hTk
          have HOe : Hid (OBx W ((w4.alloc (.cells #[.int .i64 k, .int .i64 2, .int .i64 0, .int .i64 0] 46)).setCell ⟨G, 4, none⟩ (.slice (some ⟨w4.heap.size, 0, none⟩) 1 1)) G [P] ⟨.slice dp 2 dc, .slice cp T cc, .slice mp T mc, .slice rp 0 rc, .slice (some ⟨w4.heap.size, 0, none⟩) 1 1, .slice sp 1 sc⟩ (wrP k 8)) := hid (by have h := HOe.out; exact h)
          generalize (w4.alloc (.cells #[.int .i64 k, .int .i64 2, .int .i64 0, .int .i64 0] 46)).setCell ⟨G, 4, none⟩ (.slice (some ⟨w4.heap.size, 0, none⟩) 1 1) = w5 at HOe HXe ⊢
          clear HOd HXd
          go_wp2_with fail
          refine (placed_any 102 0 (by omega) _).mono ?_
          rintro e wq ⟨rfl, hg⟩
          have HOeq := hid (HOe.out.kept0 hg)
          have HXeq := hid (HXe.out.kept0 hg)
          clear hg HOe HXe
          have HOg := hid (OBx.want HOeq.out HPB.out HPG.out #[.int .i64 102, .bool true, .int .i64 0])
          have HXg := hid (HXeq.out.row #[.int .i64 102, .bool true, .int .i64 0])
          go_wp2_with (first
            | (refine wpList_store_rw rfl 40 _ _ rfl rfl rfl HXeq.out info_flt rfl (by simp [Value.oneCell']) ?_)
            | fail)
          go_meet
          exact hid ⟨8, by omega, ⟨_, HOg.out⟩, by exact HXg.out⟩
      case rest =>
        obtain ⟨i, hi9, hw⟩ := hcut.out
        obtain ⟨⟨⟨d, c, m, r, q, s⟩, ho⟩, hx⟩ := hw
        obtain ⟨z0, hz0⟩ : ∃ z, fltC (wrF k i) = z := ⟨_, rfl⟩
        obtain ⟨z1, hz1⟩ : ∃ z, fltB (wrF k i) = z := ⟨_, rfl⟩
        obtain ⟨z2, hz2⟩ : ∃ z, fltN (wrF k i) = z := ⟨_, rfl⟩
        rw [hz0, hz1, hz2] at hx
        have HZ := hid (And.intro hz0 (And.intro hz1 hz2))
        have HFit := hid (wrP_fit k i Ha20.out hi9)
        have HVal := hid (wr_all k Ha20.out i hi9)
        have HO := hid ho
        have HX := hid hx
        clear ho hx hz0 hz1 hz2 hcut hi9
        go_upto_region 44 with (fail)
        have dr := grown_drew (grown_refl wc none)
        have HD := hid (HO.out.kept0 dr)
        have HXd := hid (HX.out.kept0 dr)
        have HGd := hid HD.out.base_le
        have HSd := hid (HS.out.kept0 HGd.out)
        clear dr HO HX
        have k0 := HD.out.g1.cell 0 (v := d) rfl
        have k1 := HD.out.g1.cell 1 (v := c) rfl
        have k2 := HD.out.g1.cell 2 (v := m) rfl
        have k3 := HD.out.g1.cell 3 (v := r) rfl
        have k4 := HD.out.g1.cell 4 (v := q) rfl
        have k5 := HD.out.g1.cell 5 (v := s) rfl
        have j0 := HXd.out.cell 0 (v := .int .i64 z0) rfl
        have j1 := HXd.out.cell 1 (v := .bool z1) rfl
        have j2 := HXd.out.cell 2 (v := .int .i64 z2) rfl
        have HQ1 : Hid (∀ W', wc.drew.grownBy W' none → Calls Tryd.prog 14 #[.agg #[d, c, m, r, q, s]] W' fun e w' => ∃ fv, e = .returned fv ∧ FltAt A w' fv (wrF k i) ∧ W'.grownBy w' none) := hid (fun W' hW => by
          rw [← HVal.out]
          exact valid_any (V := ⟨d, c, m, r, q, s⟩) (HD.out.oat.kept0 hW) (HSd.out.kept0 hW).errc HFit.out)
        go_region_held3 (fun W' => W'.cell? ⟨G, 0, none⟩ = some (d) ∧ W'.cell? ⟨G, 1, none⟩ = some (c) ∧ W'.cell? ⟨G, 2, none⟩ = some (m) ∧ W'.cell? ⟨G, 3, none⟩ = some (r) ∧ W'.cell? ⟨G, 4, none⟩ = some (q) ∧ W'.cell? ⟨G, 5, none⟩ = some (s) ∧ W'.cell? ⟨P, 0, none⟩ = some (.int .i64 z0) ∧ W'.cell? ⟨P, 1, none⟩ = some (.bool z1) ∧ W'.cell? ⟨P, 2, none⟩ = some (.int .i64 z2) ∧ wc.drew.grownBy W' none)
          (first | (with_reducible exact ⟨k0, k1, k2, k3, k4, k5, j0, j1, j2, grown_refl _ _⟩) | (go_split_ands; have hgr := grown_trans (w := wc.drew) (r := none) (by assumption) hcb; exact ⟨(HD.out.g1.kept0 hgr).cell 0 rfl, (HD.out.g1.kept0 hgr).cell 1 rfl, (HD.out.g1.kept0 hgr).cell 2 rfl, (HD.out.g1.kept0 hgr).cell 3 rfl, (HD.out.g1.kept0 hgr).cell 4 rfl, (HD.out.g1.kept0 hgr).cell 5 rfl, (HXd.out.kept0 hgr).cell 0 rfl, (HXd.out.kept0 hgr).cell 1 rfl, (HXd.out.kept0 hgr).cell 2 rfl, hgr⟩))
          (first
            | (go_split_ands; go_at_call 14; (with_reducible refine (HQ1.out _ (by assumption)).mono ?_); rintro e w' ⟨fv, rfl, hfl, hcb⟩; have HF := hid hfl; clear hfl)
            | (go_split_ands; go_at_call 13; (refine (same_flt (HSd.out.kept0 (by assumption)) (by first | exact HF.out | exact HF.out.kept0 (by assumption)) (wr_code k i) z0 z1 z2 true (by rw [HZ.out.1, HZ.out.2.1, HZ.out.2.2]; simp)).mono ?_); rintro e w' ⟨rfl, hcb⟩))
        go_split_ands
        go_wp2
        go_ret
        exact ⟨rfl, grown_below (grown_trans HGd.out (by assumption))⟩
end Go.Proofs.YtbjijddpdefhpaaDoor
