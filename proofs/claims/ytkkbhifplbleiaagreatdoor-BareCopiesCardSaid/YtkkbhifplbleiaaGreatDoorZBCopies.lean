/- The walk of the law BareCopies. -/
import Derived.Test.YtkkbhifplbleiaaGreatDoorZGBareC
import Derived.Test.YtkkbhifplbleiaaGreatDoorZGCpu
import Derived.Test.YtkkbhifplbleiaaGreatDoorZGDev
import Derived.LoopTactic
import Derived.Deep.Cut
import Derived.BigGuardPart
namespace Go.Proofs.YtkkbhifplbleiaaGreatDoor
open Go.RowKit
theorem build_pctv (pc tv : Int) (w : World) : (Instr.build 39 #[(1, .int .u32 pc), (5, .int .u32 tv)]).run Tryz.prog w = .ok (.agg (cpuC (pcP pc tv))) w := by kernel_rfl
theorem wpList_build_pctv {ops : Array Oper} {rest : List Oper} {o : Oper} {A : Act} {w : World} {Q : Exit → Act → World → Prop} (hgd : o.guard = none) (x y : Operand) (ho : o.op = .build 39 #[(1, x), (5, y)]) {pc tv : Int} (hx : A.eval x = .int .u32 pc) (hy : A.eval y = .int .u32 tv)
    (h : wpList Tryz.prog ops Q rest (A.put o.dst (.agg (cpuC (pcP pc tv)))) w) : wpList Tryz.prog ops Q (o :: rest) A w := by
  refine wpList_plain hgd fun K hK => ?_
  unfold Oper.wp
  simp [execOp, ho, hx, hy, build_pctv pc tv w, Result.andThen]
  exact hK _ _ h
set_option maxRecDepth 100000 in
set_option maxHeartbeats 16000000 in
theorem copies_walk (v : Value) (ls : List Int) (nn kk : Int) (W : World) (hs : SlAt W .u32 v ls) (hw : ∀ n ∈ ls, (Lit.int .u32 n).wf = true) (hl0 : ls.length ≤ maxLen)
    (n0 : -9223372036854775808 ≤ nn) (n1 : nn ≤ 9223372036854775807) (k0 : -9223372036854775808 ≤ kk) (k1 : kk ≤ 9223372036854775807) :
    Calls Tryz.prog 4 #[v, .int .i64 nn, .int .i64 kk] W fun e w' => e = .returned (.bool true) ∧ Below W.heap.size W w' := by
  have Hz := zero_cpu
  obtain ⟨p, c', rfl⟩ := hs.len
  have hux : U32s ls := fun n hn => by have := u32_bd (hw n hn); omega
  have Hux := hid hux
  have Hs := hid hs
  unfold maxLen at hl0
  clear hs hw hux
  by_cases hlen : ls.length ≤ 100
  · have hl2 : ¬ (ls.length : Int) > 100 := by omega
    obtain ⟨N, hN⟩ : ∃ N, numB nn 20 = N := ⟨_, rfl⟩
    obtain ⟨K, hK⟩ : ∃ K, numB kk 20 = K := ⟨_, rfl⟩
    have hN2 : N < 20 := by rw [← hN]; exact numB_lt nn (by decide)
    have hK2 : K < 20 := by rw [← hK]; exact numB_lt kk (by decide)
    have HN := hid hN
    have HK := hid hK
    have HU := hid (memW8_u32 24 (data := []) (fun x hx => by cases hx) Hux.out)
    obtain ⟨M0, hM0⟩ : ∃ M0, initM (memW8 24 [] ls) (pcP 2048 2048) = M0 := ⟨_, rfl⟩
    have HM0 := hid hM0
    have Hn0 : Hid (M0.now = 0) := hid (by rw [← hM0]; rfl)
    clear hN hK hM0
    go_enter Tryz.func4, Tryz.ntmps4
    go_wp2_with fail
    refine (first8_any _).mono ?_; rintro e w1 ⟨rfl, hg⟩
    have HG := hid hg
    have HS1 := hid (Hs.out.kept0 hg)
    clear hg
    go_wp2_with fail
    refine (number_any nn 20 (by decide) (by decide) n0 n1 _).mono ?_; rintro e w2 ⟨rfl, rfl⟩
    rw [HN.out]
    go_wp2_with fail
    refine (number_any kk 20 (by decide) (by decide) k0 k1 _).mono ?_; rintro e w2 ⟨rfl, rfl⟩
    rw [HK.out]
    go_wp2_with fail
    refine (memory8_any 24 (by decide) (by decide) (.slice none 0 0) (.slice p ls.length c') [] ls _ (sl_nil _) HS1.out (by decide) (by omega)).mono ?_; rintro e w3 ⟨m, b, m', b', rfl, hm, hb, hb', hM, hR, hg⟩
    have HM := hid hM
    have HG3 := hid (grown_trans HG.out hg)
    clear hM hR hm hb hb' hg HS1 HG
    go_wp2_with (first
      | (refine wpList_build_pctv rfl _ _ rfl rfl rfl ?_)
      | fail)
    refine (mb_new (W := W) HM.out HG3.out (pcP_ok (pc := 2048) (tv := 2048) (by decide) (by decide) (by decide) (by decide)) HU.out (q := 24) (by decide) (by decide)).mono ?_; rintro e w4 ⟨pb, rfl, hB⟩
    rw [HM0.out] at hB
    have HB := hid hB
    clear hB HM HG3 HU
    go_wp2
    go_loopw [12] (fun i wr => ∃ k : Nat, k ≤ N ∧ i = .int .i64 k ∧ Hid (MBox W pb (24 + 16) 24 (iterP (24 + 16) 24 k M0) wr)) (fun i _ => N - (intOf i).toNat)
    case atStart => exact ⟨0, Nat.zero_le _, rfl, HB⟩
    case round =>
      clear HB
      obtain ⟨k, hk, rfl, HBk⟩ := hrel
      have hk0 : (0 : Int) ≤ (k : Int) := by omega
      have hnk : (iterP (24 + 16) 24 k M0).now ≤ 1000 := by have h1 := iter_now (n := 24 + 16) (Q := 24) k M0; have h2 := Hn0.out; omega
      have Hnk := hid hnk
      clear hnk
      by_cases hlt : k < N
      · have hk1 : (k : Int) < (N : Int) := by omega
        go_wp2_with fail
        refine (mb_step HBk.out (by have := Hnk.out; omega) _ rfl _ (iter_snoc (24 + 16) 24 k M0).symm).mono ?_; rintro e w5 ⟨rfl, hB, _⟩
        have HB5 := hid hB
        clear hB
        go_wp2
        go_roundw
        case rel => exact ⟨k + 1, by omega, by go_num, HB5⟩
        case measure => simp [intOf]; omega
      · have hge : ¬ (k : Int) < (N : Int) := by omega
        obtain ⟨M1, hM1⟩ : ∃ M1, iterP (24 + 16) 24 k M0 = M1 := ⟨_, rfl⟩
        rw [hM1] at HBk Hnk
        clear hM1
        have Hg1 := hid HBk.out.good
        go_wp2_with fail
        refine (s1_clone HBk.out (by have := Hnk.out; omega)).mono ?_; rintro e w5 ⟨pc, rfl, hS⟩
        have HS5 := hid hS
        clear hS HBk
        go_wp2_with fail
        refine (s2_clone HS5.out (by have := Hnk.out; omega)).mono ?_; rintro e w6 ⟨pd, rfl, hS⟩
        have HS6 := hid hS
        clear hS HS5
        go_wp2_with fail
        refine (mb_mem HS6.out.box1).mono ?_; rintro e w7 ⟨mm, bb, cc, rfl, h1, h2, hM, hg⟩
        have HM7 := hid hM
        have HG7 := hid hg
        have Hb7 := hid h2
        clear h1 h2 hM hg
        go_wp2_with fail
        refine (write_of HM7.out 5 7 5 rfl (by decide)).mono ?_; rintro e w8 ⟨rfl, hM, hg⟩
        have HS8 : Hid (S3 W (24 + 16) 24 pc M1 pd M1 pb M1 w8) := hid ((HS6.out.keep (grown_new' (grown_trans (grown_none HG7.out) hg) (fun i hi => by obtain rfl := Option.some.inj hi; exact Hb7.out))).turn)
        clear hM hg HM7 HG7 Hb7 HS6
        go_wp2
        go_loopw [15] (fun i wr => ∃ k : Nat, k ≤ K ∧ i = .int .i64 k ∧ Hid (S3 W (24 + 16) 24 pc (iterP (24 + 16) 24 k M1) pd (iterP (24 + 16) 24 k M1) pb M1 wr)) (fun i _ => K - (intOf i).toNat)
        case atStart => exact ⟨0, Nat.zero_le _, rfl, HS8⟩
        case round =>
          clear HS8 hlt hge hk hk0
          obtain ⟨k, hk, rfl, HSk⟩ := hrel
          have hk0 : (0 : Int) ≤ (k : Int) := by omega
          have hnk2 : (iterP (24 + 16) 24 k M1).now ≤ 2000 := by have h1 := iter_now (n := 24 + 16) (Q := 24) k M1; have h2 := Hnk.out; omega
          have Hnk2 := hid hnk2
          clear hnk2
          by_cases hlt : k < K
          · have hk1 : (k : Int) < (K : Int) := by omega
            obtain ⟨bo, hbo⟩ : ∃ bo, (!(iterP (24 + 16) 24 k M1).ov) = bo := ⟨_, rfl⟩
            have Hbo := hid hbo
            clear hbo
            go_wp2_with fail
            refine (s3_step HSk.out (by have := Hnk2.out; omega) bo Hbo.out _ (iter_snoc (24 + 16) 24 k M1).symm).mono ?_; rintro e w9 ⟨rfl, hS, _⟩
            have HS9 := hid hS.turn
            clear hS HSk
            go_wp2_with fail
            refine (s3_step HS9.out (by have := Hnk2.out; omega) bo Hbo.out _ (iter_snoc (24 + 16) 24 k M1).symm).mono ?_; rintro e w10 ⟨rfl, hS, _⟩
            have HS10 := hid hS.turn.turn
            clear hS HS9
            cases bo
            all_goals
              go_wp2
              go_roundw
              case rel => exact ⟨k + 1, by omega, by go_num, HS10⟩
              case measure => simp [intOf]; omega
          · have hge : ¬ (k : Int) < (K : Int) := by omega
            have ek : k = K := by omega
            have Hek := hid ek
            obtain ⟨M2, hM2⟩ : ∃ M2, iterP (24 + 16) 24 K M1 = M2 := ⟨_, rfl⟩
            have HM2 := hid hM2
            rw [ek, hM2] at HSk Hnk2
            have Hg2 := hid HSk.out.box1.good
            obtain ⟨y, hy⟩ : ∃ y, M2.c = y := ⟨_, rfl⟩
            have Hy := hid hy
            have Hyr : Hid (Regs y.l) := hid (by rw [← hy]; exact Hg2.out.cpu.regs)
            obtain ⟨x, hx⟩ : ∃ x, M1.c = x := ⟨_, rfl⟩
            have Hx := hid hx
            have Hxr : Hid (Regs x.l) := hid (by rw [← hx]; exact Hg1.out.cpu.regs)
            clear hM2 hy hx ek hk
            go_wp2_with fail
            refine (mb_cpu HSk.out.box1 y Hy.out).mono ?_; rintro e w9 ⟨rfl, hg⟩
            have HS9 := hid ((HSk.out.keep hg).keep (World.grownBy_alloc w9 (.cells (cpuC y) 39) none))
            have HC1 := hid (CpuAt.new w9 Hyr.out.len)
            clear hg HSk
            go_upto_region 29 with (first
              | (refine wpList_store_cpu_new (z := zeroP) rfl _ _ rfl rfl rfl rfl Hyr.out.len ?_)
              | fail)
            generalize w9.alloc (.cells (cpuC y) 39) = w10 at HS9 HC1 ⊢
            generalize w9.heap.size = g1 at HC1 ⊢
            go_wp2_with fail
            refine (mb_cpu HS9.out.box2 y Hy.out).mono ?_; rintro e w11 ⟨rfl, hg⟩
            have hga := World.grownBy_alloc w11 (.cells (cpuC y) 39) none
            have HS11 := hid ((HS9.out.keep hg).keep hga)
            have HC2 := hid (CpuAt.new w11 Hyr.out.len)
            replace HC1 := hid ((HC1.out.kept0 hg).kept0 hga)
            clear hg HS9 hga
            go_upto_region 30 with (first
              | (refine wpList_store_cpu_new (z := zeroP) rfl _ _ rfl rfl rfl rfl Hyr.out.len ?_)
              | fail)
            generalize w11.alloc (.cells (cpuC y) 39) = w12 at HS11 HC1 HC2 ⊢
            generalize w11.heap.size = g2 at HC2 ⊢
            go_wp2_with fail
            refine (mb_cpu HS11.out.box3 x Hx.out).mono ?_; rintro e w13 ⟨rfl, hg⟩
            have hga := World.grownBy_alloc w13 (.cells (cpuC x) 39) none
            have HS13 := hid ((HS11.out.keep hg).keep hga).turn.turn
            have HC3 := hid (CpuAt.new w13 Hxr.out.len)
            replace HC1 := hid ((HC1.out.kept0 hg).kept0 hga)
            replace HC2 := hid ((HC2.out.kept0 hg).kept0 hga)
            clear hg HS11 hga
            go_upto_region 31 with (first
              | (refine wpList_store_cpu_new (z := zeroP) rfl _ _ rfl rfl rfl rfl Hxr.out.len ?_)
              | fail)
            generalize w13.alloc (.cells (cpuC x) 39) = w14 at HS13 HC1 HC2 HC3 ⊢
            generalize w13.heap.size = g3 at HC3 ⊢
            go_wp2
            go_loopw [19] (fun i wr => ∃ k : Nat, k ≤ K ∧ i = .int .i64 k ∧ Hid (S3 W (24 + 16) 24 pb (iterP (24 + 16) 24 k M1) pc M2 pd M2 wr ∧ CpuAt wr g1 y ∧ CpuAt wr g2 y ∧ CpuAt wr g3 x)) (fun i _ => K - (intOf i).toNat)
            case atStart => exact ⟨0, Nat.zero_le _, rfl, hid ⟨HS13.out, HC1.out, HC2.out, HC3.out⟩⟩
            case round =>
              clear HS13 HC1 HC2 HC3 hlt hge hk0
              obtain ⟨k, hk, rfl, HSk⟩ := hrel
              have hk0 : (0 : Int) ≤ (k : Int) := by omega
              have hnk3 : (iterP (24 + 16) 24 k M1).now ≤ 2000 := by have h1 := iter_now (n := 24 + 16) (Q := 24) k M1; have h2 := Hnk.out; omega
              have Hnk3 := hid hnk3
              clear hnk3
              by_cases hlt : k < K
              · have hk1 : (k : Int) < (K : Int) := by omega
                go_wp2_with fail
                refine (s3_step HSk.out.1 (by have := Hnk3.out; omega) _ rfl _ (iter_snoc (24 + 16) 24 k M1).symm).mono ?_; rintro e w15 ⟨rfl, hS, hO⟩
                have HS15 := hid (And.intro hS (And.intro (hO.cpu HSk.out.2.1) (And.intro (hO.cpu HSk.out.2.2.1) (hO.cpu HSk.out.2.2.2))))
                clear hS hO
                go_wp2
                go_roundw
                case rel => exact ⟨k + 1, by omega, by go_num, HS15⟩
                case measure => simp [intOf]; omega
              · have hge : ¬ (k : Int) < (K : Int) := by omega
                have ek : k = K := by omega
                rw [ek, HM2.out] at HSk
                clear ek hk
                have HC1 := hid HSk.out.2.1
                have HC2 := hid HSk.out.2.2.1
                have HC3 := hid HSk.out.2.2.2
                have HS := hid HSk.out.1
                have Hsn : Hid (M2.d.sn.length ≤ 1000000) := hid (by have h1 := Hg2.out.seen; have h2 := Hnk2.out; omega)
                have Hnw : Hid (∃ t, M2.now = t) := hid ⟨_, rfl⟩
                clear HSk
                go_wp2_with fail
                refine (mb_cpu HS.out.box1 y Hy.out).mono ?_; rintro e w16 ⟨rfl, hg⟩
                have hga := World.grownBy_alloc w16 (.cells (cpuC y) 39) none
                have HS16 := hid ((HS.out.keep hg).keep hga)
                have HC4 := hid (CpuAt.new w16 Hyr.out.len)
                replace HC1 := hid ((HC1.out.kept0 hg).kept0 hga)
                replace HC2 := hid ((HC2.out.kept0 hg).kept0 hga)
                replace HC3 := hid ((HC3.out.kept0 hg).kept0 hga)
                clear hg HS hga
                go_upto_region 36 with (first
                  | (refine wpList_store_cpu_new (z := zeroP) rfl _ _ rfl rfl rfl rfl Hyr.out.len ?_)
                  | fail)
                generalize w16.alloc (.cells (cpuC y) 39) = w17 at HS16 HC1 HC2 HC3 HC4 ⊢
                generalize w16.heap.size = g4 at HC4 ⊢
                have Hkx : K = 0 → x = y := fun h0 => by have h1 := HM2.out; rw [h0] at h1; rw [← Hx.out, ← Hy.out, ← h1]; rfl
                by_cases hK0 : K = 0
                · have hgt : ¬ (K : Int) > 0 := by omega
                  obtain rfl := Hkx hK0
                  clear Hkx
                  go_wp2_with (first
                    | (refine wpList_load_cpu_w (by kernel_rfl) _ rfl rfl HC1.out ?_)
                    | (refine wpList_load_cpu_w (by kernel_rfl) _ rfl rfl HC2.out ?_)
                    | (refine wpList_load_cpu_w (by kernel_rfl) _ rfl rfl HC3.out ?_)
                    | (refine wpList_load_cpu_w (by kernel_rfl) _ rfl rfl HC4.out ?_)
                    | fail)
                  refine (same_cpu Hyr.out _).mono ?_
                  rintro e w18 ⟨rfl, hg⟩
                  have HS18 := hid (HS16.out.keep hg)
                  replace HC1 := hid (HC1.out.kept0 hg)
                  replace HC2 := hid (HC2.out.kept0 hg)
                  replace HC3 := hid (HC3.out.kept0 hg)
                  replace HC4 := hid (HC4.out.kept0 hg)
                  clear hg HS16
                  go_wp2_with (first
                    | (refine wpList_load_cpu_w (by kernel_rfl) _ rfl rfl HC1.out ?_)
                    | (refine wpList_load_cpu_w (by kernel_rfl) _ rfl rfl HC2.out ?_)
                    | (refine wpList_load_cpu_w (by kernel_rfl) _ rfl rfl HC3.out ?_)
                    | (refine wpList_load_cpu_w (by kernel_rfl) _ rfl rfl HC4.out ?_)
                    | fail)
                  refine (same_cpu Hyr.out _).mono ?_
                  rintro e w19 ⟨rfl, hg⟩
                  have HS19 := hid (HS18.out.keep hg)
                  replace HC1 := hid (HC1.out.kept0 hg)
                  replace HC2 := hid (HC2.out.kept0 hg)
                  replace HC3 := hid (HC3.out.kept0 hg)
                  replace HC4 := hid (HC4.out.kept0 hg)
                  clear hg HS18
                  go_wp2_with fail
                  refine (mb_seen HS19.out.box2 Hsn.out _ rfl).mono ?_; rintro e w20 ⟨v1, rfl, hA1, hg⟩
                  have HS20 := hid (HS19.out.keep hg)
                  replace HC1 := hid (HC1.out.kept0 hg)
                  replace HC2 := hid (HC2.out.kept0 hg)
                  replace HC3 := hid (HC3.out.kept0 hg)
                  replace HC4 := hid (HC4.out.kept0 hg)
                  clear hg HS19
                  have HA1 : Hid (SnAt w20 v1 M2.d.sn) := hid (SnAt.own hA1); clear hA1
                  go_wp2_with fail
                  refine (mb_seen HS20.out.box1 Hsn.out _ rfl).mono ?_; rintro e w21 ⟨v2, rfl, hA2, hg⟩
                  replace HA1 := hid (HA1.out.kept0 hg)
                  have HS21 := hid (HS20.out.keep hg)
                  replace HC1 := hid (HC1.out.kept0 hg)
                  replace HC2 := hid (HC2.out.kept0 hg)
                  replace HC3 := hid (HC3.out.kept0 hg)
                  replace HC4 := hid (HC4.out.kept0 hg)
                  clear hg HS20
                  have HA2 : Hid (SnAt w21 v2 M2.d.sn) := hid (SnAt.own hA2); clear hA2
                  go_wp2_with fail
                  refine (ss_any HA1.out HA2.out Hsn.out true (by simp)).mono ?_
                  rintro e w22 ⟨rfl, hg⟩
                  have HS22 := hid (HS21.out.keep hg)
                  replace HC1 := hid (HC1.out.kept0 hg)
                  replace HC2 := hid (HC2.out.kept0 hg)
                  replace HC3 := hid (HC3.out.kept0 hg)
                  replace HC4 := hid (HC4.out.kept0 hg)
                  clear hg HS21
                  go_wp2_with (first
                    | (refine wpList_load_cpu_w (by kernel_rfl) _ rfl rfl HC1.out ?_)
                    | (refine wpList_load_cpu_w (by kernel_rfl) _ rfl rfl HC2.out ?_)
                    | (refine wpList_load_cpu_w (by kernel_rfl) _ rfl rfl HC3.out ?_)
                    | (refine wpList_load_cpu_w (by kernel_rfl) _ rfl rfl HC4.out ?_)
                    | fail)
                  refine (same_cpu Hyr.out _).mono ?_
                  rintro e w23 ⟨rfl, hg⟩
                  have HS23 := hid (HS22.out.keep hg)
                  replace HC1 := hid (HC1.out.kept0 hg)
                  replace HC2 := hid (HC2.out.kept0 hg)
                  replace HC3 := hid (HC3.out.kept0 hg)
                  replace HC4 := hid (HC4.out.kept0 hg)
                  clear hg HS22
                  go_wp2_with fail
                  obtain ⟨t, ht⟩ := Hnw.out
                  have Ht := hid ht; clear ht
                  refine (mb_now HS23.out.box2 t Ht.out).mono ?_; rintro e w24 ⟨rfl, rfl⟩
                  go_wp2_with fail
                  refine (mb_now HS23.out.box1 t Ht.out).mono ?_; rintro e w25 ⟨rfl, rfl⟩
                  go_wp2
                  go_ret
                  exact ⟨rfl, grown_below HS23.out.box1.old⟩
                · have hgt : (K : Int) > 0 := by omega
                  clear Hkx
                  go_wp2_with (first
                    | (refine wpList_load_cpu_w (by kernel_rfl) _ rfl rfl HC1.out ?_)
                    | (refine wpList_load_cpu_w (by kernel_rfl) _ rfl rfl HC2.out ?_)
                    | (refine wpList_load_cpu_w (by kernel_rfl) _ rfl rfl HC3.out ?_)
                    | (refine wpList_load_cpu_w (by kernel_rfl) _ rfl rfl HC4.out ?_)
                    | fail)
                  refine (same_cpu Hyr.out _).mono ?_
                  rintro e w18 ⟨rfl, hg⟩
                  have HS18 := hid (HS16.out.keep hg)
                  replace HC1 := hid (HC1.out.kept0 hg)
                  replace HC2 := hid (HC2.out.kept0 hg)
                  replace HC3 := hid (HC3.out.kept0 hg)
                  replace HC4 := hid (HC4.out.kept0 hg)
                  clear hg HS16
                  go_wp2_with (first
                    | (refine wpList_load_cpu_w (by kernel_rfl) _ rfl rfl HC1.out ?_)
                    | (refine wpList_load_cpu_w (by kernel_rfl) _ rfl rfl HC2.out ?_)
                    | (refine wpList_load_cpu_w (by kernel_rfl) _ rfl rfl HC3.out ?_)
                    | (refine wpList_load_cpu_w (by kernel_rfl) _ rfl rfl HC4.out ?_)
                    | fail)
                  refine (same_cpu Hyr.out _).mono ?_
                  rintro e w19 ⟨rfl, hg⟩
                  have HS19 := hid (HS18.out.keep hg)
                  replace HC1 := hid (HC1.out.kept0 hg)
                  replace HC2 := hid (HC2.out.kept0 hg)
                  replace HC3 := hid (HC3.out.kept0 hg)
                  replace HC4 := hid (HC4.out.kept0 hg)
                  clear hg HS18
                  go_wp2_with fail
                  refine (mb_seen HS19.out.box2 Hsn.out _ rfl).mono ?_; rintro e w20 ⟨v1, rfl, hA1, hg⟩
                  have HS20 := hid (HS19.out.keep hg)
                  replace HC1 := hid (HC1.out.kept0 hg)
                  replace HC2 := hid (HC2.out.kept0 hg)
                  replace HC3 := hid (HC3.out.kept0 hg)
                  replace HC4 := hid (HC4.out.kept0 hg)
                  clear hg HS19
                  have HA1 : Hid (SnAt w20 v1 M2.d.sn) := hid (SnAt.own hA1); clear hA1
                  go_wp2_with fail
                  refine (mb_seen HS20.out.box1 Hsn.out _ rfl).mono ?_; rintro e w21 ⟨v2, rfl, hA2, hg⟩
                  replace HA1 := hid (HA1.out.kept0 hg)
                  have HS21 := hid (HS20.out.keep hg)
                  replace HC1 := hid (HC1.out.kept0 hg)
                  replace HC2 := hid (HC2.out.kept0 hg)
                  replace HC3 := hid (HC3.out.kept0 hg)
                  replace HC4 := hid (HC4.out.kept0 hg)
                  clear hg HS20
                  have HA2 : Hid (SnAt w21 v2 M2.d.sn) := hid (SnAt.own hA2); clear hA2
                  go_wp2_with fail
                  refine (ss_any HA1.out HA2.out Hsn.out true (by simp)).mono ?_
                  rintro e w22 ⟨rfl, hg⟩
                  have HS22 := hid (HS21.out.keep hg)
                  replace HC1 := hid (HC1.out.kept0 hg)
                  replace HC2 := hid (HC2.out.kept0 hg)
                  replace HC3 := hid (HC3.out.kept0 hg)
                  replace HC4 := hid (HC4.out.kept0 hg)
                  clear hg HS21
                  go_wp2_with fail
                  obtain ⟨t, ht⟩ := Hnw.out
                  have Ht := hid ht; clear ht
                  refine (mb_now HS22.out.box2 t Ht.out).mono ?_; rintro e w23 ⟨rfl, rfl⟩
                  go_wp2_with fail
                  refine (mb_now HS22.out.box1 t Ht.out).mono ?_; rintro e w24 ⟨rfl, rfl⟩
                  go_wp2
                  go_ret
                  exact ⟨rfl, grown_below HS22.out.box1.old⟩
  · have hl2 : (ls.length : Int) > 100 := by omega
    go_enter Tryz.func4, Tryz.ntmps4
    go_wp2_with fail
    refine (first8_any _).mono ?_; rintro e w1 ⟨rfl, hg⟩
    have HG := hid hg
    clear hg
    go_wp2
    go_ret
    exact ⟨rfl, grown_below HG.out⟩
end Go.Proofs.YtkkbhifplbleiaaGreatDoor
