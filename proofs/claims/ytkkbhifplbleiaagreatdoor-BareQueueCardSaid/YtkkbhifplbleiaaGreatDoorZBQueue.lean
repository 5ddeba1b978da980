/- The walk of the law BareQueue. -/
import Derived.Test.YtkkbhifplbleiaaGreatDoorZBQueueP
import Derived.Test.YtkkbhifplbleiaaGreatDoorZGBareC
import Derived.Test.YtkkbhifplbleiaaGreatDoorZGDev
import Derived.LoopTactic
import Derived.Deep.Cut
import Derived.BigGuardPart
import Derived.BigQuiet
namespace Go.Proofs.YtkkbhifplbleiaaGreatDoor
open Go.RowKit
theorem orQ : ∀ F : Nat, F < 24 → bits BinOp.or IntKind.u32 ((F : Int) * 256) 3 = (F : Int) * 256 + 3 := by decide
theorem or7 : ∀ F : Nat, F < 24 → bits BinOp.or IntKind.u32 ((F : Int) * 256) 7 = (F : Int) * 256 + 7 := by decide
theorem queue_le (l : List Int) : waitsQ l ≤ l.length := by
  have : ∀ (l : List Int) (a : Nat), l.foldl (fun a x => waitsF (fQ x) a) a ≤ a + l.length := by
    intro l
    induction l with
    | nil => intro a; exact Nat.le_refl _
    | cons x r ih =>
      intro a
      have h1 := ih (waitsF (fQ x) a)
      have h2 : waitsF (fQ x) a ≤ a + 1 := by unfold waitsF; (repeat' split) <;> omega
      simp only [List.foldl_cons, List.length_cons]
      omega
  have := this l 0
  rw [Nat.zero_add] at this
  exact this
set_option maxRecDepth 100000 in
set_option maxHeartbeats 16000000 in
theorem queue_walk (v : Value) (ls : List Int) (page : Int) (W : World) (hs : SlAt W .i64 v ls) (hw : ∀ n ∈ ls, (Lit.int .i64 n).wf = true) (hl0 : ls.length ≤ maxLen)
    (n0 : -9223372036854775808 ≤ page) (n1 : page ≤ 9223372036854775807) :
    Calls Tryz.prog 6 #[v, .int .i64 page] W fun e w' => e = .returned (.bool true) ∧ Below W.heap.size W w' := by
  have Hz := zero_cpu
  obtain ⟨p, c', rfl⟩ := hs.len
  have Hs := hid hs
  have Hw := hid hw
  unfold maxLen at hl0
  clear hs hw
  by_cases hlen : ls.length ≤ 40
  · have hl2 : ¬ (ls.length : Int) > 40 := by omega
    obtain ⟨P, hP⟩ : ∃ P, numB page 3 = P := ⟨_, rfl⟩
    have hP3 : P < 3 := by rw [← hP]; exact numB_lt page (by decide)
    obtain ⟨M0, hM0⟩ : ∃ M0, machQ P ls = M0 := ⟨_, rfl⟩
    obtain ⟨D, hD⟩ : ∃ D, 1 + 2 * ls.length = D := ⟨_, rfl⟩
    obtain ⟨MF, hMF⟩ : ∃ MF, iterP (24 + 16) 24 (D + 1) M0 = MF := ⟨_, rfl⟩
    obtain ⟨hF1, hF2, hF3⟩ := queue_end (ls := ls) hP3 hlen
    have hwt : ∀ i : Nat, 1 ≤ i → i ≤ D → (iterP (24 + 16) 24 i M0).ws.length = waitsQ (ls.take ((i - 1) / 2)) := fun i h0 h1 => by rw [← hM0]; exact queue_wait hP3 hlen h0 (by omega)
    rw [hM0, show 2 + 2 * ls.length = D + 1 by omega] at hF1 hF2 hF3
    rw [show (40 : Nat) = 24 + 16 from rfl, hMF] at hF1 hF2 hF3
    have HP := hid hP
    have HM0 := hid hM0
    have HMF := hid hMF
    have HF1 := hid hF1
    have HF2 := hid hF2
    have HF3 := hid hF3
    have Hwt := hid hwt
    have Hn0 : Hid (M0.now = 0) := hid (by rw [← hM0]; rfl)
    have HU := hid (memW8_u32 24 (data := []) (code := codeQ P ls) (fun x hx => by cases hx) (codeQ_u32 hP3 ls))
    have HcF : Hid ((codeQ P ls).length ≤ 256 ∧ (queueC ls).length ≤ 120) := hid (by rw [codeQ_len, queueC_len]; omega)
    clear hF1 hF2 hF3 hwt hMF hM0 hP
    go_enter Tryz.func6, Tryz.ntmps6
    go_wp2_with fail
    refine (first8_any _).mono ?_; rintro e w1 ⟨rfl, hg⟩
    have HC1 := hid (CB2.nil hg)
    clear hg
    go_wp2_with fail
    refine (number_any page 3 (by decide) (by decide) n0 n1 _).mono ?_; rintro e w2 ⟨rfl, rfl⟩
    rw [HP.out]
    go_wp2_with (first
      | (refine cb_append HC1.out rfl _ _ rfl rfl [235077632, _] 2 rfl (by decide) rfl rfl (by decide) ?_; intro vc wc hC; have HC2 := hid hC; clear hC)
      | fail)
    go_loopw [6, 7, 8, 9] (fun a la i _ wr => ∃ k : Nat, k ≤ ls.length ∧ i = .int .i64 k ∧ Hid (CB2 W a ([235077632, (P : Int)] ++ queueC (ls.take k)) (.slice none 0 0) [] wr) ∧ la = .int .i64 (lastQ (ls.take k))) (fun _ _ i _ _ => ls.length - (intOf i).toNat)
    case atStart => exact ⟨0, Nat.zero_le _, rfl, HC2, rfl⟩
    case round =>
      clear HC1 HC2
      obtain ⟨k, hk, rfl, HC, rfl⟩ := hrel
      have hk0 : (0 : Int) ≤ (k : Int) := by omega
      by_cases hlt : k < ls.length
      · have hk1 : (k : Int) < (ls.length : Int) := by omega
        obtain ⟨x, hx⟩ : ∃ x, ls[k]? = some x := ⟨_, List.getElem?_eq_getElem hlt⟩
        rcases Hs.out with ⟨_, hnil⟩ | ⟨bl, o, c2, he, hbl, hcl⟩
        · rw [hnil] at hlt; simp at hlt
        have hp : p = some ⟨bl, o, none⟩ := by injection he
        have hcy := (grown_cell (p := ⟨bl, o + k, none⟩) HC.out.hg hbl (by simp)).trans (hcl k x hx)
        have hxb := i64_bd (Hw.out x (List.mem_of_getElem? hx))
        have x0 := hxb.1
        have x1 := hxb.2
        have Htk : Hid (ls.take (k + 1) = ls.take k ++ [x]) := hid (by rw [List.take_add_one, hx]; rfl)
        obtain ⟨T, hT⟩ : ∃ T, ls.take k = T := ⟨_, rfl⟩
        have Hlc : Hid ((queueC T).length ≤ 120) := hid (by rw [← hT, queueC_len, List.length_take]; omega)
        rw [hT] at HC Htk ⊢
        obtain ⟨F, hF⟩ : ∃ F, numB x 24 = F := ⟨_, rfl⟩
        have hF24 : F < 24 := by rw [← hF]; exact numB_lt x (by decide)
        have HF : Hid (numB x 24 = F) := hid hF
        have HfQ : Hid (fQ x = (F : Int)) := hid (by unfold fQ; rw [hF])
        have hf1 : (F : Int) < 24 := by omega
        have hf0 : (0 : Int) ≤ (F : Int) := by omega
        obtain ⟨la, hla⟩ : ∃ la, lastQ T = la := ⟨_, rfl⟩
        have Hla := hid hla
        rw [hla]
        clear he hcl hx hT hF hla hxb
        subst hp
        by_cases h17 : 17 ≤ F
        · have hf2 : (17 : Int) ≤ (F : Int) := by omega
          go_wp2_with fail
          refine (number_any x 24 (by decide) (by decide) x0 x1 _).mono ?_; rintro e w2 ⟨rfl, rfl⟩
          rw [HF.out]
          go_wp2_with (first
            | (refine cb_append HC.out rfl _ _ rfl rfl [235143168, _, 688063488] 3 rfl (by decide) rfl rfl (by have := Hlc.out; simp only [List.length_append, List.length_cons, List.length_nil]; omega) ?_; intro va wa ha; have HA := hid ha; clear ha)
            | fail)
          go_roundw
          case rel => exact ⟨k + 1, by omega, by go_num, by rw [Htk.out, queueC_snoc, HfQ.out, ← orQ F hF24, ← List.append_assoc]; exact HA, by rw [Htk.out, lastQ_snoc, HfQ.out, Hla.out, lastF, if_pos (by omega)]⟩
          case measure => simp [intOf]; omega
        · have hf2 : ¬ (17 : Int) ≤ (F : Int) := by omega
          have hf3 : (F : Int) < 17 := by omega
          go_wp2_with fail
          refine (number_any x 24 (by decide) (by decide) x0 x1 _).mono ?_; rintro e w2 ⟨rfl, rfl⟩
          rw [HF.out]
          go_wp2_with (first
            | (refine cb_append HC.out rfl _ _ rfl rfl [235143168, _, 688063488] 3 rfl (by decide) rfl rfl (by have := Hlc.out; simp only [List.length_append, List.length_cons, List.length_nil]; omega) ?_; intro va wa ha; have HA := hid ha; clear ha)
            | fail)
          go_roundw
          case rel => exact ⟨k + 1, by omega, by go_num, by rw [Htk.out, queueC_snoc, HfQ.out, ← orQ F hF24, ← List.append_assoc]; exact HA, by rw [Htk.out, lastQ_snoc, HfQ.out, Hla.out, lastF, if_neg (by omega)]⟩
          case measure => simp [intOf]; omega
      · have hge : ¬ (k : Int) < (ls.length : Int) := by omega
        have ek : ls.take k = ls := List.take_of_length_le (by omega)
        rw [ek] at HC ⊢
        clear ek hk hlt hk0
        obtain ⟨la, hla⟩ : ∃ la, lastQ ls = la := ⟨_, rfl⟩
        have hlb := lastQ_bd ls
        rw [hla] at HF3 hlb
        rw [hla]
        go_wp2_with (first
          | (refine cb_append HC.out rfl _ _ rfl rfl [704643072] 1 rfl (by decide) rfl rfl (by have := HcF.out.2; simp only [List.length_append, List.length_cons, List.length_nil]; omega) ?_; intro vc wc hC; have HC2 : Hid (CB2 W vc (codeQ P ls) _ [] wc) := hid hC; clear hC)
          | fail)
        refine (memory8_any 24 (by decide) (by decide) (.slice none 0 0) vc [] (codeQ P ls) _ (sl_nil _) HC2.out.sl (by decide) HcF.out.1).mono ?_; rintro e w3 ⟨m, b, m', b', rfl, hm, hb, hb', hM, hR, hg⟩
        have HM := hid hM
        have HG3 := hid (HC2.out.keep hg).hg
        clear hM hR hm hb hb' hg HC HC2
        go_wp2_with (first
          | (refine wpList_build_pc rfl _ rfl rfl ?_)
          | fail)
        refine (mb_new (W := W) HM.out HG3.out (pcP_ok (pc := 2048) (tv := 0) (by decide) (by decide) (by decide) (by decide)) HU.out (q := 24) (by decide) (by decide)).mono ?_; rintro e w4 ⟨pb, rfl, hB⟩
        rw [show initM (memW8 24 [] (codeQ P ls)) (pcP 2048 0) = M0 from HM0.out] at hB
        have HB := hid hB
        clear hB HM HU HG3
        obtain ⟨N, hN⟩ : ∃ N, ls.length = N := ⟨_, rfl⟩
        rw [hN] at hD hl2 hlen hge
        obtain ⟨N2, hN2⟩ : ∃ N2, 2 * N = N2 := ⟨_, rfl⟩
        have e1 : 2 * (N : Int) = (N2 : Int) := by omega
        have e2 : 1 + (N2 : Int) = (D : Int) := by omega
        have hDb : D ≤ 81 := by omega
        go_wp2
        go_loopw [14, 15, 16] (fun a c i wr => ∃ k : Nat, k ≤ D ∧ i = .int .i64 k ∧ Hid (MBox W pb (24 + 16) 24 (iterP (24 + 16) 24 k M0) wr) ∧ a = .int .i64 (waitsQ (ls.take ((k - 1) / 2))) ∧ c = .int .i64 (((k - 1) / 2 : Nat) : Int)) (fun _ _ i _ => D - (intOf i).toNat)
        case atStart => exact ⟨0, Nat.zero_le _, rfl, HB, rfl, rfl⟩
        case round =>
          clear HB
          obtain ⟨k, hk, rfl, HB, rfl, rfl⟩ := hrel
          have hk0 : (0 : Int) ≤ (k : Int) := by omega
          have hnk : (iterP (24 + 16) 24 k M0).now ≤ 1000 := by have h1 := iter_now (n := 24 + 16) (Q := 24) k M0; have h2 := Hn0.out; omega
          have Hnk := hid hnk
          clear hnk
          obtain ⟨J, hJ⟩ : ∃ J, (k - 1) / 2 = J := ⟨_, rfl⟩
          obtain ⟨U, hU⟩ : ∃ U, waitsQ (ls.take J) = U := ⟨_, rfl⟩
          rw [hJ, hU]
          by_cases hlt : k < D
          · have hk1 : (k : Int) < (D : Int) := by omega
            have HW1 := hid (Hwt.out (k + 1) (by omega) (by omega))
            rw [show (k + 1 - 1) / 2 = k / 2 by omega] at HW1
            go_wp2_with fail
            refine (mb_step HB.out (by have := Hnk.out; omega) _ rfl _ (iter_snoc (24 + 16) 24 k M0).symm).mono ?_; rintro e w6 ⟨rfl, hB, hO⟩
            have HB6 := hid hB
            clear hB hO HB
            by_cases hev : 0 < k ∧ k % 2 = 0
            · have hj : k / 2 = J + 1 := by omega
              have hkp : (k : Int) > 0 := by omega
              have hJN : J < N := by omega
              have hj0 : (0 : Int) ≤ (J : Int) := by omega
              have hj1 : (J : Int) < (N : Int) := by omega
              have hrm : (k : Int).tmod 2 = 0 := by rw [Int.tmod_eq_emod_of_nonneg (by omega)]; omega
              obtain ⟨x, hx⟩ : ∃ x, ls[J]? = some x := ⟨_, List.getElem?_eq_getElem (by omega)⟩
              rcases Hs.out with ⟨_, hnil⟩ | ⟨bl, o, c2, he, hbl, hcl⟩
              · rw [hnil] at hx; simp at hx
              have hp : p = some ⟨bl, o, none⟩ := by injection he
              have hcy := (grown_cell (p := ⟨bl, o + J, none⟩) HB6.out.old hbl (by simp)).trans (hcl J x hx)
              have hxb := i64_bd (Hw.out x (List.mem_of_getElem? hx))
              have x0 := hxb.1
              have x1 := hxb.2
              have hwn : waitsQ (ls.take (J + 1)) = waitsF (fQ x) U := by rw [List.take_add_one, hx, ← hU]; exact waitsQ_snoc _ _
              rw [hj, hwn] at HW1
              have HUn := hid hwn
              obtain ⟨F, hF⟩ : ∃ F, numB x 24 = F := ⟨_, rfl⟩
              have HF : Hid (numB x 24 = F) := hid hF
              have HfQ : Hid (fQ x = (F : Int)) := hid (by unfold fQ; rw [hF])
              rw [HfQ.out] at HW1 HUn
              have hle : U ≤ 81 := by have h1 := queue_le (ls.take J); rw [hU, List.length_take] at h1; omega
              clear he hcl hx hF hxb hwn
              subst hp
              by_cases h17 : 17 ≤ F
              · have hf2 : (17 : Int) ≤ (F : Int) := by omega
                by_cases h16 : U = 16
                · have hu2 : (U : Int) = 16 := by omega
                  have ew : waitsF (F : Int) U = 1 := by unfold waitsF; rw [if_pos (by omega), if_pos h16]
                  rw [ew] at HW1 HUn
                  go_wp2_with fail
                  refine (number_any x 24 (by decide) (by decide) x0 x1 _).mono ?_; rintro e w7 ⟨rfl, rfl⟩
                  rw [HF.out]
                  go_wp2_with fail
                  refine (mb_wait HB6.out _ HW1.out).mono ?_; rintro e w7 ⟨rfl, rfl⟩
                  go_wp2
                  go_roundw
                  case rel => exact ⟨k + 1, by omega, by go_num, HB6, by rw [show (k + 1 - 1) / 2 = J + 1 by omega, HUn.out] <;> rfl, by rw [show (k + 1 - 1) / 2 = J + 1 by omega] <;> rfl⟩
                  case measure => simp [intOf]; omega
                · have hu2 : ¬ (U : Int) = 16 := by omega
                  obtain ⟨U1, hU1⟩ : ∃ U1, U + 1 = U1 := ⟨_, rfl⟩
                  have hu3 : (U : Int) + 1 = (U1 : Int) := by omega
                  have ew : waitsF (F : Int) U = U1 := by unfold waitsF; rw [if_pos (by omega), if_neg h16, hU1]
                  rw [ew] at HW1 HUn
                  go_wp2_with fail
                  refine (number_any x 24 (by decide) (by decide) x0 x1 _).mono ?_; rintro e w7 ⟨rfl, rfl⟩
                  rw [HF.out]
                  go_wp2_with fail
                  refine (mb_wait HB6.out _ HW1.out).mono ?_; rintro e w7 ⟨rfl, rfl⟩
                  go_wp2
                  go_roundw
                  case rel => exact ⟨k + 1, by omega, by go_num, HB6, by rw [show (k + 1 - 1) / 2 = J + 1 by omega, HUn.out] <;> rfl, by rw [show (k + 1 - 1) / 2 = J + 1 by omega] <;> rfl⟩
                  case measure => simp [intOf]; omega
              · have hf2 : ¬ (17 : Int) ≤ (F : Int) := by omega
                have hf3 : (F : Int) < 17 := by omega
                have ew : waitsF (F : Int) U = U := by unfold waitsF; rw [if_neg (by omega)]
                rw [ew] at HW1 HUn
                go_wp2_with fail
                refine (number_any x 24 (by decide) (by decide) x0 x1 _).mono ?_; rintro e w7 ⟨rfl, rfl⟩
                rw [HF.out]
                go_wp2_with fail
                refine (mb_wait HB6.out _ HW1.out).mono ?_; rintro e w7 ⟨rfl, rfl⟩
                go_wp2
                go_roundw
                case rel => exact ⟨k + 1, by omega, by go_num, HB6, by rw [show (k + 1 - 1) / 2 = J + 1 by omega, HUn.out] <;> rfl, by rw [show (k + 1 - 1) / 2 = J + 1 by omega] <;> rfl⟩
                case measure => simp [intOf]; omega
            · have hj : k / 2 = J := by omega
              rw [hj, hU] at HW1
              by_cases hkz : k = 0
              · subst hkz
                go_wp2_with fail
                refine (mb_wait HB6.out _ HW1.out).mono ?_; rintro e w7 ⟨rfl, rfl⟩
                go_wp2
                go_roundw
                case rel => exact ⟨0 + 1, by omega, by go_num, HB6, by rw [show (0 + 1 - 1) / 2 = J by omega, hU], by rw [show (0 + 1 - 1) / 2 = J by omega]⟩
                case measure => simp [intOf]; omega
              · have hkn : 0 < k := by omega
                have hkp : (k : Int) > 0 := by omega
                have hrm : (k : Int).tmod 2 = 1 := by rw [Int.tmod_eq_emod_of_nonneg (by omega)]; omega
                go_wp2_with fail
                refine (mb_wait HB6.out _ HW1.out).mono ?_; rintro e w7 ⟨rfl, rfl⟩
                go_wp2
                go_roundw
                case rel => exact ⟨k + 1, by omega, by go_num, HB6, by rw [show (k + 1 - 1) / 2 = J by omega, hU], by rw [show (k + 1 - 1) / 2 = J by omega]⟩
                case measure => simp [intOf]; omega
          · have hge : ¬ (k : Int) < (D : Int) := by omega
            have ek : k = D := by omega
            subst ek
            go_wp2_with fail
            refine (mb_step HB.out (by have := Hnk.out; omega) _ rfl MF (by rw [← HMF.out, iter_snoc])).mono ?_; rintro e w6 ⟨rfl, hB, hO⟩
            have HB6 := hid hB
            clear hB hO HB
            go_wp2_with fail
            refine (mb_mem HB6.out).mono ?_; rintro e w7 ⟨mm, bb, cc, rfl, h1, h2, hM, hg⟩
            have HM7 := hid hM
            have HB7 := hid (HB6.out.keep hg)
            clear h1 h2 hM hg HB6
            obtain ⟨R, hR⟩ : ∃ R, 16 + P = R := ⟨_, rfl⟩
            have eR : 16 + (P : Int) = (R : Int) := by omega
            obtain ⟨R1, hR1⟩ : ∃ R1, 17 + P = R1 := ⟨_, rfl⟩
            have eR1 : 17 + (P : Int) = (R1 : Int) := by omega
            rw [hR] at HF3
            go_wp2_with fail
            refine (read_of HM7.out R R _ rfl HF3.out).mono ?_; rintro e w8 ⟨rfl, rfl⟩
            by_cases hla0 : la < 0
            · have hla1 : ¬ la ≥ 0 := by omega
              have HwQ : Hid (wordQ P la = (R1 : Int) * 256 + 7) := hid (by unfold wordQ; rw [if_pos hla0, ← eR1])
              have H7 := hid (or7 R1 (by omega))
              rw [HwQ.out]
              go_wp2_with fail
              rw [H7.out]
              go_wp2_with fail
              refine (mb_wait HB7.out 0 (by rw [HF1.out]; rfl)).mono ?_; rintro e w9 ⟨rfl, rfl⟩
              go_wp2_with fail
              refine (mb_over HB7.out false HF2.out).mono ?_; rintro e w9 ⟨rfl, rfl⟩
              go_wp2
              go_ret
              exact ⟨rfl, grown_below HB7.out.old⟩
            · have hla1 : la ≥ 0 := by omega
              obtain ⟨G, hG⟩ : ∃ G : Nat, la = (G : Int) := ⟨la.toNat, by omega⟩
              have HwQ : Hid (wordQ P la = (G : Int) * 256 + 3) := hid (by unfold wordQ; rw [if_neg hla0, hG])
              have H3 := hid (orQ G (by omega))
              subst hG
              rw [HwQ.out]
              go_wp2_with fail
              rw [H3.out]
              go_wp2_with fail
              refine (mb_wait HB7.out 0 (by rw [HF1.out]; rfl)).mono ?_; rintro e w9 ⟨rfl, rfl⟩
              go_wp2_with fail
              refine (mb_over HB7.out false HF2.out).mono ?_; rintro e w9 ⟨rfl, rfl⟩
              go_wp2
              go_ret
              exact ⟨rfl, grown_below HB7.out.old⟩
  · have hl2 : (ls.length : Int) > 40 := by omega
    go_enter Tryz.func6, Tryz.ntmps6
    go_wp2_with fail
    refine (first8_any _).mono ?_; rintro e w1 ⟨rfl, hg⟩
    have HG := hid hg
    clear hg
    go_wp2
    go_ret
    exact ⟨rfl, grown_below HG.out⟩
end Go.Proofs.YtkkbhifplbleiaaGreatDoor
