/- The walk of the law BareShows. -/
import Derived.Test.YtkkbhifplbleiaaGreatDoorZBShowP
import Derived.Test.YtkkbhifplbleiaaGreatDoorZGBareC
import Derived.Test.YtkkbhifplbleiaaGreatDoorZGDev
import Derived.LoopTactic
import Derived.Deep.Cut
import Derived.BigGuardPart
import Derived.BigQuiet
namespace Go.Proofs.YtkkbhifplbleiaaGreatDoor
open Go.RowKit
theorem sn_at {l : List Int} {e : List Sn} {SN : List Sn} (h : SN = l.map (fun y => ((1, 0, y) : Sn)) ++ e) : SN.length = l.length + e.length ∧ (∀ (z : Int) (i : Nat), l[i]? = some z → SN[i]? = some ((1, 0, z) : Sn)) ∧ ∀ j, SN[l.length + j]? = e[j]? := by
  subst h
  refine ⟨by simp, fun z i hz => ?_, fun j => ?_⟩
  · have hlt := (List.getElem?_eq_some_iff.1 hz).1
    rw [List.getElem?_append_left (by simpa using hlt), List.getElem?_map, hz]
    rfl
  · rw [List.getElem?_append_right (by simp), List.length_map, Nat.add_sub_cancel_left]
/-- a step behind the end -/
theorem mb_done {W w : World} {p n : Nat} {q : Int} {M : Mc} (h : MBox W p n q M w) (hov : M.ov = true) :
    Calls Tryz.prog 15 #[.pointer (some ⟨p, 0, none⟩)] w fun e w' => e = .returned (.bool false) ∧ w.grownBy w' none := by
  obtain ⟨B, m, bm, d, cap, vs, vw, h1, h2, h3, h4, h5⟩ := h
  have hov2 := h1.g.tail 3 (v := .bool M.ov) rfl
  rw [hov] at hov2
  clear h1
  go_enter Tryz.func15, Tryz.ntmps15
  go_wp2
  go_ret
  exact ⟨rfl, grown_refl _ _⟩
set_option maxRecDepth 100000 in
set_option maxHeartbeats 16000000 in
theorem shows_walk (v : Value) (ls : List Int) (key : Int) (W : World) (hs : SlAt W .u32 v ls) (hw : ∀ n ∈ ls, (Lit.int .u32 n).wf = true) (hl0 : ls.length ≤ maxLen) (k0 : 0 ≤ key) (k1 : key ≤ 4294967295) :
    Calls Tryz.prog 8 #[v, .int .u32 key] W fun e w' => e = .returned (.bool true) ∧ Below W.heap.size W w' := by
  have Hz := zero_cpu
  obtain ⟨p, c', rfl⟩ := hs.len
  have hux : U32s ls := fun n hn => by have := u32_bd (hw n hn); omega
  have Hs := hid hs
  unfold maxLen at hl0
  clear hs hw
  by_cases hlen : ls.length ≤ 20
  · have hl2 : ¬ (ls.length : Int) > 20 := by omega
    obtain ⟨M0, hM0⟩ : ∃ M0, initM (memW8 24 [] (codeH ls)) (pcP 2048 0) = M0 := ⟨_, rfl⟩
    obtain ⟨MP, hMP⟩ : ∃ MP, pressM M0 key = MP := ⟨_, rfl⟩
    have hMH : machH ls key = MP := by rw [← hMP, ← hM0]; rfl
    obtain ⟨D, hD⟩ : ∃ D, 2 * ls.length + 8 = D := ⟨_, rfl⟩
    obtain ⟨MF, hMF⟩ : ∃ MF, iterP (24 + 16) 24 D MP = MF := ⟨_, rfl⟩
    obtain ⟨hF1, hF2, hF3⟩ := show_run ls key hlen
    have hbf : ∀ k : Nat, k < D → (iterP (24 + 16) 24 k MP).ov = false := fun k hk => by rw [← hMH]; exact show_before ls key hlen (by omega)
    rw [hD, hMH, hMF] at hF1 hF2 hF3
    obtain ⟨hSl, hSg, hSe⟩ := sn_at hF3
    have HM0 := hid hM0
    have HMP := hid hMP
    have HMF := hid hMF
    have HF1 := hid hF1
    have HF2 : Hid (MF.now = (D : Int)) := hid (by rw [hF2]; omega)
    have HSl := hid hSl
    have HSg := hid hSg
    have HSe := hid hSe
    have Hbf := hid hbf
    have HQ0 : Hid (M0.d.Q = []) := hid (by rw [← hM0]; rfl)
    have Hn0 : Hid (MP.now = 0) := hid (by rw [← hMP, ← hM0]; rfl)
    have HU := hid (memW8_u32 24 (data := []) (code := codeH ls) (fun x hx => by cases hx) (u32s_app (showC_u32 ls hux) (by intro x hx; simp [tailC] at hx; rcases hx with rfl | rfl | rfl | rfl | rfl | rfl | rfl | rfl | rfl <;> omega)))
    have HcF : Hid ((codeH ls).length ≤ 256 ∧ (showC ls).length ≤ 60) := hid (by have := showC_len ls; unfold codeH tailC; simp; omega)
    clear hF1 hF2 hF3 hSl hSg hSe hMF hM0 hMP hMH hbf hux
    go_enter Tryz.func8, Tryz.ntmps8
    go_wp2_with fail
    refine (first8_any _).mono ?_; rintro e w1 ⟨rfl, hg⟩
    have HC1 := hid (CB2.nil hg)
    clear hg
    go_wp2
    go_loopw [6, 7] (fun a i wr => ∃ k : Nat, k ≤ ls.length ∧ i = .int .i64 k ∧ Hid (CB2 W a (showC (ls.take k)) (.slice none 0 0) [] wr)) (fun _ i _ => ls.length - (intOf i).toNat)
    case atStart => exact ⟨0, Nat.zero_le _, rfl, HC1⟩
    case round =>
      clear HC1
      obtain ⟨k, hk, rfl, HC⟩ := hrel
      have hk0 : (0 : Int) ≤ (k : Int) := by omega
      by_cases hlt : k < ls.length
      · have hk1 : (k : Int) < (ls.length : Int) := by omega
        obtain ⟨x, hx⟩ : ∃ x, ls[k]? = some x := ⟨_, List.getElem?_eq_getElem hlt⟩
        rcases Hs.out with ⟨_, hnil⟩ | ⟨bl, o, c2, he, hbl, hcl⟩
        · rw [hnil] at hlt; simp at hlt
        have hp : p = some ⟨bl, o, none⟩ := by injection he
        have hcy := (grown_cell (p := ⟨bl, o + k, none⟩) HC.out.hg hbl (by simp)).trans (hcl k x hx)
        have Htk : Hid (ls.take (k + 1) = ls.take k ++ [x]) := hid (by rw [List.take_add_one, hx]; rfl)
        have Hlc : Hid ((showC (ls.take k)).length ≤ 60) := hid (by have h1 := showC_len (ls.take k); rw [List.length_take] at h1; omega)
        clear he hcl hx
        subst hp
        go_wp2_with (first
          | (refine cb_append HC.out rfl _ _ rfl rfl [234946560, x, 587268096] 3 rfl (by decide) rfl rfl (by have := Hlc.out; omega) ?_; intro va wa ha; have HA := hid ha; clear ha)
          | fail)
        go_roundw
        case rel => exact ⟨k + 1, by omega, by go_num, by rw [Htk.out, showC_snoc]; exact HA⟩
        case measure => simp [intOf]; omega
      · have hge : ¬ (k : Int) < (ls.length : Int) := by omega
        have ek : ls.take k = ls := List.take_of_length_le (by omega)
        rw [ek] at HC
        clear ek hk hlt hk0
        go_wp2_with (first
          | (refine cb_append HC.out rfl _ _ rfl rfl [235012096, 5, 604176384, 620888832, 637796864, 587464704, 671481856, 587595776, 537264128] 9 rfl (by decide) rfl rfl (by have := HcF.out.2; omega) ?_; intro vc wc hC; have HC2 : Hid (CB2 W vc (codeH ls) _ [] wc) := hid hC; clear hC)
          | fail)
        refine (memory8_any 24 (by decide) (by decide) (.slice none 0 0) vc [] (codeH ls) _ (sl_nil _) HC2.out.sl (by decide) HcF.out.1).mono ?_; rintro e w3 ⟨m, b, m', b', rfl, hm, hb, hb', hM, hR, hg⟩
        have HM := hid hM
        have HG3 := hid (HC2.out.keep hg).hg
        clear hM hR hm hb hb' hg HC HC2
        go_wp2_with (first
          | (refine wpList_build_pc rfl _ rfl rfl ?_)
          | fail)
        refine (mb_new (W := W) HM.out HG3.out (pcP_ok (pc := 2048) (tv := 0) (by decide) (by decide) (by decide) (by decide)) HU.out (q := 24) (by decide) (by decide)).mono ?_; rintro e w4 ⟨pb, rfl, hB⟩
        rw [HM0.out] at hB
        have HB := hid hB
        clear hB HM HU HG3
        go_wp2_with fail
        refine (mb_press HB.out key k0 (by omega) true (by rw [HQ0.out]; decide)).mono ?_; rintro e w5 ⟨rfl, hB, _⟩
        rw [HMP.out] at hB
        have HB5 := hid hB
        clear hB HB
        obtain ⟨N, hN⟩ : ∃ N, ls.length = N := ⟨_, rfl⟩
        rw [hN] at hD hl2 hlen hge
        obtain ⟨N2, hN2⟩ : ∃ N2, 2 * N = N2 := ⟨_, rfl⟩
        have e1 : 2 * (N : Int) = (N2 : Int) := by omega
        have e2 : (N2 : Int) + 8 = (D : Int) := by omega
        have hDb : D ≤ 48 := by omega
        have hD0 : (0 : Int) ≤ (D : Int) := by omega
        go_wp2
        go_loopw [13] (fun i wr => ∃ k : Nat, k ≤ D ∧ i = .int .i64 k ∧ Hid (MBox W pb (24 + 16) 24 (iterP (24 + 16) 24 k MP) wr)) (fun i _ => D - (intOf i).toNat)
        case atStart => exact ⟨0, Nat.zero_le _, rfl, HB5⟩
        case round =>
          clear HB5
          obtain ⟨k, hk, rfl, HB⟩ := hrel
          have hk0 : (0 : Int) ≤ (k : Int) := by omega
          have hnk : (iterP (24 + 16) 24 k MP).now ≤ 1000 := by have h1 := iter_now (n := 24 + 16) (Q := 24) k MP; have h2 := Hn0.out; omega
          have Hnk := hid hnk
          clear hnk
          by_cases hlt : k < D
          · have hk1 : (k : Int) < (D : Int) := by omega
            have Hov := hid (Hbf.out k hlt)
            go_wp2_with fail
            refine (mb_over HB.out false Hov.out).mono ?_; rintro e w5 ⟨rfl, rfl⟩
            go_wp2_with fail
            refine (mb_step HB.out (by have := Hnk.out; omega) true (by rw [Hov.out]; rfl) _ (iter_snoc (24 + 16) 24 k MP).symm).mono ?_; rintro e w6 ⟨rfl, hB, hO⟩
            have HB6 := hid hB
            clear hB hO HB
            go_wp2
            go_roundw
            case rel => exact ⟨k + 1, by omega, by go_num, HB6⟩
            case measure => simp [intOf]; omega
          · have hge : ¬ (k : Int) < (D : Int) := by omega
            have ek : k = D := by omega
            rw [ek, HMF.out] at HB
            clear hlt Hnk
            go_wp2_with fail
            refine (mb_seen HB.out (by rw [HSl.out]; simp; omega) _ rfl).mono ?_; rintro e w7 ⟨v1, rfl, hA, hg⟩
            have HA : Hid (SnAt w7 v1 MF.d.sn) := hid (SnAt.own hA)
            have HB7 := hid (HB.out.keep hg)
            have HGW := hid HB7.out.old
            clear hA hg HB
            obtain ⟨bs, cs, rfl, hbs, hcs⟩ : ∃ bs cs, v1 = .slice (some ⟨bs, 0, none⟩) (N + 4 : Nat) cs ∧ bs < w7.heap.size ∧ ∀ j u, (snCells MF.d.sn)[j]? = some u → w7.cell? ⟨bs, j, none⟩ = some u := by
              have hSl := HSl.out
              rcases HA.out with ⟨_, h0⟩ | ⟨b, c, h1, h2, h3⟩
              · rw [h0] at hSl
                simp at hSl
              · refine ⟨b, c, ?_, h2, h3⟩
                rw [h1, hSl, hN]
                rfl
            have Hcs := hid hcs
            have Hbs := hid hbs
            obtain ⟨S, hS⟩ : ∃ S, N + 4 = S := ⟨_, rfl⟩
            have hSN : (N : Int) + 4 = (S : Int) := by omega
            rw [hS]
            clear HA hcs hbs
            go_wp2_with fail
            refine (mb_over HB7.out true HF1.out).mono ?_; rintro e w8 ⟨rfl, rfl⟩
            go_wp2_with fail
            refine (mb_done HB7.out HF1.out).mono ?_; rintro e w8 ⟨rfl, hg⟩
            have HB8 := hid (HB7.out.keep hg)
            have HG8 := hid hg
            clear hg HB7
            go_wp2_with fail
            refine (mb_now HB8.out D HF2.out).mono ?_; rintro e w9 ⟨rfl, rfl⟩
            go_wp2
            go_loopw [16] (fun i wr => ∃ k : Nat, k ≤ N ∧ i = .int .i64 k ∧ Hid (w7.grownBy wr none)) (fun i _ => N - (intOf i).toNat)
            case atStart => exact ⟨0, Nat.zero_le _, rfl, HG8⟩
            case round =>
              clear hk hk0 HG8 hge ek
              obtain ⟨k, hk, rfl, HG⟩ := hrel
              have hk0 : (0 : Int) ≤ (k : Int) := by omega
              by_cases hlt : k < N
              · have hk1 : (k : Int) < (N : Int) := by omega
                have hk2 : (k : Int) < (S : Int) := by omega
                obtain ⟨z, hz⟩ : ∃ z, ls[k]? = some z := ⟨_, List.getElem?_eq_getElem (by rw [hN]; exact hlt)⟩
                have cx := sn_cells Hbs.out Hcs.out HG.out (HSg.out z k hz)
                have c1 := cx.1
                have c3 := cx.2.2
                rcases Hs.out with ⟨_, hnil⟩ | ⟨bw, ow, cw2, he, hbw, hcw⟩
                · rw [hnil] at hz; simp at hz
                obtain rfl : p = some ⟨bw, ow, none⟩ := by injection he
                have c5 := (grown_cell (p := ⟨bw, ow + k, none⟩) (grown_trans HGW.out HG.out) hbw (by simp)).trans (hcw k z hz)
                clear cx he hcw hz
                go_wp2
                go_quiet (fail)
                go_wp2
                go_roundw
                case rel => exact ⟨k + 1, by omega, by go_num, hid (grown_drewN HG.out _)⟩
                case measure => simp [intOf]; omega
              · have hge : ¬ (k : Int) < (N : Int) := by omega
                obtain ⟨K1, hK1⟩ : ∃ K1, N + 1 = K1 := ⟨_, rfl⟩
                obtain ⟨K2, hK2⟩ : ∃ K2, N + 2 = K2 := ⟨_, rfl⟩
                obtain ⟨K3, hK3⟩ : ∃ K3, N + 3 = K3 := ⟨_, rfl⟩
                obtain ⟨E, hE⟩ : ∃ E, N2 + 5 = E := ⟨_, rfl⟩
                have f1 : (N : Int) + 1 = (K1 : Int) := by omega
                have f2 : (N : Int) + 2 = (K2 : Int) := by omega
                have f3 : (N : Int) + 3 = (K3 : Int) := by omega
                have f5 : (N2 : Int) + 5 = (E : Int) := by omega
                have s0 := HSe.out 0
                have s1 := HSe.out 1
                have s2 := HSe.out 2
                have s3 := HSe.out 3
                rw [hN, Nat.add_zero, e1, f5] at s0
                rw [hN, hK1, e1, f5] at s1
                rw [hN, hK2, e1, f5] at s2
                rw [hN, hK3, e1, f5] at s3
                have c0 := sn_cells Hbs.out Hcs.out HG.out s0
                have c1 := sn_cells Hbs.out Hcs.out HG.out s1
                have c2 := sn_cells Hbs.out Hcs.out HG.out s2
                have c3 := sn_cells Hbs.out Hcs.out HG.out s3
                have d1 := c0.1
                have d2 := c0.2.1
                have d3 := c0.2.2
                have d4 := c1.2.2
                have d5 := c2.2.2
                have d6 := c3.1
                have d7 := c3.2.2
                have g0 : (0 : Int) ≤ (N : Int) ∧ (N : Int) < (S : Int) := by omega
                have g1 : (0 : Int) ≤ (K1 : Int) ∧ (K1 : Int) < (S : Int) := by omega
                have g2 : (0 : Int) ≤ (K2 : Int) ∧ (K2 : Int) < (S : Int) := by omega
                have g3 : (0 : Int) ≤ (K3 : Int) ∧ (K3 : Int) < (S : Int) := by omega
                obtain ⟨g00, g01⟩ := g0
                obtain ⟨g10, g11⟩ := g1
                obtain ⟨g20, g21⟩ := g2
                obtain ⟨g30, g31⟩ := g3
                clear c0 c1 c2 c3 s0 s1 s2 s3
                go_wp2
                go_ret
                exact ⟨rfl, grown_below (grown_trans HGW.out HG.out)⟩
  · have hl2 : (ls.length : Int) > 20 := by omega
    go_enter Tryz.func8, Tryz.ntmps8
    go_wp2_with fail
    refine (first8_any _).mono ?_; rintro e w1 ⟨rfl, hg⟩
    have HG := hid hg
    clear hg
    go_wp2
    go_ret
    exact ⟨rfl, grown_below HG.out⟩
end Go.Proofs.YtkkbhifplbleiaaGreatDoor
