/- The walk of the law DevCopies. -/
import Derived.Test.YtiglmdilooaeeaaDev7
import Derived.Deep.RegionHeld3
namespace Go.Proofs.Ytiglmdilooaeeaa
open Go.RowKit
/-- two devices that share nothing -/
theorem Apart.turned1 {w w1 : World} {B d d2 : Nat} {v v1 v2 : Value} {x1 x2 : DvS} (h : Apart (foot d v) (foot d2 v2)) (h2 : DevAt w B d2 x2 v2) (ht : Turned w B d v x1 w1 v1) : Apart (foot d v1) (foot d2 v2) ∧ DevAt w1 B d2 x2 v2 :=
  ⟨h.mine ht.mine h2.foot_lt, h2.keptL ht.lv h.symm⟩
theorem Apart.turned2 {w w1 : World} {B d d2 : Nat} {v v1 v2 : Value} {x1 x2 : DvS} (h : Apart (foot d v) (foot d2 v2)) (h1 : DevAt w B d x1 v) (ht : Turned w B d2 v2 x2 w1 v1) : Apart (foot d v) (foot d2 v1) ∧ DevAt w1 B d x1 v :=
  ⟨(h.symm.mine ht.mine h1.foot_lt).symm, h1.keptL ht.lv h⟩
set_option maxRecDepth 100000 in
set_option maxHeartbeats 4000000 in
theorem copies_walk (v : Value) (ls : List Int) (sec x after : Int) (w : World) (hs : SlAt w .u32 v ls) (_hw : ∀ n ∈ ls, (Lit.int .u32 n).wf = true) (hl0 : ls.length ≤ maxLen) (k0 : 0 ≤ sec) (k1 : sec ≤ 4294967295) (x0 : 0 ≤ x) (x1 : x ≤ 4294967295) (a0 : 0 ≤ after) (a1 : after ≤ 4294967295) :
    Calls Try.prog 3 #[v, .int .u32 sec, .int .u32 x, .int .u32 after] w fun e w' => e = .returned (.bool true) ∧ Below w.heap.size w w' := by
  have Hz33 := zero_dev
  obtain ⟨p, c0, rfl⟩ : ∃ p c', v = .slice p ls.length c' := by
    rcases hs with ⟨⟨p, c, rfl⟩, rfl⟩ | ⟨b, o, c, rfl, _⟩
    · exact ⟨_, _, rfl⟩
    · exact ⟨_, _, rfl⟩
  have Hs := hid hs
  clear hs
  unfold maxLen at hl0
  obtain ⟨X1, hX1⟩ : ∃ X1, IntKind.u32.wrap (x + 1) = X1 := ⟨_, rfl⟩
  by_cases hl : ls.length ≤ 20
  · have hl2 : (ls.length : Int) ≤ 20 := by omega
    obtain ⟨q, hq⟩ : ∃ q : Nat, sec % 16 = (q : Int) := ⟨(sec % 16).toNat, by omega⟩
    have Hq := hid hq
    have Hq16 : Hid (q < 16) := hid (by omega)
    clear hq
    go_enter Try.func3, Try.ntmps3
    go_wp2_with fail
    refine (first5_any _).mono ?_; rintro e w1 ⟨rfl, hg⟩
    have HG1 := hid hg; clear hg
    go_wp2_with fail
    have HD1 := hid (dev_zero (B := w.heap.size) w1 HG1.out.size)
    have HG2 := hid (grown_alloc HG1.out (.cells zeroD 33))
    generalize w1.alloc (.cells zeroD 33) = w2 at HD1 HG2 ⊢
    generalize w1.heap.size = d at HD1 ⊢
    clear HG1
    go_loopw [11] (fun i wr => ∃ k : Nat, k ≤ ls.length ∧ i = .int .i64 k ∧ Hid (DevAt wr w.heap.size d { zeroS with Q := ls.take k } (.slice none 0 0)) ∧ Hid (w.grownBy wr none)) (fun i _ => ls.length - (intOf i).toNat)
    case atStart => exact ⟨0, Nat.zero_le _, rfl, hid (by rw [List.take_zero]; exact HD1.out), HG2⟩
    case round =>
      obtain ⟨k, hk, rfl, HD, HG⟩ := hrel
      by_cases hlt : k < ls.length
      · rcases Hs.out with ⟨_, rfl⟩ | ⟨bl, o, c', he, hbl, hcl⟩
        · simp at hlt
        · have hp : p = some ⟨bl, o, none⟩ := by injection he
          obtain ⟨y, hy⟩ : ∃ y, ls[k]? = some y := ⟨_, List.getElem?_eq_getElem hlt⟩
          have hcy := (grown_cell (p := ⟨bl, o + k, none⟩) HG.out hbl (by simp)).trans (hcl k y hy)
          have Hy := hid hy
          have h0 : (0 : Int) ≤ (k : Int) := by omega
          have h1 : (k : Int) < (ls.length : Int) := by omega
          clear he hcl hy
          subst hp
          go_wp2_with fail
          refine (press_yes HD.out (by simp; omega) y).mono ?_; rintro e w3 ⟨rfl, ht⟩
          have HG3 := hid (turned_old HG.out HD.out ht)
          have HD3 : Hid (DevAt w3 w.heap.size d { zeroS with Q := ls.take (k + 1) } (.slice none 0 0)) := hid (by
            have := ht.at_
            rw [List.take_add_one, Hy.out]
            exact this)
          clear ht
          go_wp2
          go_roundw
          case rel => exact ⟨k + 1, by omega, by go_num, HD3, HG3⟩
          case measure => simp [intOf]; omega
      · have hge : (ls.length : Int) ≤ (k : Int) := by omega
        obtain rfl : k = ls.length := by omega
        have HDL : Hid (DevAt wr w.heap.size d { zeroS with Q := ls } (.slice none 0 0)) := hid (by
          have := HD.out
          rwa [List.take_length] at this)
        clear HD HD1 HG2 hlt hge hk
        go_wp2_with fail
        refine (put_any HDL.out sec x k0 q Hq.out (by simp [zeroS]) HG.out.size).mono ?_; rintro e w3 ⟨rfl, v3, ht⟩
        have HD3 := hid ht.at_
        have HG3 := hid (turned_old HG.out HDL.out ht)
        clear ht HDL HG
        go_wp2_with fail
        refine (set_any HD3.out 5 after).mono ?_; rintro e w4 ⟨rfl, ht⟩
        have HD4 : Hid (DevAt w4 w.heap.size d ⟨ls, zeroS.S.set q x, 5, after, [(2, (q : Int), x)]⟩ v3) := hid ht.at_
        have HG4 := hid (turned_old HG3.out HD3.out ht)
        clear ht HD3 HG3
        go_wp2_with fail
        refine (clone_any HD4.out (by simp)).mono ?_; rintro e w5 ⟨d2, v5, rfl, hc, hg⟩
        have HD5 := hid (HD4.out.kept0 hg)
        have HC5 := hid (hc.base HG4.out.size)
        have HA5 : Hid (Apart (foot d v3) (foot d2 v5)) := hid (fun i hi hi2 => by have := HD4.out.foot_lt i hi; have := hc.foot_ge i hi2; omega)
        have HG5 := hid (grown_trans HG4.out hg)
        clear hc hg HD4 HG4
        go_wp2_with fail
        refine (put_any HC5.out sec X1 k0 q Hq.out (by simp) HG5.out.size).mono ?_; rintro e w6 ⟨rfl, v6, ht⟩
        have HC6 := hid ht.at_
        have HD6 := hid (HA5.out.turned2 HD5.out ht).2
        have HA6 := hid (HA5.out.turned2 HD5.out ht).1
        have HG6 := hid (turned_old HG5.out HC5.out ht)
        clear ht HC5 HD5 HA5 HG5
        go_wp2_with fail
        refine (rang_any HC6.out).mono ?_; rintro e w7 ⟨rfl, ht⟩
        have HC7 := hid ht.at_
        have HD7 := hid (HA6.out.turned2 HD6.out ht).2
        have HA7 := hid (HA6.out.turned2 HD6.out ht).1
        have HG7 := hid (turned_old HG6.out HC6.out ht)
        clear ht HC6 HD6 HA6 HG6
        go_wp2_with fail
        refine (out_any HC7.out 3 (by simp) HG7.out.size).mono ?_; rintro e w8 ⟨rfl, v8, ht⟩
        have HC8 : Hid (DevAt w8 w.heap.size d2 ⟨ls, (zeroS.S.set q x).set q X1, 0, 0, [(2, (q : Int), x), (2, (q : Int), X1), (1, 0, 3)]⟩ v8) := hid ht.at_
        have HD8 := hid (HA7.out.turned2 HD7.out ht).2
        have HA8 := hid (HA7.out.turned2 HD7.out ht).1
        have HG8 := hid (turned_old HG7.out HC7.out ht)
        clear ht HC7 HD7 HA7 HG7
        go_wp2
        go_loopw [13] (fun i wr => ∃ j : Nat, j ≤ ls.length ∧ i = .int .i64 j ∧ Hid (DevAt wr w.heap.size d2 ⟨ls.drop j, (zeroS.S.set q x).set q X1, 0, 0, [(2, (q : Int), x), (2, (q : Int), X1), (1, 0, 3)]⟩ v8) ∧ Hid (DevAt wr w.heap.size d ⟨ls, zeroS.S.set q x, 5, after, [(2, (q : Int), x)]⟩ v3) ∧ Hid (w.grownBy wr none)) (fun i _ => ls.length - (intOf i).toNat)
        case atStart => exact ⟨0, Nat.zero_le _, rfl, hid (by rw [List.drop_zero]; exact HC8.out), HD8, HG8⟩
        case round =>
          obtain ⟨j, hj, rfl, HC, HD, HG⟩ := hrel
          by_cases hlt : j < ls.length
          · rcases Hs.out with ⟨_, rfl⟩ | ⟨bl, o, c', he, hbl, hcl⟩
            · simp at hlt
            · have hp : p = some ⟨bl, o, none⟩ := by injection he
              obtain ⟨y, hy⟩ : ∃ y, ls[j]? = some y := ⟨_, List.getElem?_eq_getElem hlt⟩
              have hcy := (grown_cell (p := ⟨bl, o + j, none⟩) HG.out hbl (by simp)).trans (hcl j y hy)
              have Hbl := hid hbl
              have hnb := hid (Nat.lt_of_lt_of_le hbl HG.out.size)
              have hQ : Hid (ls.drop j = y :: ls.drop (j + 1)) := hid (List.drop_eq_getElem?_toList_append.trans (by rw [hy]; rfl))
              have hk0 : (0 : Int) ≤ (j : Int) := by omega
              have hk2 : (j : Int) < (ls.length : Int) := by omega
              have HCd := hid (HC.out.kept0 (grown_drew (grown_refl _ none)))
              clear he hcl hy hbl
              subst hp
              go_wp2_with fail
              go_region_held3 (fun W => W.cell? ⟨bl, o + j, none⟩ = some (.int .u32 y) ∧ bl < W.heap.size)
                (first | (exact ⟨hcy, hnb.out⟩) | (go_split_ands; exact ⟨by assumption, by assumption⟩) | (go_split_ands; exact ⟨(HT3.out.lv.cell (by assumption) (fun hi => by have h9 : w.heap.size ≤ bl := HC.out.foot_ge _ hi; have := Hbl.out; omega)).trans (by assumption), Nat.lt_of_lt_of_le (by assumption) HT3.out.lv.size⟩))
                (first
                  | (go_at_call 15; refine (in_yes HCd.out hQ.out).mono ?_; rintro e w3 ⟨rfl, ht⟩; have HT3 := hid ht; clear ht))
              have HC3 := hid HT3.out.at_
              have HD3 := hid (HA8.out.turned2 (HD.out.kept0 (grown_drew (grown_refl _ none))) HT3.out).2
              have HG3 := hid (turned_old (grown_drew HG.out) HCd.out HT3.out)
              clear HT3
              go_split_ands
              go_wp2
              go_roundw
              case rel => exact ⟨j + 1, by omega, by go_num, HC3, HD3, HG3⟩
              case measure => simp [intOf]; omega
          · have hge : (ls.length : Int) ≤ (j : Int) := by omega
            obtain rfl : j = ls.length := by omega
            have HCe : Hid (DevAt wr w.heap.size d2 ⟨[], (zeroS.S.set q x).set q X1, 0, 0, [(2, (q : Int), x), (2, (q : Int), X1), (1, 0, 3)]⟩ v8) := hid (by
              have := HC.out
              rwa [List.drop_length] at this)
            clear HC HC8 HD8 HG8 hj hlt hge
            go_wp2_with fail
            refine (seen_any HD.out (by simp)).mono ?_; rintro e w9 ⟨u, rfl, hown, hg⟩
            obtain ⟨g, cg, cu, rfl, hgn, hgh, hgs, hgc⟩ : ∃ g cg cu, u = .slice (some ⟨g, 0, none⟩) 1 cg ∧ wr.heap.size ≤ g ∧ w9.heap[g]? = some (.cells cu 43 (0, 0)) ∧ 1 ≤ cg ∧ cu[2]? = some (.int .u32 x) := by
              rcases hown.2 with ⟨_, h⟩ | ⟨g, cap, cur, h1, h2, h3, h4, h5, h6, h7⟩
              · simp at h
              · refine ⟨g, cap, cur, h1, h2, h3, h4, ?_⟩
                have := congrArg (·[2]?) h7
                simp only [List.length_singleton, List.getElem?_take, snCells, Array.getElem?_toList] at this
                simpa using this
            have HD9 := hid (HD.out.kept0 hg)
            have HC9 := hid (HCe.out.kept0 hg)
            have HG9 := hid (grown_trans HG.out hg)
            have hgD : g ∉ foot d v3 := fun hi => by have := HD.out.foot_lt g hi; omega
            have hgC : g ∉ foot d2 v8 := fun hi => by have := HCe.out.foot_lt g hi; omega
            have hc2 : w9.cell? ⟨g, 2, none⟩ = some (.int .u32 x) := by rw [cell_of_row w9 g _ _ _ _ hgh]; exact hgc
            have hf2 : w9.frozen? ⟨g, 2, none⟩ = false := frozen_of_row w9 g _ _ _ hgh
            have HL : Lv w9 (w9.setCell ⟨g, 2, none⟩ (.int .u32 X1)) [g] := (Lv.refl _ _).set (by simp) _ _
            have HDs := hid (HD9.out.keptL HL (fun i hi e => hgD (by rw [← List.mem_singleton.1 e]; exact hi)))
            have HCs := hid (HC9.out.keptL HL (fun i hi e => hgC (by rw [← List.mem_singleton.1 e]; exact hi)))
            have HGs := hid (Lv.after HG9.out HL (by have := HG.out.size; simp; omega))
            have h01 : (0 : Int) ≤ (1 : Int) := by omega
            clear hown hg hgn hgh hgs hgc hgD hgC HL HD HCe HG HD9 HC9 HG9
            go_wp2_with fail
            generalize w9.setCell ⟨g, 2, none⟩ (.int .u32 X1) = w10 at HDs HCs HGs ⊢
            clear hc2 hf2
            refine (seen_any HDs.out (by simp)).mono ?_; rintro e w11 ⟨t, rfl, hown, hg⟩
            obtain ⟨g2, cg2, rfl, hgh2, hgc2⟩ : ∃ g cg, t = .slice (some ⟨g, 0, none⟩) 1 cg ∧ g < w11.heap.size ∧ w11.cell? ⟨g, 2, none⟩ = some (.int .u32 x) := by
              rcases hown.2 with ⟨_, h⟩ | ⟨g, cap, cur, h1, h2, h3, h4, h5, h6, h7⟩
              · simp at h
              · refine ⟨g, cap, h1, (Array.getElem?_eq_some_iff.1 h3).1, ?_⟩
                have := congrArg (·[2]?) h7
                simp only [List.length_singleton, List.getElem?_take, snCells, Array.getElem?_toList] at this
                rw [cell_of_row w11 g _ _ _ _ h3]
                simpa using this
            have HT := hid (SnAt.own hown)
            have HDt := hid (HDs.out.kept0 hg)
            have HCt := hid (HCs.out.kept0 hg)
            have HGt := hid (grown_trans HGs.out hg)
            have Hg2 := hid hgh2
            have Hc2 := hid hgc2
            obtain ⟨R, hR⟩ : ∃ R, dueB 5 after (5 + after) = R := ⟨_, rfl⟩
            have hgt : decide (0 < after) = R := by
              rw [← hR]; unfold dueB
              apply decide_eq_decide.2
              omega
            have HR := hid hR
            have hq1 : Hid ((zeroS.S.set q x)[q]? = some x) := hid (List.getElem?_set_self (by have := Hq16.out; exact this))
            have hq2 : Hid (((zeroS.S.set q x).set q X1)[q]? = some X1) := hid (List.getElem?_set_self (by have := Hq16.out; rw [List.length_set]; exact this))
            clear hown hg hgh2 hgc2 HDs HCs HGs hR
            go_wp2_with fail
            refine (keys_any HDt.out ls.length rfl).mono ?_; rintro e w' ⟨rfl, rfl⟩
            go_wp2_with fail
            refine (keys_any HCt.out 0 rfl).mono ?_; rintro e w' ⟨rfl, rfl⟩
            go_wp2_with fail
            refine (get_any HDt.out sec k0 k1 q Hq.out x hq1.out).mono ?_; rintro e w' ⟨rfl, rfl⟩
            go_wp2_with fail
            refine (get_any HCt.out sec k0 k1 q Hq.out X1 hq2.out).mono ?_; rintro e w' ⟨rfl, rfl⟩
            go_wp2_with fail
            refine (due_any HDt.out (5 + after) (by simp) (by simp) a0 a1 (by omega) (by omega) R HR.out).mono ?_; rintro e w12 ⟨rfl, hg⟩
            have HC12 := hid (HCt.out.kept0 hg)
            have HD12 := hid (HDt.out.kept0 hg)
            have HG12 := hid (grown_trans HGt.out hg)
            have HT12 := hid (HT.out.kept0 hg)
            have Hc12 := hid ((grown_cell (p := ⟨g2, 2, none⟩) hg Hg2.out (by simp)).trans Hc2.out)
            have Hs12 := hid (Nat.lt_of_lt_of_le Hg2.out hg.size)
            clear hg HCt HDt HGt HT Hc2 Hg2
            go_wp2_with fail
            refine (due_any HC12.out (5 + after) (by simp) (by simp) (by simp) (by simp) (by omega) (by omega) false (by simp [dueB])).mono ?_; rintro e w13 ⟨rfl, hg⟩
            have HC13 := hid (HC12.out.kept0 hg)
            have HD13 := hid (HD12.out.kept0 hg)
            have HG13 := hid (grown_trans HG12.out hg)
            have HT13 := hid (HT12.out.kept0 hg)
            have Hc13 := hid ((grown_cell (p := ⟨g2, 2, none⟩) hg Hs12.out (by simp)).trans Hc12.out)
            have Hs13 := hid (Nat.lt_of_lt_of_le Hs12.out hg.size)
            clear hg HC12 HD12 HG12 HT12 Hc12 Hs12
            go_wp2_with fail
            refine (seen_any HC13.out (by simp)).mono ?_; rintro e w14 ⟨u3, rfl, hown, hg⟩
            obtain ⟨p3, c3, rfl⟩ : ∃ p c, u3 = .slice p 3 c := (SnAt.own hown).len
            have HD14 := hid (HD13.out.kept0 hg)
            have HG14 := hid (grown_trans HG13.out hg)
            have HT14 := hid (HT13.out.kept0 hg)
            have hc14 := (grown_cell (p := ⟨g2, 2, none⟩) hg Hs13.out (by simp)).trans Hc13.out
            clear hown hg HC13 HD13 HG13 HT13 Hc13 Hs13
            go_wp2_with fail
            refine (seen_any HD14.out (by simp)).mono ?_; rintro e w15 ⟨u4, rfl, hown, hg⟩
            have HU := hid (SnAt.own hown)
            have HT15 := hid (HT14.out.kept0 hg)
            have HG15 := hid (grown_trans HG14.out hg)
            clear hown hg HD14 HG14 HT14 hc14
            go_wp2_with fail
            refine (ss_any HU.out HT15.out (by simp) true (by simp)).mono ?_; rintro e w16 ⟨rfl, hg⟩
            have HG16 := hid (grown_trans HG15.out hg)
            clear hg
            go_wp2
            go_ret
            exact ⟨rfl, grown_below HG16.out⟩
  · have hl2 : ¬ (ls.length : Int) ≤ 20 := by omega
    go_enter Try.func3, Try.ntmps3
    go_wp2_with fail
    refine (first5_any _).mono ?_; rintro e w1 ⟨rfl, hg⟩
    have HG1 := hid hg; clear hg
    go_wp2
    go_ret
    exact ⟨rfl, grown_below HG1.out⟩
end Go.Proofs.Ytiglmdilooaeeaa
