/- The walk of the law DevKeys. -/
import Derived.Test.YtiglmdilooaeeaaDev7
import Derived.Deep.RegionHeld3
namespace Go.Proofs.Ytiglmdilooaeeaa
open Go.RowKit
theorem zero_q (q : List Int) (h : q = []) : { zeroS with Q := q } = zeroS := by subst h; rfl
set_option maxRecDepth 100000 in
set_option maxHeartbeats 4000000 in
theorem keys_walk (v : Value) (ls : List Int) (w : World) (hs : SlAt w .u32 v ls) (_hw : ∀ n ∈ ls, (Lit.int .u32 n).wf = true) (hl0 : ls.length ≤ maxLen) :
    Calls Try.prog 5 #[v] w fun e w' => e = .returned (.bool true) ∧ Below w.heap.size w w' := by
  have Hz33 := zero_dev
  obtain ⟨p, c0, rfl⟩ : ∃ p c', v = .slice p ls.length c' := by
    rcases hs with ⟨⟨p, c, rfl⟩, rfl⟩ | ⟨b, o, c, rfl, _⟩
    · exact ⟨_, _, rfl⟩
    · exact ⟨_, _, rfl⟩
  have Hs := hid hs
  clear hs
  unfold maxLen at hl0
  obtain ⟨L, hL⟩ : ∃ L, ls.take 64 = L := ⟨_, rfl⟩
  have hLl : L.length = min ls.length 64 := by rw [← hL, List.length_take, Nat.min_comm]
  have hLg : ∀ k : Nat, k < 64 → L[k]? = ls[k]? := fun k hk => by rw [← hL, List.getElem?_take, if_pos hk]
  have HLl := hid hLl
  have HLg := hid hLg
  clear hL hLl hLg
  by_cases hl : ls.length ≤ 70
  · have hl2 : (ls.length : Int) ≤ 70 := by omega
    go_enter Try.func5, Try.ntmps5
    go_wp2_with fail
    refine (first5_any _).mono ?_; rintro e w1 ⟨rfl, hg⟩
    have HG1 := hid hg; clear hg
    go_wp2_with fail
    have HD1 := hid (dev_zero (B := w.heap.size) w1 HG1.out.size)
    have HG2 := hid (grown_alloc HG1.out (.cells zeroD 33))
    generalize w1.alloc (.cells zeroD 33) = w2 at HD1 HG2 ⊢
    generalize w1.heap.size = d at HD1 ⊢
    clear HG1
    go_loopw [5] (fun i wr => ∃ k : Nat, k ≤ ls.length ∧ i = .int .i64 k ∧ Hid (DevAt wr w.heap.size d { zeroS with Q := L.take k } (.slice none 0 0)) ∧ Hid (w.grownBy wr none)) (fun i _ => ls.length - (intOf i).toNat)
    case atStart => exact ⟨0, Nat.zero_le _, rfl, hid (by rw [List.take_zero, zero_q [] rfl]; exact HD1.out), HG2⟩
    case round =>
      obtain ⟨k, hk, rfl, HD, HG⟩ := hrel
      by_cases hlt : k < ls.length
      · rcases Hs.out with ⟨_, rfl⟩ | ⟨bl, o, c', he, hbl, hcl⟩
        · simp at hlt
        · have hp : p = some ⟨bl, o, none⟩ := by injection he
          obtain ⟨y, hy⟩ : ∃ y, ls[k]? = some y := ⟨_, List.getElem?_eq_getElem hlt⟩
          have hcy := (grown_cell (p := ⟨bl, o + k, none⟩) HG.out hbl (by simp)).trans (hcl k y hy)
          have Hy := hid hy
          have hk0 : (0 : Int) ≤ (k : Int) := by omega
          have hk1 : (k : Int) < (ls.length : Int) := by omega
          clear he hcl hy
          subst hp
          by_cases h64 : k < 64
          · have h64' : (k : Int) < 64 := by omega
            go_wp2_with fail
            refine (press_yes HD.out (by have := HLl.out; simp; omega) y).mono ?_; rintro e w3 ⟨rfl, ht⟩
            have HG3 := hid (turned_old HG.out HD.out ht)
            have HD3 : Hid (DevAt w3 w.heap.size d { zeroS with Q := L.take (k + 1) } (.slice none 0 0)) := hid (by
              have := ht.at_
              rw [List.take_add_one, HLg.out k h64, Hy.out]
              exact this)
            clear ht
            go_wp2
            go_roundw
            case rel => exact ⟨k + 1, by omega, by go_num, HD3, HG3⟩
            case measure => simp [intOf]; omega
          · have h64' : ¬ (k : Int) < 64 := by omega
            go_wp2_with fail
            refine (press_no HD.out (by have := HLl.out; simp; omega) y).mono ?_; rintro e w3 ⟨rfl, rfl⟩
            have HD3 : Hid (DevAt wr w.heap.size d { zeroS with Q := L.take (k + 1) } (.slice none 0 0)) := hid (by
              have := HD.out
              have hN := HLl.out
              rw [List.take_of_length_le (by omega)] at this ⊢
              exact this)
            go_wp2
            go_roundw
            case rel => exact ⟨k + 1, by omega, by go_num, HD3, HG⟩
            case measure => simp [intOf]; omega
      · have hge : (ls.length : Int) ≤ (k : Int) := by omega
        obtain rfl : k = ls.length := by omega
        have HDL : Hid (DevAt wr w.heap.size d { zeroS with Q := L } (.slice none 0 0)) := hid (by
          have := HD.out
          rwa [List.take_of_length_le (by have := HLl.out; omega)] at this)
        clear HD HD1 HG2 hlt hge hk
        rcases Nat.lt_or_ge 64 ls.length with h64 | h64
        · have h64' : (64 : Int) < (ls.length : Int) := by omega
          go_wp2
          go_loopw [7] (fun i wq => ∃ j : Nat, j ≤ 64 ∧ i = .int .i64 j ∧ Hid (DevAt wq w.heap.size d { zeroS with Q := L.drop j } (.slice none 0 0)) ∧ Hid (w.grownBy wq none)) (fun i _ => 64 - (intOf i).toNat)
          case atStart => exact ⟨0, Nat.zero_le _, rfl, hid (by rw [List.drop_zero]; exact HDL.out), HG⟩
          case round =>
            obtain ⟨j, hj, rfl, HDj, HGj⟩ := hrel
            by_cases hlt : j < 64
            · rcases Hs.out with ⟨_, rfl⟩ | ⟨bl, o, c', he, hbl, hcl⟩
              · simp at h64
              · have hp : p = some ⟨bl, o, none⟩ := by injection he
                have hjl : j < ls.length := by omega
                obtain ⟨y, hy⟩ : ∃ y, ls[j]? = some y := ⟨_, List.getElem?_eq_getElem hjl⟩
                have hcy := (grown_cell (p := ⟨bl, o + j, none⟩) HGj.out hbl (by simp)).trans (hcl j y hy)
                have Hbl := hid hbl
                have hnb := hid (Nat.lt_of_lt_of_le hbl HGj.out.size)
                have hQ : Hid (L.drop j = y :: L.drop (j + 1)) := hid (List.drop_eq_getElem?_toList_append.trans (by rw [HLg.out j (by omega), hy]; rfl))
                obtain ⟨M, hM⟩ : ∃ M : Nat, 64 - j = M := ⟨_, rfl⟩
                have hMM : 64 - (j : Int) = (M : Int) := by omega
                have hM1 : (M : Int) ≤ 70 := by omega
                have hM0 : (0 : Int) ≤ (M : Int) := by omega
                have hwM : IntKind.i64.wrap (M : Int) = (M : Int) := wrap_i64_id (by omega) (by omega)
                have hkl : Hid ((L.drop j).length = M) := hid (by rw [List.length_drop, HLl.out]; omega)
                have hk0 : (0 : Int) ≤ (j : Int) := by omega
                have hk1 : (j : Int) < 64 := by omega
                have hk2 : (j : Int) < (ls.length : Int) := by omega
                clear he hcl hy hbl
                subst hp
                go_wp2_with fail
                go_region_held3 (fun W => W.cell? ⟨bl, o + j, none⟩ = some (.int .u32 y) ∧ bl < W.heap.size)
                  (first | (exact ⟨hcy, hnb.out⟩) | (go_split_ands; exact ⟨by assumption, by assumption⟩) | (go_split_ands; exact ⟨(HT3.out.lv.cell (by assumption) (by simp [foot, Value.ownBlock]; have := HDj.out.ge; have := Hbl.out; omega)).trans (by assumption), Nat.lt_of_lt_of_le (by assumption) HT3.out.lv.size⟩))
                  (first
                    | (go_at_call 17; refine (keys_any (HDj.out.kept0 (grown_drew (grown_refl _ _))) M hkl.out).mono ?_; rintro e w' ⟨rfl, rfl⟩)
                    | (go_at_call 15; refine (in_yes (HDj.out.kept0 (grown_drew (grown_refl _ _))) hQ.out).mono ?_; rintro e w3 ⟨rfl, ht⟩; have HT3 := hid ht; clear ht))
                have HD3 := hid HT3.out.at_
                have HG3 := hid (turned_old (grown_drew HGj.out) (HDj.out.kept0 (grown_drew (grown_refl _ _))) HT3.out)
                clear HT3
                go_split_ands
                go_wp2
                go_roundw
                case rel => exact ⟨j + 1, by omega, by go_num, HD3, HG3⟩
                case measure => simp [intOf]; omega
            · have hge : 64 ≤ (j : Int) := by omega
              obtain rfl : j = 64 := by omega
              have hend : L.drop 64 = [] := List.drop_eq_nil_of_le (by rw [HLl.out]; omega)
              have HDe : Hid (DevAt wr w.heap.size d zeroS (.slice none 0 0)) := hid (by
                have := HDj.out
                rwa [hend] at this)
              clear hend HDj
              go_wp2_with fail
              refine (keys_any HDe.out 0 rfl).mono ?_; rintro e w' ⟨rfl, rfl⟩
              go_wp2_with fail
              refine (in_no HDe.out rfl).mono ?_; rintro e w' ⟨rfl, rfl⟩
              go_wp2_with fail
              refine (seen_any HDe.out (by decide)).mono ?_; rintro e w5 ⟨u, rfl, hown, hg⟩
              obtain ⟨pu, cu, rfl⟩ := (SnAt.own hown).len
              have HG5 := hid (grown_trans HGj.out hg)
              clear hown hg
              have hz0 : zeroS.sn.length = 0 := rfl
              go_wp2
              go_ret
              exact ⟨rfl, grown_below HG5.out⟩
        · have h64' : (ls.length : Int) ≤ 64 := by omega
          go_wp2
          go_loopw [7] (fun i wq => ∃ j : Nat, j ≤ ls.length ∧ i = .int .i64 j ∧ Hid (DevAt wq w.heap.size d { zeroS with Q := L.drop j } (.slice none 0 0)) ∧ Hid (w.grownBy wq none)) (fun i _ => ls.length - (intOf i).toNat)
          case atStart => exact ⟨0, Nat.zero_le _, rfl, hid (by rw [List.drop_zero]; exact HDL.out), HG⟩
          case round =>
            obtain ⟨j, hj, rfl, HDj, HGj⟩ := hrel
            by_cases hlt : j < ls.length
            · rcases Hs.out with ⟨_, rfl⟩ | ⟨bl, o, c', he, hbl, hcl⟩
              · simp at hlt
              · have hp : p = some ⟨bl, o, none⟩ := by injection he
                have hjl : j < ls.length := by omega
                obtain ⟨y, hy⟩ : ∃ y, ls[j]? = some y := ⟨_, List.getElem?_eq_getElem hjl⟩
                have hcy := (grown_cell (p := ⟨bl, o + j, none⟩) HGj.out hbl (by simp)).trans (hcl j y hy)
                have Hbl := hid hbl
                have hnb := hid (Nat.lt_of_lt_of_le hbl HGj.out.size)
                have hQ : Hid (L.drop j = y :: L.drop (j + 1)) := hid (List.drop_eq_getElem?_toList_append.trans (by rw [HLg.out j (by omega), hy]; rfl))
                obtain ⟨M, hM⟩ : ∃ M : Nat, ls.length - j = M := ⟨_, rfl⟩
                have hMM : (ls.length : Int) - (j : Int) = (M : Int) := by omega
                have hM1 : (M : Int) ≤ 70 := by omega
                have hM0 : (0 : Int) ≤ (M : Int) := by omega
                have hwM : IntKind.i64.wrap (M : Int) = (M : Int) := wrap_i64_id (by omega) (by omega)
                have hkl : Hid ((L.drop j).length = M) := hid (by rw [List.length_drop, HLl.out]; omega)
                have hk0 : (0 : Int) ≤ (j : Int) := by omega
                have hk1 : (j : Int) < (ls.length : Int) := by omega
                have hk2 : (j : Int) < (ls.length : Int) := by omega
                clear he hcl hy hbl
                subst hp
                go_wp2_with fail
                go_region_held3 (fun W => W.cell? ⟨bl, o + j, none⟩ = some (.int .u32 y) ∧ bl < W.heap.size)
                  (first | (exact ⟨hcy, hnb.out⟩) | (go_split_ands; exact ⟨by assumption, by assumption⟩) | (go_split_ands; exact ⟨(HT3.out.lv.cell (by assumption) (by simp [foot, Value.ownBlock]; have := HDj.out.ge; have := Hbl.out; omega)).trans (by assumption), Nat.lt_of_lt_of_le (by assumption) HT3.out.lv.size⟩))
                  (first
                    | (go_at_call 17; refine (keys_any (HDj.out.kept0 (grown_drew (grown_refl _ _))) M hkl.out).mono ?_; rintro e w' ⟨rfl, rfl⟩)
                    | (go_at_call 15; refine (in_yes (HDj.out.kept0 (grown_drew (grown_refl _ _))) hQ.out).mono ?_; rintro e w3 ⟨rfl, ht⟩; have HT3 := hid ht; clear ht))
                have HD3 := hid HT3.out.at_
                have HG3 := hid (turned_old (grown_drew HGj.out) (HDj.out.kept0 (grown_drew (grown_refl _ _))) HT3.out)
                clear HT3
                go_split_ands
                go_wp2
                go_roundw
                case rel => exact ⟨j + 1, by omega, by go_num, HD3, HG3⟩
                case measure => simp [intOf]; omega
            · have hge : (ls.length : Int) ≤ (j : Int) := by omega
              obtain rfl : j = ls.length := by omega
              have hend : L.drop ls.length = [] := List.drop_eq_nil_of_le (by rw [HLl.out]; omega)
              have HDe : Hid (DevAt wr w.heap.size d zeroS (.slice none 0 0)) := hid (by
                have := HDj.out
                rwa [hend] at this)
              clear hend HDj
              go_wp2_with fail
              refine (keys_any HDe.out 0 rfl).mono ?_; rintro e w' ⟨rfl, rfl⟩
              go_wp2_with fail
              refine (in_no HDe.out rfl).mono ?_; rintro e w' ⟨rfl, rfl⟩
              go_wp2_with fail
              refine (seen_any HDe.out (by decide)).mono ?_; rintro e w5 ⟨u, rfl, hown, hg⟩
              obtain ⟨pu, cu, rfl⟩ := (SnAt.own hown).len
              have HG5 := hid (grown_trans HGj.out hg)
              clear hown hg
              have hz0 : zeroS.sn.length = 0 := rfl
              go_wp2
              go_ret
              exact ⟨rfl, grown_below HG5.out⟩
  · have hl2 : ¬ (ls.length : Int) ≤ 70 := by omega
    go_enter Try.func5, Try.ntmps5
    go_wp2_with fail
    refine (first5_any _).mono ?_; rintro e w1 ⟨rfl, hg⟩
    have HG1 := hid hg; clear hg
    go_wp2
    go_ret
    exact ⟨rfl, grown_below HG1.out⟩
end Go.Proofs.Ytiglmdilooaeeaa
