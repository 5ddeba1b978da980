/- The law RelaxLeast: walked. -/
import Derived.Test.YtmhkghkfpkekbaaRSays
namespace Go.Proofs.Ytmhkghkfpkekbaa
open Go.RowKit
/-- long where it was, and a branch: as far as j -/
def anR (L : List RIt) (B : List Bool) (j : Nat) : List Bool := (List.range L.length).map fun k => if k < j then (B.getD k false && isBr L k) else B.getD k false
theorem anR_length (L : List RIt) (B : List Bool) (j : Nat) : (anR L B j).length = L.length := by simp [anR]
theorem anR_getD {L : List RIt} {B : List Bool} {j k : Nat} (h : k < L.length) : (anR L B j).getD k false = if k < j then (B.getD k false && isBr L k) else B.getD k false := by simp [anR, List.getD_eq_getElem?_getD, h]
theorem anR_zero {L : List RIt} {B : List Bool} (hB : B.length = L.length) : anR L B 0 = B := by
  apply List.ext_getElem?
  intro k
  by_cases h : k < L.length
  · have := anR_getD h (B := B) (j := 0)
    rw [if_neg (by omega), List.getD_eq_getElem?_getD, List.getD_eq_getElem?_getD] at this
    rw [List.getElem?_eq_getElem (by rw [anR_length]; exact h), List.getElem?_eq_getElem (by omega)] at this ⊢
    simpa using this
  · rw [List.getElem?_eq_none (by rw [anR_length]; omega), List.getElem?_eq_none (by omega)]
theorem anR_set {L : List RIt} {B : List Bool} {j : Nat} (_hj : j < L.length) : (anR L B j).set j (B.getD j false && isBr L j) = anR L B (j + 1) := by
  apply List.ext_getElem?
  intro k
  by_cases h : k < L.length
  · rw [List.getElem?_set, anR_length]
    by_cases e : j = k
    · subst e
      rw [if_pos rfl, if_pos h]
      simp [anR, h]
    · rw [if_neg e]
      simp only [anR, List.getElem?_map, List.getElem?_range h, Option.map_some]
      congr 1
      by_cases e2 : k < j
      · rw [if_pos e2, if_pos (by omega)]
      · rw [if_neg e2, if_neg (by omega)]
  · rw [List.getElem?_eq_none (by rw [List.length_set, anR_length]; omega), List.getElem?_eq_none (by rw [anR_length]; omega)]
theorem cntP_succ (p : Nat → Bool) (k : Nat) : cntP p (k + 1) = cntP p k + (if p k then 1 else 0) := rfl
theorem isBr_get {L : List RIt} {k : Nat} {r : RIt} (h : L[k]? = some r) : isBr L k = r.b := by unfold isBr; rw [h]
structure LsW (W w : World) (av ov : Value) (L : List RIt) (A O : List Bool) : Prop where
  gr : W.grownBy w none
  a : BlAt w av A
  o : w.ownsRow W.heap.size 4 1 ov L.length (O.map Value.bool)
  ne : av.ownBlock = none ∨ av.ownBlock ≠ ov.ownBlock
theorem CsAt.keptV {w w1 : World} {v : Value} {n : Nat} {cs : List Value} {r : Option Nat} (h : CsAt w v n cs) (hg : w.grownBy w1 r) (hr : v.ownBlock = none ∨ v.ownBlock ≠ r) : CsAt w1 v n cs := by
  rcases h with h | ⟨b, o, c, rfl, hn, hb, hc⟩
  · exact .inl h
  · refine .inr ⟨b, o, c, rfl, hn, Nat.lt_of_lt_of_le hb hg.size, fun j x hx => ?_⟩
    rw [grown_cell hg hb (by simpa [Value.ownBlock] using hr)]
    exact hc j x hx
theorem LsW.set {W w : World} {av : Value} {g cap : Nat} {L : List RIt} {A B : List Bool} {j : Nat} (h : LsW W w av (.slice (some ⟨g, 0, none⟩) L.length cap) L A (anR L B j)) (hj : j < L.length) {x : Bool} (hx : x = (B.getD j false && isBr L j)) :
    LsW W (w.setCell ⟨g, j, none⟩ (.bool x)) av (.slice (some ⟨g, 0, none⟩) L.length cap) L A (anR L B (j + 1)) := by
  obtain ⟨h1, h2⟩ := h.o.stored j (.bool x)
  have hge := (h.o.lt g rfl).1
  refine ⟨grown_new' (grown_trans (grown_none h.gr) h2) (fun k hk => by obtain rfl := Option.some.inj hk; exact hge), CsAt.keptV h.a h2 h.ne, ?_, h.ne⟩
  rw [← anR_set hj, ← hx, List.map_set]
  exact h1
set_option maxRecDepth 100000 in
set_option maxHeartbeats 8000000 in
theorem least_walk (v : Value) (L : List RIt) (vb : Value) (B : List Bool) (W : World) (h : RiAt W v L) (hl : L.length ≤ maxLen) (hb : BlAt W vb B) (hbl : B.length ≤ maxLen) :
    Calls Try.prog 5 #[v, vb] W fun e W' => e = .returned (.bool true) ∧ Below W.heap.size W W' := by
  obtain ⟨p, c, hv⟩ := h.len
  subst hv
  obtain ⟨pb, cb, hvb⟩ := hb.len
  subst hvb
  obtain ⟨n, hn⟩ : ∃ n, L.length = n := ⟨_, rfl⟩
  obtain ⟨m, hm⟩ : ∃ m, B.length = m := ⟨_, rfl⟩
  have HNe := hid hn
  have HMe := hid hm
  have HAv : Hid (RiAt W (.slice p n c) L) := hid (by rw [← hn]; exact h)
  have HBv : Hid (BlAt W (.slice pb m cb) B) := hid (by rw [← hm]; exact hb)
  rw [hn] at hl ⊢
  rw [hm] at hbl ⊢
  unfold maxLen at hl hbl
  have n0 : (0 : Int) ≤ (n : Int) := by omega
  have m0 : (0 : Int) ≤ (m : Int) := by omega
  have n9 : (n : Int) ≤ 9223372036854775807 := by omega
  have m9 : (m : Int) ≤ 9223372036854775807 := by omega
  clear h hb hl hbl hn hm
  go_enter Try.func5, Try.ntmps5
  go_wp2_with fail
  refine (first12_any _).mono ?_
  rintro e w1 ⟨rfl, hg⟩
  have HG1 := hid hg
  clear hg
  by_cases hbig : 60 < n
  · have d1 : decide ((60 : Int) < (n : Int)) = true := by simp; omega
    go_wp2
    go_ret
    exact ⟨rfl, grown_below HG1.out⟩
  · have d1 : decide ((60 : Int) < (n : Int)) = false := by simp; omega
    have Hn : Hid (n ≤ 60) := hid (by omega)
    clear hbig
    by_cases hmn : m = n
    · subst hmn
      have d2 : ((m : Int) == (m : Int)) = true := by simp
      have d3 : (m == m) = true := by simp
      cases hval : validR L
      · go_wp2_with fail
        refine (do_noR (HAv.out.kept0 HG1.out) (by rw [HNe.out]; have := Hn.out; omega) hval).mono ?_
        rintro e w3 ⟨rfl, hg⟩
        have HG3 := hid (grown_trans HG1.out hg)
        clear hg
        go_wp2
        go_ret
        exact ⟨rfl, grown_below HG3.out⟩
      · have hok : okR L = true := by unfold validR at hval; rw [Bool.and_eq_true] at hval; exact hval.2
        have HOk := hid hok
        obtain ⟨K, _, hK⟩ := rounds_ex L
        have HK : Hid (RndR L K) := hid hK
        have HKb : Hid (K ≤ cntP (isBr L) L.length) := hid (rnd_branches HK.out)
        have HK6 : Hid (K ≤ 60) := hid (by have := rnd_bound HK.out; have := Hn.out; have := HNe.out; omega)
        have HIl : Hid ((itR L K).length = m) := hid (by rw [itR_length, HNe.out])
        have HVal := hid hval
        have HL5 : Hid (L.length ≤ 5000) := hid (by rw [HNe.out]; have := Hn.out; omega)
        clear hok hK hval
        go_wp2_with fail
        refine (do_yesR (HAv.out.kept0 HG1.out) HVal.out HK.out).mono ?_
        rintro e w3 ⟨ga, rfl, hoa, hg⟩
        rw [HNe.out] at hoa ⊢
        have HG3 := hid (grown_trans HG1.out hg)
        have HAa : Hid (BlAt w3 (.slice (some ⟨ga, 0, none⟩) m m) (itR L K)) := hid (by have := CsAt.own hoa; unfold BlAt; rw [HIl.out]; exact this)
        have Hga := hid (hoa.lt ga rfl).2
        clear hg hoa
        have m6 : (m : Int) ≤ 60 := by have := Hn.out; omega
        go_wp2
        go_loopw [9, 10] (fun br i wr => ∃ k : Nat, k ≤ m ∧ i = .int .i64 k ∧ br = .int .i64 (cntP (isBr L) k) ∧ wr = w3) (fun _ i _ => m - (intOf i).toNat)
        case atStart => exact ⟨0, Nat.zero_le _, rfl, rfl, rfl⟩
        case round =>
          obtain ⟨k, hk, rfl, rfl, rfl⟩ := hrel
          have k0 : (0 : Int) ≤ (k : Int) := by omega
          have hcs := cntP_succ (isBr L) k
          have hcb := cntP_bound (isBr L) k
          obtain ⟨M, hM⟩ : ∃ M, cntP (isBr L) k = M := ⟨_, rfl⟩
          rw [hM] at hcs hcb ⊢
          have HM := hid hM
          have M0 : (0 : Int) ≤ (M : Int) := by omega
          have M1 : (M : Int) ≤ 60 := by omega
          clear hM hcb
          by_cases hlt : k < m
          · have kn : (k : Int) < (m : Int) := by omega
            have Hlt := hid hlt
            obtain ⟨r, hr⟩ : ∃ r, L[k]? = some r := ⟨_, List.getElem?_eq_getElem (by have := HNe.out; omega)⟩
            have hbr := isBr_get hr
            obtain ⟨b, o, c', hv, hb, c0, c1, c2⟩ := RiAt.item (HAv.out.kept0 HG3.out) hr
            simp only [Value.slice.injEq] at hv
            obtain ⟨rfl, -, -⟩ := hv
            obtain ⟨bb, ob, cb', hvb, hbb, cB⟩ := BlAt.item HAa.out (by rw [HIl.out]; exact hlt)
            simp only [Value.slice.injEq, Option.some.injEq, Addr.mk.injEq] at hvb
            obtain ⟨⟨rfl, rfl, -⟩, -⟩ := hvb
            rw [Nat.zero_add] at cB
            obtain ⟨s, t, br⟩ := r
            simp only at c0 c1 c2 hbr
            have hia := itR_br (L := L) (k := k) K
            rw [hbr] at hia hcs
            cases br
            · have hfa : (itR L K).getD k false = false := by
                cases e : (itR L K).getD k false with
                | false => rfl
                | true => exact absurd (hia e) (by simp)
              rw [hfa] at cB
              have Hcs := hid hcs
              clear hr hlt hb hbb c0 c1 hia hcs hbr hfa
              go_wp2
              go_roundw
              case rel => exact ⟨k + 1, Hlt.out, by go_num, by rw [Hcs.out]; simp, by first | rfl | trivial⟩
              case measure => simp [intOf]; have := Hlt.out; omega
            · have Hcs := hid hcs
              clear hr hlt hb hbb c0 c1 hia hcs hbr
              go_wp2
              go_roundw
              case rel => exact ⟨k + 1, Hlt.out, by go_num, by rw [Hcs.out]; simp, by first | rfl | trivial⟩
              case measure => simp [intOf]; have := Hlt.out; omega
          · obtain rfl : k = m := by omega
            clear hlt hcs
            have kn : ¬ ((k : Int) < (k : Int)) := by omega
            have hKM : K ≤ M := by have := HKb.out; rw [HNe.out, HM.out] at this; exact this
            have d4 : decide ((M : Int) < (K : Int)) = false := by simp; omega
            have d5 : decide (M < K) = false := by simp; omega
            have d6 : ¬ (M < K) := by omega
            clear hKM
            go_wp2_with fail
            refine (fits_rel (HAv.out.kept0 HG3.out) HAa.out (itR_length K) HOk.out HL5.out (rnd_fits HK.out)).mono ?_
            rintro e w4 ⟨rfl, hg⟩
            have HG4 := hid (grown_trans HG3.out hg)
            have HA4 := hid (HAa.out.kept0 hg)
            have Hga4 := hid (Nat.lt_of_lt_of_le Hga.out hg.size)
            clear hg HG3 HAa
            go_wp2_with fail
            refine (bools_any (HBv.out.kept0 HG4.out) (by rw [HMe.out]; have := Hn.out; omega)).mono ?_
            rintro e w5 ⟨ov, rfl, ho, hg⟩
            obtain ⟨op, oc, rfl⟩ := own_slice ho
            have HLs : Hid (LsW W w5 (.slice (some ⟨ga, 0, none⟩) k k) (.slice op B.length oc) L (itR L K) (anR L B 0)) := hid (by
              refine ⟨grown_trans HG4.out hg, HA4.out.kept0 hg, ?_, ?_⟩
              · rw [anR_zero (by rw [HMe.out, HNe.out]), HNe.out, ← HMe.out]
                exact own_base ho HG4.out.size
              · refine .inr (fun e => ?_)
                have h1 := (ho.lt ga e.symm).1
                have h3 := Hga4.out
                omega)
            rw [HMe.out] at HLs ⊢
            clear ho hg HG4 HA4
            go_wp2
            go_loopw [12] (fun i wr => ∃ j : Nat, j ≤ k ∧ i = .int .i64 j ∧ Hid (LsW W wr (.slice (some ⟨ga, 0, none⟩) k k) (.slice op k oc) L (itR L K) (anR L B j))) (fun i _ => k - (intOf i).toNat)
            case atStart => exact ⟨0, Nat.zero_le _, rfl, HLs⟩
            case round =>
              obtain ⟨j, hj, rfl, HR⟩ := hrel
              clear HLs
              have j0 : (0 : Int) ≤ (j : Int) := by omega
              by_cases hlt : j < k
              · have jn : (j : Int) < (k : Int) := by omega
                have Hlt := hid hlt
                obtain ⟨r, hr⟩ : ∃ r, L[j]? = some r := ⟨_, List.getElem?_eq_getElem (by have := HNe.out; omega)⟩
                have hbr := isBr_get hr
                obtain ⟨b, o, c', hv, hb, c0, c1, c2⟩ := RiAt.item (HAv.out.kept0 HR.out.gr) hr
                simp only [Value.slice.injEq] at hv
                obtain ⟨rfl, -, -⟩ := hv
                obtain ⟨g, hg⟩ : ∃ g, op = some ⟨g, 0, none⟩ := by
                  rcases HR.out.o.2 with ⟨h, h0⟩ | ⟨g, cap, cur, h, _⟩
                  · have := HNe.out; omega
                  · simp only [Value.slice.injEq] at h; exact ⟨g, h.1⟩
                subst hg
                obtain ⟨s, t, br⟩ := r
                simp only at c0 c1 c2 hbr
                obtain ⟨x, hx⟩ : ∃ x, (B.getD j false && isBr L j) = x := ⟨_, rfl⟩
                have hB9 : LsW W wr (.slice (some ⟨ga, 0, none⟩) k k) (.slice (some ⟨g, 0, none⟩) L.length oc) L (itR L K) (anR L B j) := by rw [HNe.out]; exact HR.out
                have hS := hB9.set (by rw [HNe.out]; exact hlt) hx.symm
                rw [HNe.out] at hS
                have HS := hid hS
                have hc := hB9.o.cellAt j (by rw [HNe.out]; omega)
                have hfz := hB9.o.frozenAt j
                have hgd := anR_getD (L := L) (B := B) (j := j) (k := j) (by rw [HNe.out]; exact hlt)
                rw [if_neg (by omega), List.getD_eq_getElem?_getD] at hgd
                rw [List.getElem?_map] at hc
                rw [List.getElem?_eq_getElem (by rw [anR_length, HNe.out]; exact hlt), Option.getD_some] at hgd
                rw [List.getElem?_eq_getElem (by rw [anR_length, HNe.out]; exact hlt), Option.map_some, hgd] at hc
                generalize B.getD j false = bx at hc hx
                rw [hbr] at hx
                clear hr hlt hb c0 c1 hgd hB9 hS hbr hj
                cases bx
                · obtain rfl : x = false := by rw [← hx]; rfl
                  clear hx
                  go_wp2
                  go_roundw
                  case rel => exact ⟨j + 1, Hlt.out, by go_num, HS⟩
                  case measure => simp [intOf]; have := Hlt.out; omega
                · obtain rfl : x = br := by rw [← hx]; simp
                  clear hx
                  go_wp2
                  go_roundw
                  case rel => exact ⟨j + 1, Hlt.out, by go_num, HS⟩
                  case measure => simp [intOf]; have := Hlt.out; omega
              · obtain rfl : j = k := by omega
                clear hlt
                have jn : ¬ ((j : Int) < (j : Int)) := by omega
                obtain ⟨O, hO⟩ : ∃ O, anR L B j = O := ⟨_, rfl⟩
                have HOl : Hid (O.length = L.length) := hid (by rw [← hO]; exact anR_length L B j)
                rw [hO] at HR
                have HOb : Hid (BlAt wr (.slice op j oc) O) := hid (by have := CsAt.own HR.out.o; unfold BlAt; rw [HOl.out, HNe.out]; rw [HNe.out] at this; exact this)
                obtain ⟨f, hf⟩ : ∃ f, decide (farR L O L.length = []) = f := ⟨_, rfl⟩
                have Hf := hid hf
                clear hO
                go_wp2_with fail
                refine (fits_rel (HAv.out.kept0 HR.out.gr) HOb.out HOl.out HOk.out HL5.out hf).mono ?_
                rintro e w6 ⟨rfl, hg⟩
                have HG6 := hid (grown_trans HR.out.gr hg)
                have HA6 := hid (HR.out.a.kept0 hg)
                have HO6 := hid (HOb.out.kept0 hg)
                clear hg HR HOb hf
                cases f
                · go_wp2
                  go_ret
                  exact ⟨rfl, grown_below HG6.out⟩
                · have HLi : Hid (∀ k, (itR L K).getD k false = true → O.getD k false = true) := hid (least_in (LeR.refl HOk.out) (of_decide_eq_true Hf.out) K)
                  go_wp2
                  go_loopw [13] (fun i wr => ∃ k : Nat, k ≤ j ∧ i = .int .i64 k ∧ wr = w6) (fun i _ => j - (intOf i).toNat)
                  case atStart => exact ⟨0, Nat.zero_le _, rfl, rfl⟩
                  case round =>
                    obtain ⟨k, hk, rfl, rfl⟩ := hrel
                    have k0 : (0 : Int) ≤ (k : Int) := by omega
                    by_cases hlt : k < j
                    · have kn : (k : Int) < (j : Int) := by omega
                      have Hlt := hid hlt
                      obtain ⟨bb, ob, cb', hvb, hbb, cA⟩ := BlAt.item HA6.out (by rw [HIl.out]; exact hlt)
                      simp only [Value.slice.injEq, Option.some.injEq, Addr.mk.injEq] at hvb
                      obtain ⟨⟨rfl, rfl, -⟩, -⟩ := hvb
                      rw [Nat.zero_add] at cA
                      obtain ⟨b2, o2, c2', hv2, hb2, cO⟩ := BlAt.item HO6.out (by rw [HOl.out, HNe.out]; exact hlt)
                      simp only [Value.slice.injEq] at hv2
                      obtain ⟨rfl, -, -⟩ := hv2
                      have hli := HLi.out k
                      generalize (itR L K).getD k false = x at cA hli
                      generalize O.getD k false = y at cO hli
                      clear hlt hbb hb2 hk
                      cases x
                      · go_wp2
                        go_roundw
                        case rel => exact ⟨k + 1, Hlt.out, by go_num, by first | rfl | trivial⟩
                        case measure => simp [intOf]; have := Hlt.out; omega
                      · obtain rfl : y = true := hli rfl
                        go_wp2
                        go_roundw
                        case rel => exact ⟨k + 1, Hlt.out, by go_num, by first | rfl | trivial⟩
                        case measure => simp [intOf]; have := Hlt.out; omega
                    · obtain rfl : k = j := by omega
                      clear hlt
                      have kn : ¬ ((k : Int) < (k : Int)) := by omega
                      go_wp2
                      go_ret
                      exact ⟨rfl, grown_below HG6.out⟩
    · have d2 : ((m : Int) == (n : Int)) = false := by simp; omega
      have d3 : (m == n) = false := by simpa using hmn
      clear hmn
      go_wp2
      go_ret
      exact ⟨rfl, grown_below HG1.out⟩
end Go.Proofs.Ytmhkghkfpkekbaa
