/- The document's own Once as a function: a contract. -/
import Derived.Test.YtaecbekobpgkoaaDoorZRCore2
import Derived.Test.YtaecbekobpgkoaaDoorZRCore3
import Derived.Test.YtaecbekobpgkoaaDoorZRCore4
import Derived.Test.YtaecbekobpgkoaaDoorZCore11
namespace Go.Proofs.YtaecbekobpgkoaaDoor
open Go.RowKit
section
variable {m b0 n N : Nat} {xs : List Int} {l : List Int} {pc : Int} {ie eie : Bool} {epc tv cc cd : Int} {W : World}
/-- what is answered, and memory then -/
def OutRAt (W : World) (m b0 N : Nat) (y : Cp) (ca ad op a b c im ln : Int) (ms : List Int) (e : Ending) (w' : World) : Prop :=
  e = .returned (.tuple #[.agg (cpuC y), .agg (spC ca ad op a b c im ln)]) ∧ RefAt w' m b0 N ms ∧ W.grownBy w' (some b0)
theorem rinn_of (h : RefAt W m b0 N xs) (hN : N = n * 16) (hn2 : n ≤ 1024) (hu : U32s xs) (hl : Regs l) (p0 : 0 ≤ pc) (p1 : pc < 4294967296) (root : Int) (user : Bool) {op a b c im ln : Int} (hs : fetchP xs n root pc user = ⟨0, 0, op, a, b, c, im, ln⟩)
    (hi : insB op a b c im = true) (hk : clsI op = 1) (i0 : 0 ≤ im) (i1 : im < 4294967296) (y : Cp) (ca ad op' a' b' c' im' ln' : Int) (ms : List Int)
    (hm : innP xs n root ⟨l, pc, ie, eie, epc, tv, cc, cd⟩ user op a b c im ln = ⟨y, ⟨ca, ad, op', a', b', c', im', ln'⟩, ms⟩) :
    Calls Tryd.prog 20 #[.pointer (some ⟨m, 0, none⟩), .int .i64 root, .agg (cpuC ⟨l, pc, ie, eie, epc, tv, cc, cd⟩), .bool user] W (OutRAt W m b0 N y ca ad op' a' b' c' im' ln' ms) := by
  have keepM : ∀ w', W.grownBy w' none → RefAt w' m b0 N xs ∧ W.grownBy w' (some b0) := fun w' g => ⟨h.kept0 g, grown_none g⟩
  unfold innP at hm
  by_cases ho : op = 12 ∨ op = 13
  · rw [if_pos ho] at hm
    obtain ⟨⟨a0, a1⟩, ⟨b0', b1⟩, c0, c1⟩ := ins_ldst hi ho
    obtain ⟨ka, rfl⟩ := Int.eq_ofNat_of_zero_le a0
    obtain ⟨kb, rfl⟩ := Int.eq_ofNat_of_zero_le b0'
    unfold moveP at hm
    rcases ho with rfl | rfl
    · have e13 : ((12 : Int) == 13) = false := by decide
      rw [e13] at hm
      cases hp : atB xs n root (addrI ⟨l, pc, ie, eie, epc, tv, cc, cd⟩ kb c) false user
      · rw [if_neg (by simp [hp])] at hm
        injection hm with q1 q2 q3
        injection q2 with e1 e2 e3 e4 e5 e6 e7 e8
        subst q1 q3 e1 e2 e3 e4 e5 e6 e7 e8
        exact (rmove_no12 h hN hn2 hu hl p0 p1 root user ka kb (by omega) (by omega) c0 c1 _ rfl hp hs).mono fun e w' ⟨he, hg⟩ => ⟨he, keepM w' hg⟩
      · rw [if_pos hp, if_neg (by decide)] at hm
        injection hm with q1 q2 q3
        injection q2 with e1 e2 e3 e4 e5 e6 e7 e8
        subst q1 q3 e1 e2 e3 e4 e5 e6 e7 e8
        exact (rmove_ld h hN hn2 hu hl p0 p1 root user ka kb (by omega) (by omega) c0 c1 _ rfl hp _ rfl hs).mono fun e w' ⟨he, hg⟩ => ⟨he, keepM w' hg⟩
    · have e13 : ((13 : Int) == 13) = true := by decide
      rw [e13] at hm
      cases hp : atB xs n root (addrI ⟨l, pc, ie, eie, epc, tv, cc, cd⟩ kb c) true user
      · rw [if_neg (by simp [hp])] at hm
        injection hm with q1 q2 q3
        injection q2 with e1 e2 e3 e4 e5 e6 e7 e8
        subst q1 q3 e1 e2 e3 e4 e5 e6 e7 e8
        exact (rmove_no13 h hN hn2 hu hl p0 p1 root user ka kb (by omega) (by omega) c0 c1 _ rfl hp hs).mono fun e w' ⟨he, hg⟩ => ⟨he, keepM w' hg⟩
      · obtain ⟨k, hk', hk2⟩ := at_in hp
        rw [if_pos hp, if_pos rfl, hk', Int.toNat_natCast] at hm
        injection hm with q1 q2 q3
        injection q2 with e1 e2 e3 e4 e5 e6 e7 e8
        subst q1 q3 e1 e2 e3 e4 e5 e6 e7 e8
        exact rmove_st h hN hn2 hu hl p0 p1 root user ka kb (by omega) (by omega) c0 c1 _ rfl hp k hk' hk2 hs
  · have ho1 : op ≠ 12 := fun e => ho (.inl e)
    have ho2 : op ≠ 13 := fun e => ho (.inr e)
    rw [if_neg ho] at hm
    cases hj : jmpB op
    · rw [if_neg (by simp [hj])] at hm
      injection hm with q1 q2 q3
      injection q2 with e1 e2 e3 e4 e5 e6 e7 e8
      subst q1 q3 e1 e2 e3 e4 e5 e6 e7 e8
      exact (ronce_alu h hN hn2 hu hl p0 p1 root user hk ho1 ho2 hj _ rfl (aluL_regs hl i0 i1).len hs).mono fun e w' ⟨he, hg⟩ => ⟨he, keepM w' hg⟩
    · rw [if_pos hj] at hm
      injection hm with q1 q2 q3
      injection q2 with e1 e2 e3 e4 e5 e6 e7 e8
      subst q1 q3 e1 e2 e3 e4 e5 e6 e7 e8
      have ha : askB op a b c im = true := by unfold askB; rw [hi, hj]; rfl
      unfold jumpX behI targV
      cases ht : takenB op a b c im l
      · have h22 : ¬ op = 22 := by
          rintro rfl
          rw [taken_jal hi] at ht; cases ht
        simp only [h22, if_false, Bool.false_eq_true]
        exact (rjump_not h hN hn2 hu hl p0 p1 root user ha hk ho1 ho2 ht (by simpa using h22) hs).mono fun e w' ⟨he, hg⟩ => ⟨he, keepM w' hg⟩
      · simp only [if_true]
        by_cases h16 : op = 16
        · subst h16
          exact (rjump_16 h hN hn2 hu hl p0 p1 root user ha ht hs).mono fun e w' ⟨he, hg⟩ => ⟨he, keepM w' hg⟩
        · by_cases h17 : op = 17
          · subst h17
            exact (rjump_17 h hN hn2 hu hl p0 p1 root user ha ht hs).mono fun e w' ⟨he, hg⟩ => ⟨he, keepM w' hg⟩
          · by_cases h18 : op = 18
            · subst h18
              exact (rjump_18 h hN hn2 hu hl p0 p1 root user ha ht hs).mono fun e w' ⟨he, hg⟩ => ⟨he, keepM w' hg⟩
            · rw [if_neg (show ¬ (op = 16 ∨ op = 17 ∨ op = 18) by omega)]
              by_cases h23 : op = 23
              · subst h23
                obtain ⟨a0, a1⟩ := ins_jr hi
                obtain ⟨k, rfl⟩ := Int.eq_ofNat_of_zero_le a0
                exact (rjump_reg h hN hn2 hu hl p0 p1 root user k (by omega) ha ht hs).mono fun e w' ⟨he, hg⟩ => ⟨he, keepM w' hg⟩
              · rw [if_neg h23]
                by_cases h22 : op = 22
                · subst h22
                  exact (rjump_call h hN hn2 hu hl p0 p1 root user ha ht hs).mono fun e w' ⟨he, hg⟩ => ⟨he, keepM w' hg⟩
                · rw [if_neg h22]
                  exact (rjump_imm h hN hn2 hu hl p0 p1 root user ha hk ho1 ho2 ht (by simpa using h22) (by simpa using h16) (by simpa using h17) (by simpa using h18) (by simpa using h23) hs).mono fun e w' ⟨he, hg⟩ => ⟨he, keepM w' hg⟩
theorem ronce_of (h : RefAt W m b0 N xs) (hN : N = n * 16) (hn2 : n ≤ 1024) (hu : U32s xs) (hl : Regs l) (p0 : 0 ≤ pc) (p1 : pc < 4294967296) (root : Int) (user : Bool) (y : Cp) (ca ad op a b c im ln : Int) (ms : List Int)
    (ho : onceP xs n root ⟨l, pc, ie, eie, epc, tv, cc, cd⟩ user = ⟨y, ⟨ca, ad, op, a, b, c, im, ln⟩, ms⟩) :
    Calls Tryd.prog 20 #[.pointer (some ⟨m, 0, none⟩), .int .i64 root, .agg (cpuC ⟨l, pc, ie, eie, epc, tv, cc, cd⟩), .bool user] W (OutRAt W m b0 N y ca ad op a b c im ln ms) := by
  have keepM : ∀ w', W.grownBy w' none → RefAt w' m b0 N xs ∧ W.grownBy w' (some b0) := fun w' g => ⟨h.kept0 g, grown_none g⟩
  unfold onceP at ho
  obtain ⟨s, hs⟩ : ∃ s, fetchP xs n root pc user = s := ⟨_, rfl⟩
  have ho : doP xs n root ⟨l, pc, ie, eie, epc, tv, cc, cd⟩ user (fetchP xs n root pc user) = _ := ho
  rw [hs] at ho
  obtain ⟨ca0, ad0, op0, a0, bb0, c0, im0, ln0⟩ := s
  unfold doP at ho
  by_cases hca : ca0 = 0
  · subst hca
    obtain ⟨hi, _, rfl, i0, i1⟩ := fetch_ok hu hs
    simp only [if_true] at ho
    rcases cls_four hi with hk | hk | hk | hk
    · simp only [hk, if_true] at ho
      exact rinn_of h hN hn2 hu hl p0 p1 root user hs hi hk i0 i1 y ca ad op a b c im ln ms ho
    · simp only [hk, Int.reduceEq, if_false] at ho
      injection ho with q1 q2 q3
      injection q2 with e1 e2 e3 e4 e5 e6 e7 e8
      subst q1 q3 e1 e2 e3 e4 e5 e6 e7 e8
      exact (ronce_priv h hN hn2 hu hl p0 p1 root user hk hs).mono fun e w' ⟨he, hg⟩ => ⟨he, keepM w' hg⟩
    · simp only [hk, Int.reduceEq, if_false, if_true] at ho
      cases user
      · simp only [Bool.false_eq_true, if_false] at ho
        injection ho with q1 q2 q3
        injection q2 with e1 e2 e3 e4 e5 e6 e7 e8
        subst q1 q3 e1 e2 e3 e4 e5 e6 e7 e8
        exact (ronce_silno h hN hn2 hu hl p0 p1 root hk hs).mono fun e w' ⟨he, hg⟩ => ⟨he, keepM w' hg⟩
      · simp only [if_true] at ho
        injection ho with q1 q2 q3
        injection q2 with e1 e2 e3 e4 e5 e6 e7 e8
        subst q1 q3 e1 e2 e3 e4 e5 e6 e7 e8
        unfold silX behI
        by_cases h66 : op0 = 66
        · subst h66
          obtain ⟨a0', a1⟩ := ins_gst hi
          obtain ⟨k, rfl⟩ := Int.eq_ofNat_of_zero_le a0'
          exact (ronce_gst h hN hn2 hu hl p0 p1 root k (by omega) hs).mono fun e w' ⟨he, hg⟩ => ⟨he, keepM w' hg⟩
        · simp only [h66, if_false]
          exact (ronce_sil h hN hn2 hu hl p0 p1 root hk (by simpa using h66) hs).mono fun e w' ⟨he, hg⟩ => ⟨he, keepM w' hg⟩
    · simp only [hk, Int.reduceEq, if_false, if_true] at ho
      injection ho with q1 q2 q3
      injection q2 with e1 e2 e3 e4 e5 e6 e7 e8
      subst q1 q3 e1 e2 e3 e4 e5 e6 e7 e8
      exact (ronce_call h hN hn2 hu hl p0 p1 root user hk hs).mono fun e w' ⟨he, hg⟩ => ⟨he, keepM w' hg⟩
  · simp only [hca, if_false] at ho
    injection ho with q1 q2 q3
    injection q2 with e1 e2 e3 e4 e5 e6 e7 e8
    subst q1 q3 e1 e2 e3 e4 e5 e6 e7 e8
    exact (ronce_stop h hN hn2 hu hl p0 p1 root user (by simpa using hca) hs).mono fun e w' ⟨he, hg⟩ => ⟨he, keepM w' hg⟩
end
end Go.Proofs.YtaecbekobpgkoaaDoor
