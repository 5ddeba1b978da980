/- What one instruction keeps: words. -/
import Derived.Test.YtpkgckjlhjcdmaaDoorZCore11
import Derived.Test.YtpkgckjlhjcdmaaDoorZGWay
namespace Go.Proofs.YtpkgckjlhjcdmaaDoor
open Go.RowKit
section
variable {n : Nat} {xs : List Int} {l : List Int} {pc : Int} {ie eie : Bool} {epc tv cc cd : Int}
theorem targ_bd (hl : Regs l) {op a c im : Int} (i0 : 0 ≤ im) (i1 : im < 4294967296) : 0 ≤ targV ⟨l, pc, ie, eie, epc, tv, cc, cd⟩ op a c im ∧ targV ⟨l, pc, ie, eie, epc, tv, cc, cd⟩ op a c im < 4294967296 := by
  unfold targV
  split
  · omega
  · split
    · exact hl.reg a
    · exact ⟨i0, i1⟩
theorem inn_good (hu : U32s xs) (hl : Regs l) (p0 : 0 ≤ pc) (p1 : pc < 4294967296) {root : Int} {user : Bool} {op a b c im ln : Int} (i0 : 0 ≤ im) (i1 : im < 4294967296) {y : Cp} {s : Sp} {ms : List Int}
    (hm : innP xs n root ⟨l, pc, ie, eie, epc, tv, cc, cd⟩ user op a b c im ln = ⟨y, s, ms⟩) : (0 ≤ y.pc ∧ y.pc < 4294967296) ∧ U32s ms := by
  unfold innP at hm
  split at hm
  · unfold moveP at hm
    split at hm
    · split at hm
      · injection hm with q1 q2 q3
        subst q1 q3
        refine ⟨?_, hu.set _ (hl.reg a).1 (hl.reg a).2⟩
        show 0 ≤ (pc + ln) % 4294967296 ∧ (pc + ln) % 4294967296 < 4294967296
        omega
      · injection hm with q1 q2 q3
        subst q1 q3
        refine ⟨?_, hu⟩
        show 0 ≤ (pc + ln) % 4294967296 ∧ (pc + ln) % 4294967296 < 4294967296
        omega
    · injection hm with q1 q2 q3
      subst q1 q3
      exact ⟨⟨p0, p1⟩, hu⟩
  · split at hm
    · injection hm with q1 q2 q3
      subst q1 q3
      refine ⟨?_, hu⟩
      show 0 ≤ (if takenB op a b c im l = true then targV ⟨l, pc, ie, eie, epc, tv, cc, cd⟩ op a c im else (pc + ln) % 4294967296) ∧ (if takenB op a b c im l = true then targV ⟨l, pc, ie, eie, epc, tv, cc, cd⟩ op a c im else (pc + ln) % 4294967296) < 4294967296
      split
      · exact targ_bd hl i0 i1
      · omega
    · injection hm with q1 q2 q3
      subst q1 q3
      refine ⟨?_, hu⟩
      show 0 ≤ (pc + ln) % 4294967296 ∧ (pc + ln) % 4294967296 < 4294967296
      omega
theorem once_good (hu : U32s xs) (hl : Regs l) (p0 : 0 ≤ pc) (p1 : pc < 4294967296) {root : Int} {user : Bool} {y : Cp} {s : Sp} {ms : List Int} (ho : onceP xs n root ⟨l, pc, ie, eie, epc, tv, cc, cd⟩ user = ⟨y, s, ms⟩) :
    (0 ≤ y.pc ∧ y.pc < 4294967296) ∧ U32s ms := by
  unfold onceP at ho
  obtain ⟨t, hs⟩ : ∃ t, fetchP xs n root pc user = t := ⟨_, rfl⟩
  have ho : doP xs n root ⟨l, pc, ie, eie, epc, tv, cc, cd⟩ user (fetchP xs n root pc user) = _ := ho
  rw [hs] at ho
  obtain ⟨ca0, ad0, op0, a0, b0, c0, im0, ln0⟩ := t
  unfold doP at ho
  by_cases hca : ca0 = 0
  · subst hca
    obtain ⟨hi, _, rfl, i0, i1⟩ := fetch_ok hu hs
    simp only [if_true] at ho
    rcases cls_four hi with hk | hk | hk | hk
    · simp only [hk, if_true] at ho
      exact inn_good hu hl p0 p1 i0 i1 ho
    · simp only [hk, Int.reduceEq, if_false] at ho
      injection ho with q1 q2 q3; subst q1 q3; exact ⟨⟨p0, p1⟩, hu⟩
    · simp only [hk, Int.reduceEq, if_false, if_true] at ho
      cases user
      · simp only [Bool.false_eq_true, if_false] at ho
        injection ho with q1 q2 q3; subst q1 q3; exact ⟨⟨p0, p1⟩, hu⟩
      · simp only [if_true] at ho
        injection ho with q1 q2 q3; subst q1 q3
        refine ⟨?_, hu⟩
        show 0 ≤ (pc + ln0) % 4294967296 ∧ (pc + ln0) % 4294967296 < 4294967296
        omega
    · simp only [hk, Int.reduceEq, if_false, if_true] at ho
      injection ho with q1 q2 q3; subst q1 q3; exact ⟨⟨p0, p1⟩, hu⟩
  · simp only [hca, if_false] at ho
    injection ho with q1 q2 q3; subst q1 q3; exact ⟨⟨p0, p1⟩, hu⟩
end
end Go.Proofs.YtpkgckjlhjcdmaaDoor
