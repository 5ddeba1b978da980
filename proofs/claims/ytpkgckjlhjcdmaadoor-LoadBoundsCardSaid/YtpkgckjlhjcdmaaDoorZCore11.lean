/- core.Once as a function: a contract; what it keeps. -/
import Derived.Test.YtpkgckjlhjcdmaaDoorZCore10
import Derived.Test.YtpkgckjlhjcdmaaDoorZGIsa
namespace Go.Proofs.YtpkgckjlhjcdmaaDoor
open Go.RowKit
section
variable {m bm n cap : Nat} {xs : List Int} {l : List Int} {pc : Int} {ie eie : Bool} {epc tv cc cd : Int} {W : World}
theorem sil_len (hl : l.length = 16) (user : Bool) (op a ln : Int) : (if user = true then silX ⟨l, pc, ie, eie, epc, tv, cc, cd⟩ op a ln else ⟨l, pc, ie, eie, epc, tv, cc, cd⟩).l.length = 16 := by
  cases user
  · exact hl
  · show (if op = 66 then l.set a.toNat 1 else l).length = 16
    split
    · rw [List.length_set]; exact hl
    · exact hl
theorem inn_regs (hu : U32s xs) (hl : Regs l) {root : Int} {user : Bool} {op a b c im ln : Int} (i0 : 0 ≤ im) (i1 : im < 4294967296) {y : Cp} {s : Sp} {ms : List Int} (hm : innP xs n root ⟨l, pc, ie, eie, epc, tv, cc, cd⟩ user op a b c im ln = ⟨y, s, ms⟩) : Regs y.l := by
  unfold innP at hm
  split at hm
  · exact move_regs hu hl hm
  · split at hm
    · injection hm with q1; subst q1; exact jump_regs hl (by omega)
    · injection hm with q1; subst q1; exact aluL_regs hl i0 i1
theorem cls_four {op a b c im : Int} (h : insB op a b c im = true) : clsI op = 1 ∨ clsI op = 2 ∨ clsI op = 3 ∨ clsI op = 4 := by
  have h1 := cls_lo (ins_parts h).1
  have h2 := cls_hi op
  omega
/-- what one instruction leaves: words -/
theorem once_regs (hu : U32s xs) (hl : Regs l) {root : Int} {user : Bool} {y : Cp} {s : Sp} {ms : List Int} (ho : onceP xs n root ⟨l, pc, ie, eie, epc, tv, cc, cd⟩ user = ⟨y, s, ms⟩) : Regs y.l := by
  unfold onceP at ho
  obtain ⟨t, hs⟩ : ∃ t, fetchP xs n root pc user = t := ⟨_, rfl⟩
  have ho : doP xs n root ⟨l, pc, ie, eie, epc, tv, cc, cd⟩ user (fetchP xs n root pc user) = _ := ho
  rw [hs] at ho
  obtain ⟨ca0, ad0, op0, a0, b0, c0, im0, ln0⟩ := t
  unfold doP at ho
  by_cases hca : ca0 = 0
  · subst hca
    obtain ⟨hi, _, rfl, i0, i1⟩ := fetch_ok hu hs
    simp only [if_true] at ho
    rcases cls_four hi with hk | hk | hk | hk
    · simp only [hk, if_true] at ho
      exact inn_regs hu hl i0 i1 ho
    · simp only [hk, Int.reduceEq, if_false] at ho
      injection ho with q1; subst q1; exact hl
    · simp only [hk, Int.reduceEq, if_false, if_true] at ho
      cases user
      · simp only [Bool.false_eq_true, if_false] at ho
        injection ho with q1; subst q1; exact hl
      · simp only [if_true] at ho
        injection ho with q1; subst q1
        show Regs (if op0 = 66 then l.set a0.toNat 1 else l)
        split
        · exact hl.set _ (by decide) (by decide)
        · exact hl
    · simp only [hk, Int.reduceEq, if_false, if_true] at ho
      injection ho with q1; subst q1; exact hl
  · simp only [hca, if_false] at ho
    injection ho with q1; subst q1; exact hl
end
end Go.Proofs.YtpkgckjlhjcdmaaDoor
