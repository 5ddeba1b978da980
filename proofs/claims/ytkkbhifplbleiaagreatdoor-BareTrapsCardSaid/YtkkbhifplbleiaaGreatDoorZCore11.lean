/- core.Once as a function: a contract; what it keeps. -/
import Derived.Test.YtkkbhifplbleiaaGreatDoorZCore10
import Derived.Test.YtkkbhifplbleiaaGreatDoorZGIsa
namespace Go.Proofs.YtkkbhifplbleiaaGreatDoor
open Go.RowKit
section
variable {m bm n cap : Nat} {xs : List Int} {l : List Int} {pc : Int} {ie eie : Bool} {epc tv cc cd : Int} {W : World}
theorem sil_of (hl : l.length = 16) {op a b c im ln : Int} (hi : insB op a b c im = true) (user : Bool) (w : World) :
    Calls Tryz.prog 107 #[.agg (cpuC ⟨l, pc, ie, eie, epc, tv, cc, cd⟩), .agg (spC 0 0 op a b c im ln), .bool user] w fun e w' =>
      e = .returned (.tuple #[.agg (cpuC (if user = true then silX ⟨l, pc, ie, eie, epc, tv, cc, cd⟩ op a ln else ⟨l, pc, ie, eie, epc, tv, cc, cd⟩)), .agg (spC (if user = true then 0 else 6) 0 op a b c im ln)]) ∧ w.grownBy w' none := by
  cases user
  · exact silent_no hl w
  · simp only [if_true]
    unfold silX behI
    by_cases h : op = 66
    · subst h
      obtain ⟨a0, a1⟩ := ins_gst hi
      obtain ⟨k, rfl⟩ := Int.eq_ofNat_of_zero_le a0
      exact silent_gst hl k (by omega) w
    · simp only [h, if_false]
      exact silent_yes hl (by simpa using h) w
theorem sil_len (hl : l.length = 16) (user : Bool) (op a ln : Int) : (if user = true then silX ⟨l, pc, ie, eie, epc, tv, cc, cd⟩ op a ln else ⟨l, pc, ie, eie, epc, tv, cc, cd⟩).l.length = 16 := by
  cases user
  · exact hl
  · show (if op = 66 then l.set a.toNat 1 else l).length = 16
    split
    · rw [List.length_set]; exact hl
    · exact hl
theorem inn_regs (hu : U32s xs) (hl : Regs l) {root : Int} {user : Bool} {op a b c im ln : Int} (i0 : 0 ≤ im) (i1 : im < 4294967296) {y : Cp} {s : Sp} {ms : List Int} (hm : innP xs n root ⟨l, pc, ie, eie, epc, tv, cc, cd⟩ user op a b c im ln = ⟨y, s, ms⟩) : Regs y.l := by
  unfold innP at hm
  split at hm
  · exact move_regs hu hl hm
  · split at hm
    · injection hm with q1; subst q1; exact jump_regs hl (by omega)
    · injection hm with q1; subst q1; exact aluL_regs hl i0 i1
theorem cls_four {op a b c im : Int} (h : insB op a b c im = true) : clsI op = 1 ∨ clsI op = 2 ∨ clsI op = 3 ∨ clsI op = 4 := by
  have h1 := cls_lo (ins_parts h).1
  have h2 := cls_hi op
  omega
theorem once_of (h : MemAt W m bm n cap xs) (hu : U32s xs) (hl : Regs l) (p0 : 0 ≤ pc) (p1 : pc < 4294967296) (root : Int) (user : Bool) (y : Cp) (ca ad op a b c im ln : Int) (ms : List Int)
    (ho : onceP xs n root ⟨l, pc, ie, eie, epc, tv, cc, cd⟩ user = ⟨y, ⟨ca, ad, op, a, b, c, im, ln⟩, ms⟩) :
    Calls Tryz.prog 72 #[.pointer (some ⟨m, 0, none⟩), .int .i64 root, .agg (cpuC ⟨l, pc, ie, eie, epc, tv, cc, cd⟩), .bool user] W (OutAt W m bm n cap y ca ad op a b c im ln ms) := by
  have keepM : ∀ w', W.grownBy w' none → MemAt w' m bm n cap xs ∧ W.grownBy w' (some bm) := fun w' g => ⟨h.kept0 g, grown_none g⟩
  unfold onceP at ho
  obtain ⟨s, hs⟩ : ∃ s, fetchP xs n root pc user = s := ⟨_, rfl⟩
  have ho : doP xs n root ⟨l, pc, ie, eie, epc, tv, cc, cd⟩ user (fetchP xs n root pc user) = _ := ho
  rw [hs] at ho
  obtain ⟨ca0, ad0, op0, a0, b0, c0, im0, ln0⟩ := s
  unfold doP at ho
  by_cases hca : ca0 = 0
  · subst hca
    obtain ⟨hi, _, rfl, i0, i1⟩ := fetch_ok hu hs
    simp only [if_true] at ho
    rcases cls_four hi with hk | hk | hk | hk
    · simp only [hk, if_true] at ho
      exact once_inn h hu hl p0 p1 root user hs hk hi i0 i1 y ca ad op a b c im ln ms (inn_regs hu hl i0 i1 ho).len ho
    · simp only [hk, Int.reduceEq, if_false] at ho
      injection ho with q1 q2 q3
      injection q2 with e1 e2 e3 e4 e5 e6 e7 e8
      subst q1 q3 e1 e2 e3 e4 e5 e6 e7 e8
      exact (once_priv h hu hl p0 p1 root user hs hk).mono fun e w' ⟨he, hg⟩ => ⟨he, keepM w' hg⟩
    · simp only [hk, Int.reduceEq, if_false, if_true] at ho
      have key := once_sil (ie := ie) (eie := eie) (epc := epc) (tv := tv) (cc := cc) (cd := cd) h hu hl p0 p1 root user hs hk _ _ (sil_len hl.len user op0 a0 ln0) (sil_of hl.len hi user)
      cases user
      · simp only [Bool.false_eq_true, if_false] at ho key
        injection ho with q1 q2 q3
        injection q2 with e1 e2 e3 e4 e5 e6 e7 e8
        subst q1 q3 e1 e2 e3 e4 e5 e6 e7 e8
        exact key.mono fun e w' ⟨he, hg⟩ => ⟨he, keepM w' hg⟩
      · simp only [if_true] at ho key
        injection ho with q1 q2 q3
        injection q2 with e1 e2 e3 e4 e5 e6 e7 e8
        subst q1 q3 e1 e2 e3 e4 e5 e6 e7 e8
        exact key.mono fun e w' ⟨he, hg⟩ => ⟨he, keepM w' hg⟩
    · simp only [hk, Int.reduceEq, if_false, if_true] at ho
      injection ho with q1 q2 q3
      injection q2 with e1 e2 e3 e4 e5 e6 e7 e8
      subst q1 q3 e1 e2 e3 e4 e5 e6 e7 e8
      exact (once_call h hu hl p0 p1 root user hs hk).mono fun e w' ⟨he, hg⟩ => ⟨he, keepM w' hg⟩
  · simp only [hca, if_false] at ho
    injection ho with q1 q2 q3
    injection q2 with e1 e2 e3 e4 e5 e6 e7 e8
    subst q1 q3 e1 e2 e3 e4 e5 e6 e7 e8
    exact (once_stop h hu hl p0 p1 root user hs (by simpa using hca)).mono fun e w' ⟨he, hg⟩ => ⟨he, keepM w' hg⟩
/-- what one instruction leaves: words -/
theorem once_regs (hu : U32s xs) (hl : Regs l) {root : Int} {user : Bool} {y : Cp} {s : Sp} {ms : List Int} (ho : onceP xs n root ⟨l, pc, ie, eie, epc, tv, cc, cd⟩ user = ⟨y, s, ms⟩) : Regs y.l := by
  unfold onceP at ho
  obtain ⟨t, hs⟩ : ∃ t, fetchP xs n root pc user = t := ⟨_, rfl⟩
  have ho : doP xs n root ⟨l, pc, ie, eie, epc, tv, cc, cd⟩ user (fetchP xs n root pc user) = _ := ho
  rw [hs] at ho
  obtain ⟨ca0, ad0, op0, a0, b0, c0, im0, ln0⟩ := t
  unfold doP at ho
  by_cases hca : ca0 = 0
  · subst hca
    obtain ⟨hi, _, rfl, i0, i1⟩ := fetch_ok hu hs
    simp only [if_true] at ho
    rcases cls_four hi with hk | hk | hk | hk
    · simp only [hk, if_true] at ho
      exact inn_regs hu hl i0 i1 ho
    · simp only [hk, Int.reduceEq, if_false] at ho
      injection ho with q1; subst q1; exact hl
    · simp only [hk, Int.reduceEq, if_false, if_true] at ho
      cases user
      · simp only [Bool.false_eq_true, if_false] at ho
        injection ho with q1; subst q1; exact hl
      · simp only [if_true] at ho
        injection ho with q1; subst q1
        show Regs (if op0 = 66 then l.set a0.toNat 1 else l)
        split
        · exact hl.set _ (by decide) (by decide)
        · exact hl
    · simp only [hk, Int.reduceEq, if_false, if_true] at ho
      injection ho with q1; subst q1; exact hl
  · simp only [hca, if_false] at ho
    injection ho with q1; subst q1; exact hl
end
end Go.Proofs.YtkkbhifplbleiaaGreatDoor
