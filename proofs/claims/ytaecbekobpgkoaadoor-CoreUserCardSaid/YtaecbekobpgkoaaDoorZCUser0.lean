/- What one instruction does for a user and for the supervisor: plain facts. -/
import Derived.Test.YtaecbekobpgkoaaDoorZCFetch0
import Derived.Test.YtaecbekobpgkoaaDoorZCRuns0
namespace Go.Proofs.YtaecbekobpgkoaaDoor
open Go.RowKit
/-- the processor of the law -/
def userP (l : List Int) : Cp := ⟨l, 0, true, false, 0, 77, 0, 0⟩
section
variable {l : List Int} {ws : List Int} {op x : Int} {user : Bool}
/-- without the right of a user nothing is there -/
theorem user_none (n5 : Int) : onceP (mapW [x, n5, x, n5] true false) 24 0 (userP l) true = ⟨userP l, ⟨1, 0, 0, 0, 0, 0, 0, 0⟩, mapW [x, n5, x, n5] true false⟩ := by
  show doP _ 24 0 _ true (fetchP (mapW [x, n5, x, n5] true false) 24 0 0 true) = _
  rw [fetch_user (by decide) (by decide) (by rfl)]
  rfl
/-- the length of an instruction, and its second word -/
def lnI (op : Int) : Int := if twoB op = true then 2 else 1
def imI (op : Int) : Int := if twoB op = true then 5 else 0
theorem user_fetch (hi : insB op 0 0 0 0 = true) (hx : wrdI op 0 0 0 = x) : fetchP (mapW [x, 5, x, 5] true true) 24 0 0 user = ⟨0, 0, op, 0, 0, 0, imI op, lnI op⟩ := by
  obtain ⟨o1, o2, o3, o4, o5⟩ := okW_wrd hi
  rw [hx] at o1 o2 o3 o4 o5
  unfold imI lnI
  cases ht : twoB op
  · rw [fetch_at (x := x) (by decide) (by decide) rfl (by simp) o1 (by rw [o2]; exact ht)]
    unfold insS
    rw [o2, o3, o4, o5]
    rfl
  · rw [fetch_at2 (x := x) (by decide) (by decide) rfl (by simp) o1 (by rw [o2]; exact ht)]
    unfold insS
    rw [o2, o3, o4, o5]
    rfl
theorem user_trap (hi : insB op 0 0 0 0 = true) (hx : wrdI op 0 0 0 = x) (hk : clsI op = 2) : onceP (mapW [x, 5, x, 5] true true) 24 0 (userP l) user = ⟨userP l, ⟨6, 0, op, 0, 0, 0, imI op, lnI op⟩, mapW [x, 5, x, 5] true true⟩ := by
  show doP _ 24 0 _ user (fetchP (mapW [x, 5, x, 5] true true) 24 0 0 user) = _
  rw [user_fetch hi hx]
  unfold doP
  simp only [hk, if_true, Int.reduceEq, if_false]
theorem user_call (hi : insB op 0 0 0 0 = true) (hx : wrdI op 0 0 0 = x) (hk : clsI op = 4) : onceP (mapW [x, 5, x, 5] true true) 24 0 (userP l) user = ⟨userP l, ⟨7, 0, op, 0, 0, 0, imI op, lnI op⟩, mapW [x, 5, x, 5] true true⟩ := by
  show doP _ 24 0 _ user (fetchP (mapW [x, 5, x, 5] true true) 24 0 0 user) = _
  rw [user_fetch hi hx]
  unfold doP
  simp only [hk, if_true, Int.reduceEq, if_false]
theorem user_sil0 (hi : insB op 0 0 0 0 = true) (hx : wrdI op 0 0 0 = x) (hk : clsI op = 3) : onceP (mapW [x, 5, x, 5] true true) 24 0 (userP l) false = ⟨userP l, ⟨6, 0, op, 0, 0, 0, imI op, lnI op⟩, mapW [x, 5, x, 5] true true⟩ := by
  show doP _ 24 0 _ false (fetchP (mapW [x, 5, x, 5] true true) 24 0 0 false) = _
  rw [user_fetch hi hx]
  unfold doP
  simp only [hk, if_true, Int.reduceEq, if_false, Bool.false_eq_true]
theorem cls_three {op : Int} (hk : clsI op = 3) : op = 64 ∨ op = 65 ∨ op = 66 ∨ op = 67 := by
  unfold clsI at hk
  repeat' split at hk
  all_goals omega
theorem cls_four' {op : Int} (hk : clsI op = 4) : op = 96 := by
  unfold clsI at hk
  repeat' split at hk
  all_goals omega
theorem user_sil1 (hi : insB op 0 0 0 0 = true) (hx : wrdI op 0 0 0 = x) (hk : clsI op = 3) : ∃ yl : List Int, (Regs l → Regs yl) ∧ onceP (mapW [x, 5, x, 5] true true) 24 0 (userP l) true = ⟨⟨yl, 1, true, false, 0, 77, 0, 0⟩, ⟨0, 0, op, 0, 0, 0, imI op, lnI op⟩, mapW [x, 5, x, 5] true true⟩ := by
  refine ⟨if op = 66 then l.set 0 1 else l, fun h => ?_, ?_⟩
  · split
    · exact h.set 0 (by decide) (by decide)
    · exact h
  · show doP _ 24 0 _ true (fetchP (mapW [x, 5, x, 5] true true) 24 0 0 true) = _
    rw [user_fetch hi hx]
    have hl : lnI op = 1 := by rcases cls_three hk with rfl | rfl | rfl | rfl <;> decide
    unfold doP
    simp only [hk, if_true, Int.reduceEq, if_false]
    unfold silX behI
    rw [hl]
    rfl
/-- what only reckons, reads, writes, jumps: what it keeps -/
theorem inn_keeps {xs : List Int} {n root : Int} {p : Cp} {op a b c im ln : Int} {y : Cp} {s : Sp} {ms : List Int} (hm : innP xs n root p user op a b c im ln = ⟨y, s, ms⟩) : y.ie = p.ie ∧ y.tv = p.tv ∧ y.epc = p.epc ∧ (s.ca = 0 ∨ s.ca = 1) := by
  unfold innP at hm
  split at hm
  · unfold moveP at hm
    split at hm
    · split at hm
      · injection hm with q1 q2 q3; subst q1 q2; exact ⟨rfl, rfl, rfl, .inl rfl⟩
      · injection hm with q1 q2 q3; subst q1 q2; exact ⟨rfl, rfl, rfl, .inl rfl⟩
    · injection hm with q1 q2 q3; subst q1 q2; exact ⟨rfl, rfl, rfl, .inr rfl⟩
  · split at hm
    · injection hm with q1 q2 q3; subst q1 q2; exact ⟨rfl, rfl, rfl, .inl rfl⟩
    · injection hm with q1 q2 q3; subst q1 q2; exact ⟨rfl, rfl, rfl, .inl rfl⟩
theorem user_inn (hi : insB op 0 0 0 0 = true) (hx : wrdI op 0 0 0 = x) (hk : clsI op = 1) {y : Cp} {s : Sp} {ms : List Int} (ho : onceP (mapW [x, 5, x, 5] true true) 24 0 (userP l) user = ⟨y, s, ms⟩) :
    y.ie = true ∧ y.tv = 77 ∧ y.epc = 0 ∧ (s.ca = 0 ∨ s.ca = 1) := by
  have ho : doP _ 24 0 _ user (fetchP (mapW [x, 5, x, 5] true true) 24 0 0 user) = _ := ho
  rw [user_fetch hi hx] at ho
  unfold doP at ho
  simp only [hk, if_true] at ho
  exact inn_keeps ho
end
end Go.Proofs.YtaecbekobpgkoaaDoor
