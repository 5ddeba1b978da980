/- What a jump does on mapped words: plain facts. -/
import Derived.Test.YtkkbhifplbleiaaDoorZCFetch0
import Derived.Test.YtkkbhifplbleiaaDoorZCRuns0
namespace Go.Proofs.YtkkbhifplbleiaaDoor
open Go.RowKit
section
variable {l : List Int} {op a c x to : Int}
/-- the second word, where there is one; how long it is -/
def jimI (op to : Int) : Int := if twoB op = true then to else 0
def jlnI (op : Int) : Int := if twoB op = true then 2 else 1
theorem jump_fetch (hi : insB op a 0 c 0 = true) (hx : wrdI op a 0 c = x) : fetchP (mapW [x, to, 0] true true) 24 0 0 true = ⟨0, 0, op, a, 0, c, jimI op to, jlnI op⟩ := by
  obtain ⟨o1, o2, o3, o4, o5⟩ := okW_wrd hi
  rw [hx] at o1 o2 o3 o4 o5
  unfold jimI jlnI
  cases ht : twoB op
  · rw [fetch_at (x := x) (by decide) (by decide) rfl (by rfl) o1 (by rw [o2]; exact ht)]
    unfold insS
    rw [o2, o3, o4, o5]
    rfl
  · rw [fetch_at2 (x := x) (by decide) (by decide) rfl (by rfl) o1 (by rw [o2]; exact ht)]
    unfold insS
    rw [o2, o3, o4, o5]
    rfl
theorem jump_once (hi : insB op a 0 c 0 = true) (hx : wrdI op a 0 c = x) (hj : jmpB op = true) : onceP (mapW [x, to, 0] true true) 24 0 (startP l) true = ⟨jumpX (startP l) op a 0 c (jimI op to) (jlnI op), ⟨0, 0, op, a, 0, c, jimI op to, jlnI op⟩, mapW [x, to, 0] true true⟩ := by
  show doP _ 24 0 _ true (fetchP (mapW [x, to, 0] true true) 24 0 0 true) = _
  rw [jump_fetch hi hx]
  have ho : ¬ (op = 12 ∨ op = 13) := by
    rintro (rfl | rfl) <;> exact absurd hj (by decide)
  unfold doP
  simp only [if_true, jmp_cls hj]
  unfold innP
  rw [if_neg ho, if_pos hj]
/-- the register that is asked -/
def jaI (op : Int) : Int := if op = 16 ∨ op = 19 ∨ op = 22 then 0 else 3
def jcI (op C : Int) : Int := if op ≤ 18 then C else 0
theorem jump_ins {C : Int} (c0 : 0 ≤ C) (c1 : C ≤ 255) (h : 16 ≤ op ∧ op ≤ 23) : insB op (jaI op) 0 (jcI op C) 0 = true := by
  have h8 : op = 16 ∨ op = 17 ∨ op = 18 ∨ op = 19 ∨ op = 20 ∨ op = 21 ∨ op = 22 ∨ op = 23 := by omega
  rcases h8 with rfl | rfl | rfl | rfl | rfl | rfl | rfl | rfl
  · unfold insB alwB; rw [show hasA 16 = 0 by decide, show hasB 16 = 0 by decide, show hasC 16 = 2 by decide, show clsI 16 = 1 by decide, show jaI 16 = 0 by decide, show jcI 16 C = C from rfl]; simp; omega
  · unfold insB alwB; rw [show hasA 17 = 1 by decide, show hasB 17 = 0 by decide, show hasC 17 = 2 by decide, show clsI 17 = 1 by decide, show jaI 17 = 3 by decide, show jcI 17 C = C from rfl]; simp; omega
  · unfold insB alwB; rw [show hasA 18 = 1 by decide, show hasB 18 = 0 by decide, show hasC 18 = 2 by decide, show clsI 18 = 1 by decide, show jaI 18 = 3 by decide, show jcI 18 C = C from rfl]; simp; omega
  all_goals
    rw [show jcI _ C = 0 from rfl]
    decide
/-- what the law asks of the answer: where it goes on, what register 15 holds -/
def jtkB (op r3 : Int) : Bool := if op = 17 ∨ op = 20 then r3 == 0 else if op = 18 ∨ op = 21 then !(r3 == 0) else true
def jwant (op r3 to C : Int) : Int := if jtkB op r3 = true then (if op ≤ 18 then ((C + 128) % 256 - 128) % 4294967296 else if op = 23 then r3 else to) else jlnI op
theorem jump_x {C : Int} (c0 : 0 ≤ C) (c1 : C ≤ 255) (h : 16 ≤ op ∧ op ≤ 23) :
    jumpX (startP l) op (jaI op) 0 (jcI op C) (jimI op to) (jlnI op) = ⟨if op = 22 then l.set 15 2 else l, jwant op (regI l 3) to C, false, false, 0, 0, 0, 0⟩ := by
  have hi := jump_ins c0 c1 h
  have hj : jmpB op = true := by unfold jmpB; simp; omega
  unfold jumpX behI targV
  have hL : (startP l).l = l := rfl
  have hP : (startP l).pc = 0 := rfl
  rw [hL, hP]
  have ht : takenB op (jaI op) 0 (jcI op C) (jimI op to) l = jtkB op (regI l 3) := by
    have hi2 : insB op (jaI op) 0 (jcI op C) (jimI op to) = true := by
      unfold jimI
      cases h2 : twoB op
      · exact hi
      · exact ins_imm hi h2 to
    unfold takenB askB goesB jtkB
    rw [hi2, hj, Bool.true_and, Bool.true_and]
    by_cases e1 : op = 17 ∨ op = 20
    · rw [if_pos e1, if_pos e1, show jaI op = 3 by unfold jaI; rw [if_neg (by omega)]]
    · rw [if_neg e1, if_neg e1]
      by_cases e2 : op = 18 ∨ op = 21
      · rw [if_pos e2, if_pos e2, show jaI op = 3 by unfold jaI; rw [if_neg (by omega)]]
      · rw [if_neg e2, if_neg e2]
  rw [ht]
  have hb : (0 + jlnI op) % 4294967296 = jlnI op := by unfold jlnI; split <;> decide
  rw [hb]
  have h22 : (if op = 22 then l.set 15 (jlnI op) else l) = (if op = 22 then l.set 15 2 else l) := by
    by_cases e : op = 22
    · subst e; rfl
    · rw [if_neg e, if_neg e]
  have hw : (if jtkB op (regI l 3) = true then if op = 16 ∨ op = 17 ∨ op = 18 then (0 + ((jcI op C + 128) % 256 - 128)) % 4294967296 else if op = 23 then regI l (jaI op) else jimI op to else jlnI op) = jwant op (regI l 3) to C := by
    unfold jwant
    cases jtkB op (regI l 3)
    · rfl
    · simp only [if_true]
      by_cases e1 : op ≤ 18
      · rw [if_pos (by omega), if_pos e1, Int.zero_add, show jcI op C = C by unfold jcI; rw [if_pos e1]]
      · rw [if_neg (by omega), if_neg e1]
        by_cases e2 : op = 23
        · subst e2; rfl
        · rw [if_neg e2, if_neg e2]
          unfold jimI
          rw [if_pos (by unfold twoB; simp; omega)]
  rw [h22, hw]
  rfl
end
end Go.Proofs.YtkkbhifplbleiaaDoor
