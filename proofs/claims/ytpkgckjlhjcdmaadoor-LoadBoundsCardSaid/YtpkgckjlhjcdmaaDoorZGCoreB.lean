/- core's move as a function; core's innocuous: contracts. (Made by a program.) -/
import Derived.Test.YtpkgckjlhjcdmaaDoorZCore7
import Derived.Test.YtpkgckjlhjcdmaaDoorZGAluB
import Derived.Deep.RegionHeld
namespace Go.Proofs.YtpkgckjlhjcdmaaDoor
open Go.RowKit
theorem ins_ldst {op a b c im : Int} (h : insB op a b c im = true) (ho : op = 12 ∨ op = 13) : (0 ≤ a ∧ a < 16) ∧ (0 ≤ b ∧ b < 16) ∧ 0 ≤ c ∧ c ≤ 255 := by
  obtain ⟨_, h1, h2, h3, _⟩ := ins_parts h
  rcases ho with rfl | rfl
  all_goals
    have e1 : hasA 12 = 1 := by decide
    have e2 : hasB 12 = 1 := by decide
    have e3 : hasC 12 = 2 := by decide
    have e4 : hasA 13 = 1 := by decide
    have e5 : hasB 13 = 1 := by decide
    have e6 : hasC 13 = 2 := by decide
    simp only [e1, e2, e3, e4, e5, e6, alwB, if_true, Int.reduceEq, if_false, decide_eq_true_eq] at h1 h2 h3
    omega
theorem ins_jr {a b c im : Int} (h : insB 23 a b c im = true) : 0 ≤ a ∧ a < 16 := by
  obtain ⟨_, h1, _⟩ := ins_parts h
  have e1 : hasA 23 = 1 := by decide
  simp only [e1, alwB, if_true, decide_eq_true_eq] at h1
  exact h1
theorem ins_gst {a b c im : Int} (h : insB 66 a b c im = true) : 0 ≤ a ∧ a < 16 := by
  obtain ⟨_, h1, _⟩ := ins_parts h
  have e1 : hasA 66 = 1 := by decide
  simp only [e1, alwB, if_true, decide_eq_true_eq] at h1
  exact h1
theorem setMany_all {l L : List Int} (hl : l.length = 16) (hL : L.length = 16) : setMany l 0 L = L := by
  apply List.ext_getElem?
  intro k
  rw [setMany_get L l 0 k (by omega)]
  by_cases hk : k < 16
  · rw [if_pos ⟨Nat.zero_le _, by omega⟩, Nat.sub_zero]
  · rw [if_neg (by omega), List.getElem?_eq_none (by omega), List.getElem?_eq_none (by omega)]
section
variable {V : World} {t : TypeId} {b1 b2 b3 b4 : Nat} {pc : Int} {ie eie : Bool} {epc tv ca ad : Int} {s : Array Value}
theorem FAt.sMany (o4 : Ord4 b1 b2 b3 b4) : ∀ (vs : List Int) (o : Nat) (l : List Int) (w : World), FAt V t b1 b2 b3 b4 ⟨l, pc, ie, eie, epc, tv, ca, ad⟩ s w → o + vs.length ≤ 16 →
    FAt V t b1 b2 b3 b4 ⟨setMany l o vs, pc, ie, eie, epc, tv, ca, ad⟩ s (w.setCells b1 o (vs.map (Value.int .u32)))
  | [], _, _, _, h, _ => h
  | x :: r, o, l, w, h, hl => by
    simp only [List.length_cons] at hl
    exact FAt.sMany o4 r (o + 1) _ _ (h.sReg o4 o (by omega) x) (by omega)
theorem FAt.sRegs {l L : List Int} {w : World} (h : FAt V t b1 b2 b3 b4 ⟨l, pc, ie, eie, epc, tv, ca, ad⟩ s w) (o4 : Ord4 b1 b2 b3 b4) (hL : L.length = 16) :
    FAt V t b1 b2 b3 b4 ⟨L, pc, ie, eie, epc, tv, ca, ad⟩ s (w.setCells b1 0 (wA L).toList) := by
  have := FAt.sMany o4 L 0 l w h (by omega)
  rw [setMany_all h.hc.len hL] at this
  exact this
end
theorem CpuAt.there {w : World} {B : Nat} {x : Cp} (h : CpuAt w B x) : w.there B 0 16 := fun j hj => by
  refine ⟨?_, h.free _⟩
  rw [Nat.zero_add, h.regc (List.getElem?_eq_getElem (by rw [h.len]; exact hj))]
  rfl
section
variable {m bm n cap : Nat} {xs : List Int} {l : List Int} {pc : Int} {ie eie : Bool} {epc tv cc cd im ln c : Int} {W : World}
/-- what is answered, and memory then -/
def OutAt (W : World) (m bm n cap : Nat) (y : Cp) (ca ad op a b c im ln : Int) (ms : List Int) (e : Ending) (w' : World) : Prop :=
  e = .returned (.tuple #[.agg (cpuC y), .agg (spC ca ad op a b c im ln)]) ∧ MemAt w' m bm n cap ms ∧ W.grownBy w' (some bm)
theorem move_regs (hu : U32s xs) (hl : Regs l) {root : Int} {user : Bool} {op a b : Int} {y : Cp} {s : Sp} {ms : List Int} (hm : moveP xs n root ⟨l, pc, ie, eie, epc, tv, cc, cd⟩ user op a b c im ln = ⟨y, s, ms⟩) : Regs y.l := by
  unfold moveP at hm
  split at hm
  · split at hm
    · injection hm with q1; subst q1; exact hl
    · injection hm with q1; subst q1; exact hl.set _ (rdV_bd hu _ _ _ _).1 (rdV_bd hu _ _ _ _).2
  · injection hm with q1; subst q1; exact hl
end
end Go.Proofs.YtpkgckjlhjcdmaaDoor
/- core's innocuous: jumps; as a function. (Made by a program.) -/
namespace Go.Proofs.YtpkgckjlhjcdmaaDoor
open Go.RowKit
section
variable {m bm n cap : Nat} {xs : List Int} {l : List Int} {pc : Int} {ie eie : Bool} {epc tv cc cd im ln c : Int} {W : World}
theorem jump_regs (hl : Regs l) {op a b : Int} (p0 : 0 ≤ (pc + ln) % 4294967296) : Regs (jumpX ⟨l, pc, ie, eie, epc, tv, cc, cd⟩ op a b c im ln).l := by
  unfold jumpX behI
  show Regs (if op = 22 then l.set 15 ((pc + ln) % 4294967296) else l)
  split
  · exact hl.set _ p0 (by omega)
  · exact hl
end
end Go.Proofs.YtpkgckjlhjcdmaaDoor
