/- What one instruction keeps: words. Registers as a processor. -/
import Derived.Test.YtaecbekobpgkoaaDoorZCSays
namespace Go.Proofs.YtaecbekobpgkoaaDoor
open Go.RowKit
section
variable {n : Nat} {xs : List Int} {l : List Int} {pc : Int} {ie eie : Bool} {epc tv cc cd : Int}
theorem targ_bd (hl : Regs l) {op a c im : Int} (i0 : 0 ≤ im) (i1 : im < 4294967296) : 0 ≤ targV ⟨l, pc, ie, eie, epc, tv, cc, cd⟩ op a c im ∧ targV ⟨l, pc, ie, eie, epc, tv, cc, cd⟩ op a c im < 4294967296 := by
  unfold targV
  split
  · omega
  · split
    · exact hl.reg a
    · exact ⟨i0, i1⟩
theorem inn_good (hu : U32s xs) (hl : Regs l) (p0 : 0 ≤ pc) (p1 : pc < 4294967296) {root : Int} {user : Bool} {op a b c im ln : Int} (i0 : 0 ≤ im) (i1 : im < 4294967296) {y : Cp} {s : Sp} {ms : List Int}
    (hm : innP xs n root ⟨l, pc, ie, eie, epc, tv, cc, cd⟩ user op a b c im ln = ⟨y, s, ms⟩) : (0 ≤ y.pc ∧ y.pc < 4294967296) ∧ U32s ms := by
  unfold innP at hm
  split at hm
  · unfold moveP at hm
    split at hm
    · split at hm
      · injection hm with q1 q2 q3
        subst q1 q3
        refine ⟨?_, hu.set _ (hl.reg a).1 (hl.reg a).2⟩
        show 0 ≤ (pc + ln) % 4294967296 ∧ (pc + ln) % 4294967296 < 4294967296
        omega
      · injection hm with q1 q2 q3
        subst q1 q3
        refine ⟨?_, hu⟩
        show 0 ≤ (pc + ln) % 4294967296 ∧ (pc + ln) % 4294967296 < 4294967296
        omega
    · injection hm with q1 q2 q3
      subst q1 q3
      exact ⟨⟨p0, p1⟩, hu⟩
  · split at hm
    · injection hm with q1 q2 q3
      subst q1 q3
      refine ⟨?_, hu⟩
      show 0 ≤ (if takenB op a b c im l = true then targV ⟨l, pc, ie, eie, epc, tv, cc, cd⟩ op a c im else (pc + ln) % 4294967296) ∧ (if takenB op a b c im l = true then targV ⟨l, pc, ie, eie, epc, tv, cc, cd⟩ op a c im else (pc + ln) % 4294967296) < 4294967296
      split
      · exact targ_bd hl i0 i1
      · omega
    · injection hm with q1 q2 q3
      subst q1 q3
      refine ⟨?_, hu⟩
      show 0 ≤ (pc + ln) % 4294967296 ∧ (pc + ln) % 4294967296 < 4294967296
      omega
theorem once_good (hu : U32s xs) (hl : Regs l) (p0 : 0 ≤ pc) (p1 : pc < 4294967296) {root : Int} {user : Bool} {y : Cp} {s : Sp} {ms : List Int} (ho : onceP xs n root ⟨l, pc, ie, eie, epc, tv, cc, cd⟩ user = ⟨y, s, ms⟩) :
    (0 ≤ y.pc ∧ y.pc < 4294967296) ∧ U32s ms := by
  unfold onceP at ho
  obtain ⟨t, hs⟩ : ∃ t, fetchP xs n root pc user = t := ⟨_, rfl⟩
  have ho : doP xs n root ⟨l, pc, ie, eie, epc, tv, cc, cd⟩ user (fetchP xs n root pc user) = _ := ho
  rw [hs] at ho
  obtain ⟨ca0, ad0, op0, a0, b0, c0, im0, ln0⟩ := t
  unfold doP at ho
  by_cases hca : ca0 = 0
  · subst hca
    obtain ⟨hi, _, rfl, i0, i1⟩ := fetch_ok hu hs
    simp only [if_true] at ho
    rcases cls_four hi with hk | hk | hk | hk
    · simp only [hk, if_true] at ho
      exact inn_good hu hl p0 p1 i0 i1 ho
    · simp only [hk, Int.reduceEq, if_false] at ho
      injection ho with q1 q2 q3; subst q1 q3; exact ⟨⟨p0, p1⟩, hu⟩
    · simp only [hk, Int.reduceEq, if_false, if_true] at ho
      cases user
      · simp only [Bool.false_eq_true, if_false] at ho
        injection ho with q1 q2 q3; subst q1 q3; exact ⟨⟨p0, p1⟩, hu⟩
      · simp only [if_true] at ho
        injection ho with q1 q2 q3; subst q1 q3
        refine ⟨?_, hu⟩
        show 0 ≤ (pc + ln0) % 4294967296 ∧ (pc + ln0) % 4294967296 < 4294967296
        omega
    · simp only [hk, Int.reduceEq, if_false, if_true] at ho
      injection ho with q1 q2 q3; subst q1 q3; exact ⟨⟨p0, p1⟩, hu⟩
  · simp only [hca, if_false] at ho
    injection ho with q1 q2 q3; subst q1 q3; exact ⟨⟨p0, p1⟩, hu⟩
end
/-- a processor with these registers, at the beginning -/
def startP (l : List Int) : Cp := ⟨l, 0, false, false, 0, 0, 0, 0⟩
theorem build_cpu16 (x0 x1 x2 x3 x4 x5 x6 x7 x8 x9 x10 x11 x12 x13 x14 x15 : Int) (w : World) :
    (Instr.build 46 #[(0, .agg (wA [x0, x1, x2, x3, x4, x5, x6, x7, x8, x9, x10, x11, x12, x13, x14, x15]))]).run Tryd.prog w = .ok (.agg (cpuC (startP [x0, x1, x2, x3, x4, x5, x6, x7, x8, x9, x10, x11, x12, x13, x14, x15]))) w := by kernel_rfl
theorem run_build_cpuR {l : List Int} (hl : l.length = 16) (w : World) : (Instr.build 46 #[(0, .agg (wA l))]).run Tryd.prog w = .ok (.agg (cpuC (startP l))) w := by
  match l, hl with
  | [x0, x1, x2, x3, x4, x5, x6, x7, x8, x9, x10, x11, x12, x13, x14, x15], _ => exact build_cpu16 x0 x1 x2 x3 x4 x5 x6 x7 x8 x9 x10 x11 x12 x13 x14 x15 w
theorem wpList_build_cpuR {ops : Array Oper} {rest : List Oper} {o : Oper} {A : Act} {w : World} {Q : Exit → Act → World → Prop} (hgd : o.guard = none) (x : Operand) (ho : o.op = .build 46 #[(0, x)]) {l : List Int} (hl : l.length = 16) (hx : A.eval x = .agg (wA l))
    (h : wpList Tryd.prog ops Q rest (A.put o.dst (.agg (cpuC (startP l)))) w) : wpList Tryd.prog ops Q (o :: rest) A w := by
  refine wpList_plain hgd fun K hK => ?_
  unfold Oper.wp
  simp [execOp, ho, hx, run_build_cpuR hl w, Result.andThen]
  exact hK _ _ h
/-- a whole processor into the block that was made last -/
theorem wpList_store_cpu_last {ops : Array Oper} {rest : List Oper} {o : Oper} {a : Act} {w : World} {Q : Exit → Act → World → Prop} {y z : Cp} {g : Nat} (hgd : o.guard = none) (p q : Operand) (ho : o.op = .store 46 p q) (hx : a.eval p = .pointer (some ⟨g, 0, none⟩)) (hy : a.eval q = .agg (cpuC y)) (hg : g = w.heap.size) (hz : z.l.length = 16) (hl : y.l.length = 16)
    (h : wpList Tryd.prog ops Q rest (a.put o.dst undef) (w.alloc (.cells (cpuC y) 46))) : wpList Tryd.prog ops Q (o :: rest) a (w.alloc (.cells (cpuC z) 46)) := by
  subst hg
  exact wpList_store_cpu hgd p q ho hx hy (CpuAt.new w hz) hl (by rw [World.setRow_alloc_new]; exact h)
end Go.Proofs.YtaecbekobpgkoaaDoor
