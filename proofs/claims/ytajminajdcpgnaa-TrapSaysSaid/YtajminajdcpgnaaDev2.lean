/- Sectors and the timer (package dev): contracts. -/
import Derived.Test.YtajminajdcpgnaaDev1
namespace Go.Proofs.Ytajminajdcpgnaa
open Go.RowKit
section
variable {w : World} {B d : Nat} {x : DvS} {v : Value}
theorem set_any (h : DevAt w B d x v) (a b : Int) :
    Calls Try.prog 11 #[.pointer (some ⟨d, 0, none⟩), .int .i64 a, .int .u32 b] w fun e w' => e = .returned (.tuple #[]) ∧ Turned w B d v { x with fr := a, af := b } w' v := by
  obtain ⟨cur, f, hb, hi⟩ := h.hd
  have Hb := hid hb
  have Hi := hid hi
  have H := hid h
  have hfz : ∀ j, w.frozen? ⟨d, j, none⟩ = false := fun j => frozen_of_row w d j _ _ hb
  have hc : w.cell? ⟨d, 82, none⟩ = some (.int .i64 x.fr) := by rw [cell_of_row w d _ _ _ _ hb, hi.frm]
  have hc2 : w.cell? ⟨d, 83, none⟩ = some (.int .u32 x.af) := by rw [cell_of_row w d _ _ _ _ hb, hi.aft]
  clear hb hi h
  go_enter Try.func11, Try.ntmps11
  go_wp2
  go_end0
  have hg : Lv w ((w.setCell ⟨d, 82, none⟩ (.int .i64 a)).setCell ⟨d, 83, none⟩ (.int .u32 b)) [d] := ((Lv.refl w [d]).set (by simp) _ _).set (by simp) _ _
  exact ⟨rfl, Turned.of H.out (H.out.re hg (heap_setCell_same _ _ _ _ _ _ (heap_setCell_same _ _ _ _ _ _ Hb.out)) (Hi.out.timer a b) rfl) hg⟩
end
/-- whether a timer has come -/
def dueB (fr af now : Int) : Bool := decide (af ≠ 0 ∧ fr ≤ now ∧ af ≤ now - fr)
theorem due_core (fr af now : Int) (f0 : -9223372036854775808 ≤ fr) (f1 : fr ≤ 9223372036854775807) (a0 : 0 ≤ af) (a1 : af ≤ 4294967295) (n0 : -9223372036854775808 ≤ now) (n1 : now ≤ 9223372036854775807) (w : World) :
    Calls Try.prog 23 #[.agg #[.int .i64 fr, .int .u32 af], .int .i64 now] w fun e w' => e = .returned (.bool (dueB fr af now)) ∧ w.grownBy w' none := by
  have HG := hid (World.grownBy_alloc w (.cells #[.int .i64 fr, .int .u32 af] 36) none)
  by_cases h0 : af = 0
  · subst h0
    go_enter Try.func23, Try.ntmps23
    go_wp2
    go_ret
    exact ⟨ret_b (by simp [dueB]), HG.out⟩
  · have hz : (af == 0) = false := by simpa using h0
    by_cases h1 : now < fr
    · go_enter Try.func23, Try.ntmps23
      go_wp2
      go_ret
      exact ⟨ret_b (by simp [dueB]; omega), HG.out⟩
    · have h2 : fr ≤ now := by omega
      go_enter Try.func23, Try.ntmps23
      go_wp2
      go_ret
      refine ⟨ret_b ?_, HG.out⟩
      have e : IntKind.u64.wrap (IntKind.u64.wrap now - IntKind.u64.wrap fr) = now - fr := by
        show (now % 18446744073709551616 - fr % 18446744073709551616) % 18446744073709551616 = now - fr
        omega
      rw [e]
      simp [dueB, h0, h2]
theorem due_any {w : World} {B d : Nat} {x : DvS} {v : Value} (h : DevAt w B d x v) (now : Int) (f0 : -9223372036854775808 ≤ x.fr) (f1 : x.fr ≤ 9223372036854775807) (a0 : 0 ≤ x.af) (a1 : x.af ≤ 4294967295) (n0 : -9223372036854775808 ≤ now) (n1 : now ≤ 9223372036854775807) (r : Bool) (hr : dueB x.fr x.af now = r) :
    Calls Try.prog 20 #[.pointer (some ⟨d, 0, none⟩), .int .i64 now] w fun e w' => e = .returned (.bool r) ∧ w.grownBy w' none := by
  obtain ⟨cur, f, hb, hi⟩ := h.hd
  have hc : w.cell? ⟨d, 82, none⟩ = some (.int .i64 x.fr) := by rw [cell_of_row w d _ _ _ _ hb, hi.frm]
  have hc2 : w.cell? ⟨d, 83, none⟩ = some (.int .u32 x.af) := by rw [cell_of_row w d _ _ _ _ hb, hi.aft]
  clear hb hi h
  subst hr
  go_enter Try.func20, Try.ntmps20
  go_wp2_with fail
  refine (due_core _ _ _ f0 f1 a0 a1 n0 n1 _).mono ?_; rintro e w1 ⟨rfl, hg⟩
  have HG := hid hg
  clear hg
  go_wp2
  go_ret
  exact ⟨rfl, HG.out⟩
end Go.Proofs.Ytajminajdcpgnaa
