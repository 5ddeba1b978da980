/- A number's text (facadeworld.Num), and f ahead of it: contract. -/
import Derived.Test.YtogdpaaofihkgaaGreatDoorYNmP
import Derived.Test.YtogdpaaofihkgaaGreatDoorYBase
import Derived.Test.YtogdpaaofihkgaaGreatDoorYShelf
import Derived.Lib.ItoaMem
import Derived.Lib.AppendIntMem
import Derived.WalkSmall
import Derived.Laws.Concat
namespace Go.Proofs.YtogdpaaofihkgaaGreatDoor
open Go.RowKit
theorem dec_dgt {i : Nat} (h : i < 1000) : Lib.decDigits i = dgt i := by
  unfold dgt
  by_cases h1 : i < 10
  · rw [Lib.decDigits, dif_pos h1, if_pos h1]
  · rw [if_neg h1, Lib.decDigits, dif_neg h1]
    by_cases h2 : i < 100
    · rw [if_pos h2, Lib.decDigits, dif_pos (show i / 10 < 10 by omega)]; rfl
    · rw [if_neg h2, Lib.decDigits, dif_neg (show ¬ i / 10 < 10 by omega), Lib.decDigits, dif_pos (show i / 10 / 10 < 10 by omega), Nat.div_div_eq_div_mul]; rfl
theorem dgt_size (i : Nat) : (⟨(dgt i).toArray⟩ : ByteArray).size ≤ 3 := by
  have e : (⟨(dgt i).toArray⟩ : ByteArray).size = (dgt i).length := by simp [ByteArray.size]
  rw [e]
  unfold dgt
  split
  · simp
  · split <;> simp
theorem num_any (n : Nat) (h : n < 1000) (w : World) (htab : Lib.TabIs Tryz.prog w "internal/strconv.uint64pow10" .u64 Lib.pow10Tab) :
    Calls Tryz.prog 8 #[.int .i64 n] w fun e w' => e = .returned (.string ⟨(dgt n).toArray⟩) ∧ w.grownBy w' none := by
  have Hc := hid ((Tryz.strconv_Itoa n (by omega) (by omega) w htab).mono (R' := fun e w' => e = .returned (.string ⟨(dgt n).toArray⟩) ∧ w.grownBy w' none) (by
    rintro e w' ⟨rfl, k, os, rfl⟩
    rw [Lib.itoa_nonneg, dec_dgt h]
    exact ⟨rfl, below_is_grown (Lib.below_grow _ _ (Nat.le_refl _) _ _)⟩))
  go_enter Tryz.func8, Tryz.ntmps8
  go_wp2_with fail
  refine Hc.out.mono ?_
  rintro e w2 ⟨rfl, hg⟩
  have HG := hid hg
  clear hg
  go_wp2
  go_ret
  exact ⟨rfl, HG.out⟩
/-- whatever was made since -/
theorem num_all {W : World} (hT : Lib.TabIs Tryz.prog W "internal/strconv.uint64pow10" .u64 Lib.pow10Tab) (n : Nat) (h : n < 1000) (w : World) (hw : W.grownBy w none) :
    Calls Tryz.prog 8 #[.int .i64 n] w fun e w' => e = .returned (.string ⟨(dgt n).toArray⟩) ∧ w.grownBy w' none := by
  have hb := grown_below hw
  have hc := hT.cell (g := 16) (by kernel_rfl) 0 (by decide)
  exact num_any n h w (var?_below hb (by kernel_rfl) (World.block_lt_of_cell? _ _ hc) hT)
theorem add_f (k : Nat) (w : World) : (Op.stringOp .add ⟨#[102]⟩ ⟨(dgt k).toArray⟩).run Tryz.prog w = .ok (.string (nmF k)) w := by
  have e : (⟨#[102]⟩ : ByteArray) ++ ⟨(dgt k).toArray⟩ = nmF k := by
    apply ByteArray.ext
    simp [nmF]
  rw [← e]
  exact run_string_add_sum w _ _ (by have := dgt_size k; show 1 + (⟨(dgt k).toArray⟩ : ByteArray).size ≤ _; omega)
end Go.Proofs.YtogdpaaofihkgaaGreatDoor
