/- New devices, a copy of devices (package dev); lists of what is seen compared: contracts. -/
import Derived.Test.YtajminajdcpgnaaDev4
import Derived.LoopTactic
import Derived.StillTailTactics
import Derived.Deep.WholeRow
namespace Go.Proofs.Ytajminajdcpgnaa
open Go.RowKit
/-! ### new devices -/
def zeroD : Array Value := #[.int .u32 0, .int .u32 0, .int .u32 0, .int .u32 0, .int .u32 0, .int .u32 0, .int .u32 0, .int .u32 0, .int .u32 0, .int .u32 0, .int .u32 0, .int .u32 0, .int .u32 0, .int .u32 0, .int .u32 0, .int .u32 0, .int .u32 0, .int .u32 0, .int .u32 0, .int .u32 0, .int .u32 0, .int .u32 0, .int .u32 0, .int .u32 0, .int .u32 0, .int .u32 0, .int .u32 0, .int .u32 0, .int .u32 0, .int .u32 0, .int .u32 0, .int .u32 0, .int .u32 0, .int .u32 0, .int .u32 0, .int .u32 0, .int .u32 0, .int .u32 0, .int .u32 0, .int .u32 0, .int .u32 0, .int .u32 0, .int .u32 0, .int .u32 0, .int .u32 0, .int .u32 0, .int .u32 0, .int .u32 0, .int .u32 0, .int .u32 0, .int .u32 0, .int .u32 0, .int .u32 0, .int .u32 0, .int .u32 0, .int .u32 0, .int .u32 0, .int .u32 0, .int .u32 0, .int .u32 0, .int .u32 0, .int .u32 0, .int .u32 0, .int .u32 0, .int .i64 0, .int .i64 0, .int .u32 0, .int .u32 0, .int .u32 0, .int .u32 0, .int .u32 0, .int .u32 0, .int .u32 0, .int .u32 0, .int .u32 0, .int .u32 0, .int .u32 0, .int .u32 0, .int .u32 0, .int .u32 0, .int .u32 0, .int .u32 0, .int .i64 0, .int .u32 0, .slice none 0 0]
def zeroS : DvS := ⟨[], [0, 0, 0, 0, 0, 0, 0, 0, 0, 0, 0, 0, 0, 0, 0, 0], 0, 0, []⟩
theorem zeroS_get (k : Nat) (hk : k < 16) : zeroS.S[k]? = some 0 := by
  rcases (by omega : k = 0 ∨ k = 1 ∨ k = 2 ∨ k = 3 ∨ k = 4 ∨ k = 5 ∨ k = 6 ∨ k = 7 ∨ k = 8 ∨ k = 9 ∨ k = 10 ∨ k = 11 ∨ k = 12 ∨ k = 13 ∨ k = 14 ∨ k = 15) with rfl | rfl | rfl | rfl | rfl | rfl | rfl | rfl | rfl | rfl | rfl | rfl | rfl | rfl | rfl | rfl <;> rfl
theorem zero_is : DevIs zeroD 0 zeroS (.slice none 0 0) where
  size := rfl
  one := by
    have : zeroD.all (·.oneCell') = true := by kernel_rfl
    intro k u hu
    exact (Array.all_eq_true_iff_forall_mem.1 this) u (Array.mem_of_getElem? hu)
  f64 := by decide
  first := rfl
  ring := by intro j y hy; simp [zeroS] at hy
  count := rfl
  q64 := by decide
  sec := by
    intro k y hy
    have hk : k < 16 := (List.getElem?_eq_some_iff.1 hy).1
    rw [zeroS_get k hk] at hy
    obtain rfl := Option.some.inj hy
    rcases (by omega : k = 0 ∨ k = 1 ∨ k = 2 ∨ k = 3 ∨ k = 4 ∨ k = 5 ∨ k = 6 ∨ k = 7 ∨ k = 8 ∨ k = 9 ∨ k = 10 ∨ k = 11 ∨ k = 12 ∨ k = 13 ∨ k = 14 ∨ k = 15) with rfl | rfl | rfl | rfl | rfl | rfl | rfl | rfl | rfl | rfl | rfl | rfl | rfl | rfl | rfl | rfl <;> rfl
  s16 := rfl
  frm := rfl
  aft := rfl
  seen := rfl
theorem dev_zero (w : World) {B : Nat} (hB : B ≤ w.heap.size) : DevAt (w.alloc (.cells zeroD 39)) B w.heap.size zeroS (.slice none 0 0) :=
  ⟨⟨zeroD, 0, heap_alloc_new _ _, zero_is⟩, World.ownsRow_nil _ _ _ _, hB⟩
theorem zero_dev (w : World) : (zeroValue 39).run Try.prog w = .ok (.agg zeroD) w := by kernel_rfl
/-! ### a copy -/
theorem dev_info : (Try.prog.info? 39).map (·.size) = some 85 := by kernel_rfl
def DClonedAt (w : World) (x : DvS) (e : Ending) (w' : World) : Prop :=
  ∃ c u, e = .returned (.pointer (some ⟨c, 0, none⟩)) ∧ DevAt w' w.heap.size c x u ∧ w.grownBy w' none
end Go.Proofs.Ytajminajdcpgnaa
