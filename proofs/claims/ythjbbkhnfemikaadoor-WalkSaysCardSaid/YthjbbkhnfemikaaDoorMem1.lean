/- What the small calls of package mem do: contracts. -/
import Derived.Test.YthjbbkhnfemikaaDoorMem0
import Derived.WalkKit
import Derived.WalkSpells
import Derived.WalkLawsBesides
import Derived.Handy
import Derived.RegionTactic
import Derived.Deep.QuietTactic
import Derived.BigQuiet
import Derived.IntWalk
import Derived.Outline
namespace Go.Proofs.YthjbbkhnfemikaaDoor
open Go.RowKit
theorem ret_i {k : IntKind} {a b : Int} (h : a = b) : Ending.returned (.int k a) = .returned (.int k b) := by rw [h]
theorem ret_b {a b : Bool} (h : a = b) : Ending.returned (.bool a) = .returned (.bool b) := by rw [h]

section
variable {m b n c : Nat} {xs : List Int} {w : World}
theorem frames_any (h : MemAt w m b n c xs) : Calls Tryd.prog 30 #[.pointer (some ⟨m, 0, none⟩)] w fun e w' => e = .returned (.int .i64 n) ∧ w = w' := by
  have hm := h.mcell
  go_enter Tryd.func30, Tryd.ntmps30
  go_wp2
  go_ret
  exact ⟨rfl, rfl⟩
theorem has_any (h : MemAt w m b n c xs) (f : Int) (r : Bool) (hr : decide (0 ≤ f ∧ f < (n : Int)) = r) :
    Calls Tryd.prog 29 #[.pointer (some ⟨m, 0, none⟩), .int .i64 f] w fun e w' => e = .returned (.bool r) ∧ w = w' := by
  have hm := h.mcell
  by_cases h0 : 0 ≤ f
  · go_enter Tryd.func29, Tryd.ntmps29
    go_wp2
    go_ret
    exact ⟨ret_b (by rw [← hr]; simp [h0]), rfl⟩
  · have h1 : decide (0 ≤ f) = false := by simpa using h0
    go_enter Tryd.func29, Tryd.ntmps29
    go_wp2
    go_ret
    exact ⟨ret_b (by rw [← hr]; simp; omega), rfl⟩
theorem word_no (h : MemAt w m b n c xs) (a : Int) (ha : a < 0 ∨ (n : Int) * 16 ≤ a) (hb : a ≤ 9223372036854775807) :
    Calls Tryd.prog 24 #[.pointer (some ⟨m, 0, none⟩), .int .i64 a] w fun e w' => e = .returned (.pointer none) ∧ w = w' := by
  have hn := h.n2
  rcases ha with ha | ha
  · go_enter Tryd.func24, Tryd.ntmps24
    go_wp2
    go_ret
    exact ⟨rfl, rfl⟩
  · have h0 : ¬ a < 0 := by omega
    have h2 : 0 ≤ a := by omega
    have hq : decide (0 ≤ a / 16 ∧ a / 16 < (n : Int)) = false := by simp; omega
    have hq := hid hq
    go_enter Tryd.func24, Tryd.ntmps24
    go_wp2_with (go_at_call 29; refine (has_any h _ false hq.out).mono ?_; rintro e w' ⟨rfl, rfl⟩)
    go_ret
    exact ⟨rfl, rfl⟩
theorem word_yes (h : MemAt w m b n c xs) (k : Nat) (hk : k < n * 16) :
    Calls Tryd.prog 24 #[.pointer (some ⟨m, 0, none⟩), .int .i64 k] w fun e w' => e = .returned (.pointer (some ⟨b, k, none⟩)) ∧ w = w' := by
  have hn := h.n2
  have hm := h.mcell
  have hq : decide (0 ≤ (k : Int) / 16 ∧ (k : Int) / 16 < (n : Int)) = true := by simp; omega
  have hq := hid hq
  have h0 : ¬ (k : Int) < 0 := by omega
  have h2 : 0 ≤ (k : Int) := by omega
  have h3 : 0 ≤ (k : Int) / 16 := by omega
  have h4 : (k : Int) / 16 < n := by omega
  have h5 : 0 ≤ (k : Int) % 16 := by omega
  have h6 : (k : Int) % 16 < 16 := by omega
  go_enter Tryd.func24, Tryd.ntmps24
  go_wp2_with (go_at_call 29; refine (has_any h _ true hq.out).mono ?_; rintro e w' ⟨rfl, rfl⟩)
  go_ret
  refine ⟨?_, rfl⟩
  simp
end
end Go.Proofs.YthjbbkhnfemikaaDoor
