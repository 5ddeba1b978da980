/- Two entries compared; the chapter's example: contracts. -/
import Derived.Test.YthjbbkhnfemikaaDoorWalk2
namespace Go.Proofs.YthjbbkhnfemikaaDoor
open Go.RowKit
set_option maxHeartbeats 1000000 in
theorem same_ent (f f' : Int) (t w u t' w' u' r : Bool) (hr : (f == f' && (t == t' && (w == w' && u == u'))) = r) (W : World) :
    Calls Tryd.prog 19 #[.agg #[.int .i64 f, .bool t, .bool w, .bool u], .agg #[.int .i64 f', .bool t', .bool w', .bool u']] W fun e w' => e = .returned (.bool r) ∧ W.grownBy w' none := by
  have Hr := hid (grown_refl W none)
  cases h0 : f == f'
  · rw [h0] at hr; simp only [Bool.false_and] at hr; subst hr
    go_enter Tryd.func19, Tryd.ntmps19
    go_wp2
    go_ret
    exact ⟨rfl, grown_alloc (grown_alloc Hr.out _) _⟩
  · rw [h0] at hr; simp only [Bool.true_and] at hr
    cases h1 : t == t'
    · rw [h1] at hr; simp only [Bool.false_and] at hr; subst hr
      go_enter Tryd.func19, Tryd.ntmps19
      go_wp2
      go_ret
      exact ⟨rfl, grown_alloc (grown_alloc Hr.out _) _⟩
    · rw [h1] at hr; simp only [Bool.true_and] at hr
      cases h2 : w == w'
      · rw [h2] at hr; simp only [Bool.false_and] at hr; subst hr
        go_enter Tryd.func19, Tryd.ntmps19
        go_wp2
        go_ret
        exact ⟨rfl, grown_alloc (grown_alloc Hr.out _) _⟩
      · rw [h2] at hr; simp only [Bool.true_and] at hr
        have HR := hid hr
        clear hr
        go_enter Tryd.func19, Tryd.ntmps19
        go_wp2
        go_ret
        exact ⟨(show Ending.returned (.bool (u == u')) = _ by rw [HR.out]), grown_alloc (grown_alloc Hr.out _) _⟩
theorem same_self (f : Int) (t w u : Bool) (W : World) :
    Calls Tryd.prog 19 #[.agg #[.int .i64 f, .bool t, .bool w, .bool u], .agg #[.int .i64 f, .bool t, .bool w, .bool u]] W fun e w' => e = .returned (.bool true) ∧ W.grownBy w' none :=
  same_ent f f t w u t w u true (by simp) W
theorem first3_any (w : World) : Calls Tryd.prog 7 #[] w fun e w' => e = .returned (.bool true) ∧ w.grownBy w' none := by
  have hv : bitV 3 true false false = 769 := by decide
  have hb : bitB 3 true false false = true := by decide
  have HV := hid hv
  have HB := hid hb
  clear hv hb
  go_enter Tryd.func7, Tryd.ntmps7
  go_wp2_with fail
  refine (bits_of 3 true false false 769 true HV.out HB.out _).mono ?_; rintro e w1 ⟨rfl, hg⟩
  have HG := hid hg
  clear hg
  go_wp2
  go_ret
  exact ⟨rfl, HG.out⟩
/-- Of, with names for what it answers -/
theorem of_of (v F : Int) (T X U b : Bool) (h0 : 0 ≤ v) (h1 : v < 4294967296) (hF : oF (ofO v) = F) (hT : oT (ofO v) = T) (hX : oW (ofO v) = X) (hU : oU (ofO v) = U) (hb : ofB v = b) (W : World) :
    Calls Tryd.prog 15 #[.int .u32 v] W fun e w' => e = .returned (.tuple #[.agg #[.int .i64 F, .bool T, .bool X, .bool U], .bool b]) ∧ W.grownBy w' none := by
  subst hF; subst hT; subst hX; subst hU; subst hb
  exact of_any v W h0 h1
end Go.Proofs.YthjbbkhnfemikaaDoor
