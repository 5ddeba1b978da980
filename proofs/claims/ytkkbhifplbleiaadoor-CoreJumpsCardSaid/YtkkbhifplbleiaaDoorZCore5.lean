/- core's fetch as a function; core.Fetch: contracts. -/
import Derived.Test.YtkkbhifplbleiaaDoorZCore4
namespace Go.Proofs.YtkkbhifplbleiaaDoor
open Go.RowKit
section
variable {m b n c : Nat} {xs : List Int} {W : World}
theorem fetch_of (h : MemAt W m b n c xs) (hu : U32s xs) (root pc : Int) (p0 : 0 ≤ pc) (p1 : pc < 4294967296) (user : Bool) (ca ad op ia ib ic im ln : Int) (hs : fetchP xs n root pc user = ⟨ca, ad, op, ia, ib, ic, im, ln⟩) :
    Calls Tryd.prog 21 #[.agg #[.pointer (some ⟨m, 0, none⟩), .int .i64 root, .bool user], .int .u32 pc] W fun e w' => e = .returned (.tuple #[.agg (inC op ia ib ic im), .agg (spC ca ad op ia ib ic im ln)]) ∧ W.grownBy w' none := by
  unfold fetchP at hs
  cases h1 : atB xs n root pc false user
  · rw [if_neg (by simp [h1])] at hs
    unfold noneS at hs
    injection hs with e1 e2 e3 e4 e5 e6 e7 e8
    subst e1 e2 e3 e4 e5 e6 e7 e8
    exact fetch_page h hu root pc p0 p1 user h1
  · rw [if_pos h1] at hs
    cases h2 : okW (rdV xs n root pc user)
    · rw [if_neg (by simp [h2])] at hs
      unfold noneS at hs
      injection hs with e1 e2 e3 e4 e5 e6 e7 e8
      subst e1 e2 e3 e4 e5 e6 e7 e8
      exact fetch_bad h hu root pc p0 p1 user h1 _ rfl h2
    · rw [if_pos h2] at hs
      cases h3 : twoB (rdV xs n root pc user / 16777216)
      · rw [if_neg (by simp [h3])] at hs
        unfold insS at hs
        injection hs with e1 e2 e3 e4 e5 e6 e7 e8
        subst e1 e2 e3 e4 e5 e6 e7 e8
        exact fetch_one h hu root pc p0 p1 user h1 _ rfl h2 h3
      · rw [if_pos h3] at hs
        cases h4 : atB xs n root (nextI pc) false user
        · rw [if_neg (by simp [h4])] at hs
          unfold noneS at hs
          injection hs with e1 e2 e3 e4 e5 e6 e7 e8
          subst e1 e2 e3 e4 e5 e6 e7 e8
          exact fetch_page2 h hu root pc p0 p1 user h1 _ rfl h2 h3 h4
        · rw [if_pos h4] at hs
          unfold insS at hs
          injection hs with e1 e2 e3 e4 e5 e6 e7 e8
          subst e1 e2 e3 e4 e5 e6 e7 e8
          exact fetch_two h hu root pc p0 p1 user h1 _ rfl h2 h3 h4 _ rfl
end
end Go.Proofs.YtkkbhifplbleiaaDoor
