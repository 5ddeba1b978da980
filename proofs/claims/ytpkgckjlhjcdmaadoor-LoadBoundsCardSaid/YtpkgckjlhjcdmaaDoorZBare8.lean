/- bare's instruct: contracts. (Made by a program.) -/
import Derived.Test.YtpkgckjlhjcdmaaDoorZBare7
import Derived.Deep.RegionHeld3
import Derived.Deep.DeepCutAuto
namespace Go.Proofs.YtpkgckjlhjcdmaaDoor
open Go.RowKit
section
variable {w : World} {B p m bm d n cap : Nat} {q : Int} {xs : List Int} {l : List Int} {pc : Int} {ie eie : Bool} {epc tv cc cd : Int} {dv : DvS} {now : Int} {ov : Bool} {ws : List (Int × Int)} {vs vw : Value}
end
/-- a stop of the supervisor's bears no address -/
theorem once_ad0 {xs : List Int} {n root : Int} {x : Cp} {user : Bool} {y : Cp} {ad op a b c im ln : Int} {ms : List Int} (ho : onceP xs n root x user = ⟨y, ⟨6, ad, op, a, b, c, im, ln⟩, ms⟩) : ad = 0 := by
  unfold onceP doP at ho
  obtain ⟨t, hs⟩ : ∃ t, fetchP xs n root x.pc user = t := ⟨_, rfl⟩
  rw [hs] at ho
  have hca := fetch_ca xs n root x.pc user
  rw [hs] at hca
  obtain ⟨ca0, ad0, op0, a0, b0, c0, im0, ln0⟩ := t
  have hca : ca0 = 0 ∨ ca0 = 1 ∨ ca0 = 4 := hca
  have had : ca0 = 0 → ad0 = 0 := by
    intro e; subst e
    unfold fetchP at hs
    repeat' (split at hs)
    all_goals first | (unfold insS at hs; injection hs with e1 e2; exact e2.symm) | (unfold noneS at hs; injection hs with e1; omega)
  simp only at ho
  split at ho
  · rename_i e0
    split at ho
    · unfold innP moveP at ho
      repeat' (split at ho)
      all_goals (injection ho with q1 q2 q3; injection q2 with e1; omega)
    · repeat' (split at ho)
      all_goals (injection ho with q1 q2 q3; injection q2 with e1 e2; first | omega | (rw [← e2]; exact had e0))
  · injection ho with q1 q2 q3
    injection q2 with e1
    omega
section
variable {W w w1 : World} {p m bm n cap : Nat} {hd : Value} {c : Cp} {tl : List Value} {ys ms : List Int} {o2 o3 : Option Nat}
end
section
variable {w : World} {B p m bm d n cap : Nat} {q : Int} {xs : List Int} {l : List Int} {pc : Int} {ie eie : Bool} {epc tv cc cd : Int} {dv : DvS} {now : Int} {ov : Bool} {ws : List (Int × Int)} {vs vw : Value}
theorem ins_go {M : Mc} {y : Cp} {ad op a b c im ln : Int} {ms : List Int} (ho : onceP M.xs n 0 M.c false = ⟨y, ⟨0, ad, op, a, b, c, im, ln⟩, ms⟩) : insP n q M = ⟨ms, y, M.d, M.now, M.ov, M.ws⟩ := by unfold insP; rw [ho]; rfl
theorem ins_priv {M : Mc} {y : Cp} {ad op a b c im ln : Int} {ms : List Int} (ho : onceP M.xs n 0 M.c false = ⟨y, ⟨6, ad, op, a, b, c, im, ln⟩, ms⟩) : insP n q M = privP n q M op a b ln := by unfold insP; rw [ho]; rfl
theorem ins_call {M : Mc} {y : Cp} {ad op a b c im ln : Int} {ms : List Int} (ho : onceP M.xs n 0 M.c false = ⟨y, ⟨7, ad, op, a, b, c, im, ln⟩, ms⟩) : insP n q M = takeP M 4 0 := by unfold insP; rw [ho]; rfl
theorem ins_trap {M : Mc} {y : Cp} {ca ad op a b c im ln : Int} {ms : List Int} (ho : onceP M.xs n 0 M.c false = ⟨y, ⟨ca, ad, op, a, b, c, im, ln⟩, ms⟩) (h : ca = 1 ∨ ca = 4) : insP n q M = takeP M ca ad := by
  unfold insP; rw [ho]
  rcases h with rfl | rfl <;> rfl
end
end Go.Proofs.YtpkgckjlhjcdmaaDoor
