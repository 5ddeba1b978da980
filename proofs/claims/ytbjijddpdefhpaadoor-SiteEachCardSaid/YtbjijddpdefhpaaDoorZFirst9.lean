/- The chapter's example (facadelaw9.first): a contract. -/
import Derived.Test.YtbjijddpdefhpaaDoorZObj18
import Derived.Test.YtbjijddpdefhpaaDoorZObjL
namespace Go.Proofs.YtbjijddpdefhpaaDoor
open Go.RowKit
theorem first9_any {w : World} {A : Nat → Addr} (he : ErrC w A) : Calls Tryd.prog 6 #[] w fun e w' => e = .returned (.bool true) ∧ w.grownBy w' none := by
  have Hz := zero_obj
  have Hb := hid (bytes_yes (oat0 w) he ofit0 valid0)
  have H24 := hid bytes0
  clear he
  unfold ov0 at Hb
  go_enter Tryd.func6, Tryd.ntmps6
  go_wp2_with fail
  refine (Hb.out).mono ?_
  rintro e w2 ⟨v, rfl, hby, hg⟩
  obtain ⟨p, c, rfl⟩ := own_slice hby.own
  rw [H24.out]
  have HG := hid hg
  clear hby hg
  go_wp2
  go_ret
  exact ⟨rfl, HG.out⟩
end Go.Proofs.YtbjijddpdefhpaaDoor
