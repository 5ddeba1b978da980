/- The document's own Once: contracts (moves). (Made by a program.) -/
import Derived.Test.YtkkbhifplbleiaaDoorZRCore1
import Derived.Test.YtkkbhifplbleiaaDoorZGCoreB
namespace Go.Proofs.YtkkbhifplbleiaaDoor
open Go.RowKit
theorem RefAt.keptL {w w1 : World} {m b N : Nat} {xs : List Int} {R : List Nat} (h : RefAt w m b N xs) (hg : Lv w w1 R) (hm : m ∉ R) (hb : b ∉ R) : RefAt w1 m b N xs :=
  { h with hm := (hg.block _ h.mlt hm).trans h.hm, hb := (hg.block _ h.blt hb).trans h.hb }
theorem rwrite_at {w : World} {m b N : Nat} {xs : List Int} (h : RefAt w m b N xs) (a x : Int) (k : Nat) (ha : a = (k : Int)) (hk : k < N) :
    Calls Tryd.prog 19 #[.pointer (some ⟨m, 0, none⟩), .int .i64 a, .int .u32 x] w fun e w' => e = .returned (.bool true) ∧ RefAt w' m b N (xs.set k x) ∧ w.grownBy w' (some b) := by
  subst ha; exact rwrite_yes h k x hk
section
variable {m b0 n N : Nat} {xs : List Int} {l : List Int} {pc : Int} {ie eie : Bool} {epc tv cc cd ca ad op a b c im ln : Int} {W : World}
end
end Go.Proofs.YtkkbhifplbleiaaDoor
