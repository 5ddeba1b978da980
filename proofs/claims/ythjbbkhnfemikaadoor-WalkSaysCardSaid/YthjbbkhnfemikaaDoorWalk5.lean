/- What package walk's Walk answers: a contract. -/
import Derived.Test.YthjbbkhnfemikaaDoorWalk4
namespace Go.Proofs.YthjbbkhnfemikaaDoor
open Go.RowKit
/-- may it be used so? -/
def mayB (T X U r write user : Bool) : Bool := T && (!write || X) && (!user || U) && r
def placeV (B : Bool) (F addr : Int) : Int := if B = true then F * 16 + addr % 16 else 0
section
variable {m b n c : Nat} {xs : List Int} {W : World}
set_option maxRecDepth 100000 in
set_option maxHeartbeats 4000000 in
theorem walk_core (h : MemAt W m b n c xs) (hu : U32s xs) (root addr : Int) (a0 : 0 ≤ addr) (a1 : addr < 4294967296) (write user : Bool) (F : Int) (T X U : Bool)
    (hF : oF (pageO xs n root (addr / 16)) = F) (hT : oT (pageO xs n root (addr / 16)) = T) (hX : oW (pageO xs n root (addr / 16)) = X) (hU : oU (pageO xs n root (addr / 16)) = U) (f0 : 0 ≤ F) (f1 : F < 1024) (r : Bool) (hr : decide (0 ≤ F ∧ F < (n : Int)) = r) :
    Calls Tryd.prog 12 #[.pointer (some ⟨m, 0, none⟩), .int .i64 root, .int .u32 addr, .bool write, .bool user] W fun e w' => e = .returned (.tuple #[.int .i64 (placeV (mayB T X U r write user) F addr), .bool (mayB T X U r write user)]) ∧ W.grownBy w' none := by
  have H := hid h
  have Hu := hid hu
  have Hr := hid hr
  have HF := hid hF
  have HT := hid hT
  have HX := hid hX
  have HU := hid hU
  have q0 : 0 ≤ addr / 16 := by omega
  clear h hu hr hF hT hX hU
  cases T
  · go_enter Tryd.func12, Tryd.ntmps12
    go_wp2_with fail
    refine (page_any H.out Hu.out _ _ F false X U HF.out HT.out HX.out HU.out).mono ?_; rintro e W1 ⟨rfl, hg⟩
    have HG := hid hg
    clear hg
    go_wp2
    go_ret2
    exact ⟨rfl, grown_alloc HG.out _⟩
  · cases write <;> cases X <;> cases user <;> cases U <;> cases r
    all_goals
      go_enter Tryd.func12, Tryd.ntmps12
      go_wp2_with fail
      refine (page_any H.out Hu.out _ _ F true _ _ HF.out HT.out HX.out HU.out).mono ?_; rintro e W1 ⟨rfl, hg⟩
      have HG := hid hg
      have H1 : ∀ o, Hid (MemAt (W1.alloc o) m b n c xs) := fun o => hid ((H.out.kept0 hg).kept0 (World.grownBy_alloc W1 o none))
      clear hg
      go_wp2_with (go_at_call 25; refine (whas_any (H1 _).out _ _ Hr.out).mono ?_; rintro e w' ⟨rfl, rfl⟩)
      go_ret2
      exact ⟨rfl, grown_alloc HG.out _⟩
end
end Go.Proofs.YthjbbkhnfemikaaDoor
