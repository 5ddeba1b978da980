/- core's fetch as a function; core.Fetch: contracts. -/
import Derived.Test.YtkkbhifplbleiaaGreatDoorZCore4
namespace Go.Proofs.YtkkbhifplbleiaaGreatDoor
open Go.RowKit
section
variable {m b n c : Nat} {xs : List Int} {W : World}
theorem fetch_of (h : MemAt W m b n c xs) (hu : U32s xs) (root pc : Int) (p0 : 0 ≤ pc) (p1 : pc < 4294967296) (user : Bool) (ca ad op ia ib ic im ln : Int) (hs : fetchP xs n root pc user = ⟨ca, ad, op, ia, ib, ic, im, ln⟩) :
    Calls Tryz.prog 103 #[.agg #[.pointer (some ⟨m, 0, none⟩), .int .i64 root, .bool user], .int .u32 pc] W fun e w' => e = .returned (.tuple #[.agg (inC op ia ib ic im), .agg (spC ca ad op ia ib ic im ln)]) ∧ W.grownBy w' none := by
  unfold fetchP at hs
  cases h1 : atB xs n root pc false user
  · rw [if_neg (by simp [h1])] at hs
    unfold noneS at hs
    injection hs with e1 e2 e3 e4 e5 e6 e7 e8
    subst e1 e2 e3 e4 e5 e6 e7 e8
    exact fetch_page h hu root pc p0 p1 user h1
  · rw [if_pos h1] at hs
    cases h2 : okW (rdV xs n root pc user)
    · rw [if_neg (by simp [h2])] at hs
      unfold noneS at hs
      injection hs with e1 e2 e3 e4 e5 e6 e7 e8
      subst e1 e2 e3 e4 e5 e6 e7 e8
      exact fetch_bad h hu root pc p0 p1 user h1 _ rfl h2
    · rw [if_pos h2] at hs
      cases h3 : twoB (rdV xs n root pc user / 16777216)
      · rw [if_neg (by simp [h3])] at hs
        unfold insS at hs
        injection hs with e1 e2 e3 e4 e5 e6 e7 e8
        subst e1 e2 e3 e4 e5 e6 e7 e8
        exact fetch_one h hu root pc p0 p1 user h1 _ rfl h2 h3
      · rw [if_pos h3] at hs
        cases h4 : atB xs n root (nextI pc) false user
        · rw [if_neg (by simp [h4])] at hs
          unfold noneS at hs
          injection hs with e1 e2 e3 e4 e5 e6 e7 e8
          subst e1 e2 e3 e4 e5 e6 e7 e8
          exact fetch_page2 h hu root pc p0 p1 user h1 _ rfl h2 h3 h4
        · rw [if_pos h4] at hs
          unfold insS at hs
          injection hs with e1 e2 e3 e4 e5 e6 e7 e8
          subst e1 e2 e3 e4 e5 e6 e7 e8
          exact fetch_two h hu root pc p0 p1 user h1 _ rfl h2 h3 h4 _ rfl
set_option maxRecDepth 100000 in
set_option maxHeartbeats 1000000 in
theorem cfetch_of (h : MemAt W m b n c xs) (hu : U32s xs) (root pc : Int) (p0 : 0 ≤ pc) (p1 : pc < 4294967296) (user : Bool) (ca ad op ia ib ic im ln : Int) (hs : fetchP xs n root pc user = ⟨ca, ad, op, ia, ib, ic, im, ln⟩) :
    Calls Tryz.prog 96 #[.pointer (some ⟨m, 0, none⟩), .int .i64 root, .int .u32 pc, .bool user] W fun e w' => e = .returned (.tuple #[.agg (inC op ia ib ic im), .agg (spC ca ad op ia ib ic im ln)]) ∧ W.grownBy w' none := by
  have Hz := zero_ins
  have Hz2 := zero_stop
  obtain ⟨b2, b3, e2, e3⟩ : ∃ b2 b3, b2 = W.heap.size ∧ b3 = b2 + 1 := ⟨_, _, rfl, rfl⟩
  have NE : Hid (b2 ≠ b3) := hid (by omega)
  have HB2 : Hid (W.heap.size ≤ b2) := hid (by omega)
  have HB3 : Hid (W.heap.size ≤ b3) := hid (by omega)
  have HG : Hid (W.grownBy ((W.alloc (.cells (inC 0 0 0 0 0) 112)).alloc (.cells (spC 0 0 0 0 0 0 0 0) 138)) none) := hid (grown_alloc (grown_alloc (grown_refl _ _) _) _)
  have HM := hid (h.kept0 HG.out)
  have HR1 : Hid (RwAt ((W.alloc (.cells (inC 0 0 0 0 0) 112)).alloc (.cells (spC 0 0 0 0 0 0 0 0) 138)) b2 112 (inC 0 0 0 0 0)) := hid (by rw [e2]; exact (RwAt.new _ _ _).alloc _)
  have HR2 : Hid (RwAt ((W.alloc (.cells (inC 0 0 0 0 0) 112)).alloc (.cells (spC 0 0 0 0 0 0 0 0) 138)) b3 138 (spC 0 0 0 0 0 0 0 0)) := hid (by rw [e3, e2]; exact RwAt.new2 _ _ _ _)
  have Hu := hid hu
  have HS := hid hs
  clear h hu hs
  go_enter Tryz.func96, Tryz.ntmps96
  go_upto_region 1 with (fail)
  generalize ((W.alloc (.cells (inC 0 0 0 0 0) 112)).alloc (.cells (spC 0 0 0 0 0 0 0 0) 138)) = w3 at HG HM HR1 HR2 ⊢
  rw [← e2, ← e3]
  clear e2 e3
  go_wp2_with fail
  refine (fetch_of HM.out Hu.out root pc p0 p1 user ca ad op ia ib ic im ln HS.out).mono ?_; rintro e w4 ⟨rfl, hg⟩
  replace HR1 := hid (HR1.out.kept0 hg)
  replace HR2 := hid (HR2.out.kept0 hg)
  replace HG := hid (grown_trans HG.out hg)
  clear hg
  have E1 := hid ((HR1.out.row (inC op ia ib ic im)).rowOther b3 (spC ca ad op ia ib ic im ln) NE.out)
  have E2 := hid ((HR2.out.rowOther b2 (inC op ia ib ic im) NE.out.symm).row (spC ca ad op ia ib ic im ln))
  have EG := hid (grown_setRow (grown_setRow HG.out HB2.out (inC op ia ib ic im)) HB3.out (spC ca ad op ia ib ic im ln))
  go_wp2_with (first
    | (refine wpList_store_rw rfl 112 _ _ rfl rfl rfl HR1.out (by kernel_rfl) rfl (in_one _ _ _ _ _) ?_)
    | (refine wpList_store_rw rfl 138 _ _ rfl rfl rfl (HR2.out.rowOther _ _ NE.out.symm) (by kernel_rfl) rfl (sp_one _ _ _ _ _ _ _ _) ?_)
    | fail)
  refine bodyPost_ret (results_cell2 Tryz.results96 _ _ rfl rfl E1.out.blk E2.out.blk rfl rfl Tryz.underlying112 Tryz.underlying138 (by kernel_rfl) (by kernel_rfl)) rfl ?_
  exact ⟨rfl, EG.out⟩
end
end Go.Proofs.YtkkbhifplbleiaaGreatDoor
