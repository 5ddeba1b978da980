/- core's view: place, read: contracts. -/
import Derived.Test.YtkkbhifplbleiaaGreatDoorZCoreP
import Derived.Test.YtkkbhifplbleiaaGreatDoorZGCore
import Derived.Test.YtkkbhifplbleiaaGreatDoorZGWay
namespace Go.Proofs.YtkkbhifplbleiaaGreatDoor
open Go.RowKit
section
variable {m b n c : Nat} {xs : List Int} {W : World}
set_option maxRecDepth 100000 in
set_option maxHeartbeats 1000000 in
theorem place_of (h : MemAt W m b n c xs) (hu : U32s xs) (root addr : Int) (a0 : 0 ≤ addr) (a1 : addr < 4294967296) (write user : Bool) (V : Int) (B : Bool) (hB : atB xs n root addr write user = B) (hV : atV xs n root addr write user = V) :
    Calls Tryz.prog 140 #[.agg #[.pointer (some ⟨m, 0, none⟩), .int .i64 root, .bool user], .int .u32 addr, .bool write] W fun e w' => e = .returned (.tuple #[.int .i64 V, .bool B]) ∧ W.grownBy w' none := by
  have H : Hid (MemAt (W.alloc (.cells #[.pointer (some ⟨m, 0, none⟩), .int .i64 root, .bool user] 168)) m b n c xs) := hid (h.kept0 (World.grownBy_alloc _ _ _))
  have Hu := hid hu
  have HB := hid hB
  have HV := hid hV
  have HG : Hid (W.grownBy (W.alloc (.cells #[.pointer (some ⟨m, 0, none⟩), .int .i64 root, .bool user] 168)) none) := hid (World.grownBy_alloc _ _ _)
  clear h hu hB hV
  go_enter Tryz.func140, Tryz.ntmps140
  go_wp2_with fail
  refine (walk_any H.out Hu.out root addr a0 a1 write user V B HB.out HV.out).mono ?_; rintro e w1 ⟨rfl, hg⟩
  have HG1 := hid (grown_trans HG.out hg)
  clear hg
  go_wp2
  go_ret2
  exact ⟨rfl, HG1.out⟩
theorem rw_view (w : World) (m : Nat) (root : Int) (user : Bool) : RwAt (w.alloc (.cells #[.pointer (some ⟨m, 0, none⟩), .int .i64 root, .bool user] 168)) w.heap.size 168 #[.pointer (some ⟨m, 0, none⟩), .int .i64 root, .bool user] := RwAt.new _ _ _
set_option maxRecDepth 100000 in
set_option maxHeartbeats 1000000 in
theorem vread_of (h : MemAt W m b n c xs) (hu : U32s xs) (root addr : Int) (a0 : 0 ≤ addr) (a1 : addr < 4294967296) (user : Bool) (X : Int) (B : Bool) (hB : atB xs n root addr false user = B) (hX : rdV xs n root addr user = X) :
    Calls Tryz.prog 121 #[.agg #[.pointer (some ⟨m, 0, none⟩), .int .i64 root, .bool user], .int .u32 addr] W fun e w' => e = .returned (.tuple #[.int .u32 X, .bool B]) ∧ W.grownBy w' none := by
  have H : Hid (MemAt (W.alloc (.cells #[.pointer (some ⟨m, 0, none⟩), .int .i64 root, .bool user] 168)) m b n c xs) := hid (h.kept0 (World.grownBy_alloc _ _ _))
  have Hu := hid hu
  have HB := hid hB
  have HG : Hid (W.grownBy (W.alloc (.cells #[.pointer (some ⟨m, 0, none⟩), .int .i64 root, .bool user] 168)) none) := hid (World.grownBy_alloc _ _ _)
  have HW := hid (rw_view W m root user)
  obtain ⟨V, hV⟩ : ∃ V, atV xs n root addr false user = V := ⟨_, rfl⟩
  have HV := hid hV
  clear h hu
  cases B
  · have HX : Hid (0 = X) := hid (by rw [← hX, rdV, if_neg (by simp [hB])])
    clear hX hB hV
    go_enter Tryz.func121, Tryz.ntmps121
    go_upto_region 1 with (fail)
    generalize W.alloc (.cells #[.pointer (some ⟨m, 0, none⟩), .int .i64 root, .bool user] 168) = w1 at H HG HW ⊢
    generalize W.heap.size = b1 at HW ⊢
    go_wp2_with (refine wpList_load_rw rfl 168 _ rfl rfl HW.out rfl Tryz.underlying168 (by kernel_rfl) ?_)
    refine (place_of H.out Hu.out root addr a0 a1 false user V false HB.out HV.out).mono ?_; rintro e w2 ⟨rfl, hg⟩
    have HG1 := hid (grown_trans HG.out hg)
    clear hg
    go_wp2
    go_ret2
    exact ⟨by have e := HX.out; subst e; rfl, HG1.out⟩
  · obtain ⟨k, hk, hk2⟩ := at_in hB
    obtain ⟨x, hx⟩ : ∃ x, xs[k]? = some x := ⟨_, List.getElem?_eq_getElem (by rw [H.out.len]; exact hk2)⟩
    have HX : Hid (x = X) := hid (by rw [← hX, rdV, if_pos hB]; exact (wordI_get hx hk).symm)
    have Hx := hid hx
    have HK : Hid (V = (k : Int)) := hid (hV.symm.trans hk)
    clear hX hB hV hk hk2 hx
    go_enter Tryz.func121, Tryz.ntmps121
    go_upto_region 1 with (fail)
    generalize W.alloc (.cells #[.pointer (some ⟨m, 0, none⟩), .int .i64 root, .bool user] 168) = w1 at H HG HW ⊢
    generalize W.heap.size = b1 at HW ⊢
    go_wp2_with (refine wpList_load_rw rfl 168 _ rfl rfl HW.out rfl Tryz.underlying168 (by kernel_rfl) ?_)
    refine (place_of H.out Hu.out root addr a0 a1 false user V true HB.out HV.out).mono ?_; rintro e w2 ⟨rfl, hg⟩
    have HG1 := hid (grown_trans HG.out hg)
    have H2 := hid (H.out.kept0 hg)
    have k0 := (HW.out.kept0 hg).cell 0 rfl
    clear hg
    go_wp2_with fail
    refine (read_of H2.out V k x HK.out Hx.out).mono ?_; rintro e w3 ⟨rfl, rfl⟩
    go_wp2
    go_ret2
    exact ⟨by have e := HX.out; subst e; rfl, HG1.out⟩
end
end Go.Proofs.YtkkbhifplbleiaaGreatDoor
