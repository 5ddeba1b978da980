/- The walk of the law CoreFetch. (Made by a program.) -/
import Derived.Test.YtaecbekobpgkoaaDoorZCFetch0
import Derived.Test.YtaecbekobpgkoaaDoorZCSays
import Derived.Test.YtaecbekobpgkoaaDoorZGRef
namespace Go.Proofs.YtaecbekobpgkoaaDoor
open Go.RowKit
def z192 : List Int := List.replicate 192 0
theorem make192 (W : World) : (Instr.makeSlice 28 (.int .i64 192) (.int .i64 192)).run Tryd.prog W = .ok (.slice (some ⟨W.heap.size, 0, none⟩) 192 192) (W.alloc (.cells (wA z192) 22)) := by
  obtain ⟨i, hi, hz0, hz1, hz2⟩ := info_parts (P := Tryd.prog) (e := 22) (z := .int .u32 0) (size := 1) (bytes := 4) (by kernel_rfl)
  have := run_make (P := Tryd.prog) W 28 22 i _ Tryd.underlying28 hi hz0 .i64 .i64 192 192 (by omega) (by omega) (by rw [hz2]; omega) (by omega)
  rw [this, hz1]
  have e := toList_madeZero (.int .u32 0) 192 1 (by omega)
  have e2 : wA z192 = Array.replicate 192 (.int .u32 0) := by unfold z192; simp only [wA, List.map_replicate, List.toArray_replicate]
  rw [e2, ← e]
  rfl
theorem z192_len : z192.length = 192 := List.length_replicate
theorem z192_u32 : U32s z192 := fun x hx => by have := List.eq_of_mem_replicate hx; omega
/-- the words of the law -/
def fetL (x w : Int) : List Int := (z192.set 191 x).set 0 w
theorem fetL_len (x w : Int) : (fetL x w).length = 192 := by unfold fetL; rw [List.length_set, List.length_set, z192_len]
theorem fetL_0 (x w : Int) : (fetL x w).getD 0 0 = w := by
  unfold fetL
  rw [List.getD_eq_getElem?_getD, List.getElem?_set_self (by rw [List.length_set, z192_len]; decide)]; rfl
theorem fetL_191 (x w : Int) : (fetL x w).getD 191 0 = x := by
  unfold fetL
  rw [List.getD_eq_getElem?_getD, List.getElem?_set_ne (by decide), List.getElem?_set_self (by rw [z192_len]; decide)]; rfl
theorem rof_back (x : Int) (w : World) (x0 : 0 ≤ x) (x1 : x < 4294967296) (B : Bool) (h : okW x = B) :
    Calls Tryd.prog 14 #[.int .u32 x, .int .u32 0] w fun e w' => ∃ i : Array Value, e = .returned (.tuple #[.agg i, .bool B]) ∧ i.size = 5 ∧ i.all (·.oneCell') = true ∧ w.grownBy w' none := by
  cases B
  · exact (rof_bad x 0 w x0 x1 rfl h).mono fun e w' ⟨he, hg⟩ => ⟨_, he, rfl, in_one _ _ _ _ _, hg⟩
  · exact (rof_one x w x0 x1 h).mono fun e w' ⟨he, hg⟩ => ⟨_, he, rfl, in_one _ _ _ _ _, hg⟩
set_option maxRecDepth 100000 in
set_option maxHeartbeats 8000000 in
theorem cfetch_no (op w : Int) (W : World) (_ : 0 ≤ w) (_ : w < 4294967296) (hi : insB op 0 0 0 0 = false) :
    Calls Tryd.prog 3 #[.int .i64 op, .int .u32 w] W fun e w' => e = .returned (.bool true) ∧ Below W.heap.size W w' := by
  have HI := hid hi
  clear hi
  go_enter Tryd.func3, Tryd.ntmps3
  go_wp2_with fail
  refine (first7_any _).mono ?_; rintro e v1 ⟨rfl, hg⟩
  have HG0 := hid hg
  clear hg
  go_wp2_with fail
  refine (rword_no op 0 0 0 0 _ HI.out).mono ?_; rintro e v2 ⟨rfl, hb⟩
  have HG1 := hid (grown_trans HG0.out (below_is_grown hb))
  clear hb HG0
  go_wp2
  go_ret
  exact ⟨rfl, grown_below HG1.out⟩
set_option maxRecDepth 100000 in
set_option maxHeartbeats 8000000 in
theorem cfetch_tg (op w : Int) (W : World) (w0 : 0 ≤ w) (w1 : w < 4294967296) (hi : insB op 0 0 0 0 = true) (ht : twoB op = true) (hw : okW w = true) :
    Calls Tryd.prog 3 #[.int .i64 op, .int .u32 w] W fun e w' => e = .returned (.bool true) ∧ Below W.heap.size W w' := by
  have HI := hid hi
  have HT := hid ht
  have HW := hid hw

  obtain ⟨x, hx⟩ : ∃ x, wrdI op 0 0 0 = x := ⟨_, rfl⟩
  have HX := hid hx
  have hxb := wrd_bd hi
  rw [hx] at hxb
  obtain ⟨o1, o2, o3, o4, o5⟩ := okW_wrd hi
  rw [hx] at o1 o2 o3 o4 o5
  have HFl := hid (fetL_len x w)
  have HUl : Hid (U32s (fetL x w)) := hid ((z192_u32.set 191 (by omega) (by omega)).set 0 w0 w1)
  obtain ⟨ys, hys⟩ : ∃ ys, mapW (fetL x w) true true = ys := ⟨_, rfl⟩
  have HY := hid hys
  have HYl : Hid (ys.length = 384) := hid (by rw [← hys]; exact mapW_len _ true true)
  have Hu : Hid (U32s ys) := hid (by rw [← hys]; exact mapW_u32 HUl.out true true)
  have HF1 : Hid (fetchP ys ((24 : Nat) : Int) 0 191 true = ⟨1, 192, 0, 0, 0, 0, 0, 0⟩) := hid (by rw [← hys]; exact fetch_last (fetL_191 x w) rfl o1 (by rw [o2]; exact ht))
  have HF2 : Hid (fetchP ys ((24 : Nat) : Int) 0 192 true = ⟨1, 192, 0, 0, 0, 0, 0, 0⟩) := hid (by rw [← hys]; exact fetch_far (by decide) (by decide))
  obtain ⟨ji, jn, hj⟩ := fetch_zero (l := fetL x w) (w := true) (fetL_0 x w) hw
  unfold insS at hj
  obtain ⟨jo, hjo⟩ : ∃ k, w / 16777216 = k := ⟨_, rfl⟩
  obtain ⟨ja, hja⟩ : ∃ k, w / 65536 % 256 = k := ⟨_, rfl⟩
  obtain ⟨jb, hjb⟩ : ∃ k, w / 256 % 256 = k := ⟨_, rfl⟩
  obtain ⟨jc, hjc⟩ : ∃ k, w % 256 = k := ⟨_, rfl⟩
  rw [hjo, hja, hjb, hjc, hys] at hj
  have HF3 : Hid (fetchP ys ((24 : Nat) : Int) 0 0 true = ⟨0, 0, jo, ja, jb, jc, ji, jn⟩) := hid hj
  clear hj hjo hja hjb hjc
  clear hys o1 o2 o3 o4 o5 hxb hi ht hw hx
  go_enter Tryd.func3, Tryd.ntmps3
  go_wp2_with fail
  refine (first7_any _).mono ?_; rintro e v1 ⟨rfl, hg⟩
  have HG0 := hid hg
  clear hg
  go_wp2_with fail
  refine (rword_yes op 0 0 0 0 _ HI.out).mono ?_; rw [HX.out]; rintro e v2 ⟨rfl, hb⟩
  replace HG0 := hid (grown_trans HG0.out (below_is_grown hb))
  clear hb
  have Hz := zero_ins
  have Hz2 := zero_stop
  have hmk := make192 v2
  have HLs := hid (RwAt.new v2 22 (wA z192))
  have HGs := hid (grown_alloc HG0.out (.cells (wA z192) 22))
  have HGe := hid HG0.out.size
  go_upto_region 8 with (fail)
  clear hmk
  generalize v2.alloc (.cells (wA z192) 22) = v3 at HLs HGs ⊢
  generalize v2.heap.size = g0 at HLs HGe ⊢
  have c0 := HLs.out.word (k := 0) (by rw [z192_len]; decide)
  have c9 := HLs.out.word (k := 191) (by rw [z192_len]; decide)
  have kf := fun k => HLs.out.free k
  have HLt : Hid (RwAt ((v3.setCell ⟨g0, 191, none⟩ (.int .u32 x)).setCell ⟨g0, 0, none⟩ (.int .u32 w)) g0 22 (wA (fetL x w))) := hid ((HLs.out.sWord 191 x).sWord 0 w)
  have HGt := hid (grown_setN (grown_setN HGs.out HGe.out 191 (.int .u32 x)) HGe.out 0 (.int .u32 w))
  go_upto_region 10 with (fail)
  clear c0 c9 kf HLs HGs HG0
  generalize ((v3.setCell ⟨g0, 191, none⟩ (.int .u32 x)).setCell ⟨g0, 0, none⟩ (.int .u32 w)) = v4 at HLt HGt ⊢
  have HS0 : Hid (SlAt v4 .u32 (.slice (some ⟨g0, 0, none⟩) 192 192) (fetL x w)) := hid (by
    have := SlAt.whole (k := .u32) (c := 192) (xs := fetL x w) HLt.out.blk
    rwa [HFl.out] at this)
  have HG0 := HGt
  clear HGt HLt
  go_wp2_with fail
  refine (mapped_any _ (fetL x w) true true _ HS0.out (by rw [HFl.out]; decide)).mono ?_; rintro e v5 ⟨g, rfl, hg0, hblk, hg⟩
  rw [HY.out] at hblk
  have HS1 : Hid (SlAt v5 .u32 (.slice (some ⟨g, 0, none⟩) 384 384) ys) := hid (by
    have := SlAt.whole (k := .u32) (c := 384) (xs := ys) hblk
    rwa [HYl.out] at this)
  replace HG0 := hid (grown_trans HG0.out hg)
  clear hblk hg hg0 HS0
  go_wp2_with fail
  refine (memory7_any _ ys _ HS1.out (Nat.le_of_eq HYl.out)).mono ?_; rintro e w4 ⟨m, b, m', b', rfl, hm, hb, hb', hM, hR, hg⟩
  rw [layX_full HYl.out] at hM
  have HM := hid hM
  replace HG0 := hid (grown_trans HG0.out hg)
  clear hM hR hm hb hb' hg HS1
  go_wp2_with fail
  refine (cfetch_of HM.out Hu.out 0 191 (by decide) (by decide) true 1 192 0 0 0 0 0 0 HF1.out).mono ?_; rintro e x1 ⟨rfl, hg⟩
  replace HM := hid (HM.out.kept0 hg)
  replace HG0 := hid (grown_trans HG0.out hg)
  clear hg
  have HN := hid (new_is x1 35 (inC 0 0 0 0 0) (spC 1 192 0 0 0 0 0 0))
  go_upto_region 14 with (first
    | (refine wpList_store_rw rfl 27 _ _ rfl rfl rfl ((RwAt.new _ _ _).alloc _) (by kernel_rfl) rfl (in_one _ _ _ _ _) ?_)
    | (refine wpList_store_rw rfl 35 _ _ rfl rfl rfl ((RwAt.new2 _ _ _ _).rowOther _ _ (by omega)) (by kernel_rfl) rfl (sp_one _ _ _ _ _ _ _ _) ?_)
    | fail)
  change Code.wp _ _ _ _ (isW x1 35 (inC 0 0 0 0 0) (spC 1 192 0 0 0 0 0 0))
  have HI1 := hid HN.out.1
  have HS1 := hid HN.out.2.1
  replace HM := hid (HM.out.kept0 HN.out.2.2)
  replace HG0 := hid (grown_trans HG0.out HN.out.2.2)
  clear HN
  generalize isW x1 35 (inC 0 0 0 0 0) (spC 1 192 0 0 0 0 0 0) = x1b at HI1 HS1 HM HG0 ⊢
  obtain ⟨S1, hB2⟩ : ∃ B, B = x1.heap.size + 1 := ⟨_, rfl⟩
  rw [← hB2] at HS1 ⊢
  clear hB2
  generalize x1.heap.size = I1 at HI1 ⊢
  go_wp2_with fail
  refine (cfetch_of HM.out Hu.out 0 192 (by decide) (by decide) true 1 192 0 0 0 0 0 0 HF2.out).mono ?_; rintro e x2 ⟨rfl, hg⟩
  replace HM := hid (HM.out.kept0 hg)
  replace HI1 := hid (HI1.out.kept0 hg)
  replace HS1 := hid (HS1.out.kept0 hg)
  replace HG0 := hid (grown_trans HG0.out hg)
  clear hg
  have HN := hid (new_is x2 35 (inC 0 0 0 0 0) (spC 1 192 0 0 0 0 0 0))
  go_upto_region 15 with (first
    | (refine wpList_store_rw rfl 27 _ _ rfl rfl rfl ((RwAt.new _ _ _).alloc _) (by kernel_rfl) rfl (in_one _ _ _ _ _) ?_)
    | (refine wpList_store_rw rfl 35 _ _ rfl rfl rfl ((RwAt.new2 _ _ _ _).rowOther _ _ (by omega)) (by kernel_rfl) rfl (sp_one _ _ _ _ _ _ _ _) ?_)
    | fail)
  change Code.wp _ _ _ _ (isW x2 35 (inC 0 0 0 0 0) (spC 1 192 0 0 0 0 0 0))
  have HI2 := hid HN.out.1
  have HS2 := hid HN.out.2.1
  replace HM := hid (HM.out.kept0 HN.out.2.2)
  replace HI1 := hid (HI1.out.kept0 HN.out.2.2)
  replace HS1 := hid (HS1.out.kept0 HN.out.2.2)
  replace HG0 := hid (grown_trans HG0.out HN.out.2.2)
  clear HN
  generalize isW x2 35 (inC 0 0 0 0 0) (spC 1 192 0 0 0 0 0 0) = x2b at HI2 HS2 HM HI1 HS1 HG0 ⊢
  obtain ⟨S2, hB2⟩ : ∃ B, B = x2.heap.size + 1 := ⟨_, rfl⟩
  rw [← hB2] at HS2 ⊢
  clear hB2
  generalize x2.heap.size = I2 at HI2 ⊢
  go_wp2_with fail
  refine (cfetch_of HM.out Hu.out 0 0 (by decide) (by decide) true 0 0 jo ja jb jc ji jn HF3.out).mono ?_; rintro e x3 ⟨rfl, hg⟩
  replace HM := hid (HM.out.kept0 hg)
  replace HI1 := hid (HI1.out.kept0 hg)
  replace HS1 := hid (HS1.out.kept0 hg)
  replace HI2 := hid (HI2.out.kept0 hg)
  replace HS2 := hid (HS2.out.kept0 hg)
  replace HG0 := hid (grown_trans HG0.out hg)
  clear hg
  have HN := hid (new_is x3 35 (inC jo ja jb jc ji) (spC 0 0 jo ja jb jc ji jn))
  go_upto_region 16 with (first
    | (refine wpList_store_rw rfl 27 _ _ rfl rfl rfl ((RwAt.new _ _ _).alloc _) (by kernel_rfl) rfl (in_one _ _ _ _ _) ?_)
    | (refine wpList_store_rw rfl 35 _ _ rfl rfl rfl ((RwAt.new2 _ _ _ _).rowOther _ _ (by omega)) (by kernel_rfl) rfl (sp_one _ _ _ _ _ _ _ _) ?_)
    | fail)
  change Code.wp _ _ _ _ (isW x3 35 (inC jo ja jb jc ji) (spC 0 0 jo ja jb jc ji jn))
  have HI3 := hid HN.out.1
  have HS3 := hid HN.out.2.1
  replace HM := hid (HM.out.kept0 HN.out.2.2)
  replace HI1 := hid (HI1.out.kept0 HN.out.2.2)
  replace HS1 := hid (HS1.out.kept0 HN.out.2.2)
  replace HI2 := hid (HI2.out.kept0 HN.out.2.2)
  replace HS2 := hid (HS2.out.kept0 HN.out.2.2)
  replace HG0 := hid (grown_trans HG0.out HN.out.2.2)
  clear HN
  generalize isW x3 35 (inC jo ja jb jc ji) (spC 0 0 jo ja jb jc ji jn) = x3b at HI3 HS3 HM HI1 HS1 HI2 HS2 HG0 ⊢
  obtain ⟨S3, hB2⟩ : ∃ B, B = x3.heap.size + 1 := ⟨_, rfl⟩
  rw [← hB2] at HS3 ⊢
  clear hB2
  generalize x3.heap.size = I3 at HI3 ⊢
  go_wp2_with fail
  refine (rof_back w _ w0 w1 true HW.out).mono ?_; rintro e x4 ⟨iw, rfl, hi5, hi1, hg⟩
  replace HM := hid (HM.out.kept0 hg)
  replace HI1 := hid (HI1.out.kept0 hg)
  replace HS1 := hid (HS1.out.kept0 hg)
  replace HI2 := hid (HI2.out.kept0 hg)
  replace HS2 := hid (HS2.out.kept0 hg)
  replace HI3 := hid (HI3.out.kept0 hg)
  replace HS3 := hid (HS3.out.kept0 hg)
  replace HG0 := hid (grown_trans HG0.out hg)
  clear hg
  have Hi5 : Hid ((Tryd.prog.info? 27).map (·.size) = some iw.size) := hid (by rw [hi5]; kernel_rfl)
  have Hi6 : Hid ((inC 0 0 0 0 0).size = iw.size) := hid (by rw [hi5]; rfl)
  have Hi1 := hid hi1
  clear hi5 hi1
  have hg : x4.grownBy ((x4.alloc (.cells (inC 0 0 0 0 0) 27)).setRow x4.heap.size iw) none := grown_setRow (grown_alloc (grown_refl _ _) _) (Nat.le_refl _) _
  replace HM := hid (HM.out.kept0 hg)
  replace HI1 := hid (HI1.out.kept0 hg)
  replace HS1 := hid (HS1.out.kept0 hg)
  replace HI2 := hid (HI2.out.kept0 hg)
  replace HS2 := hid (HS2.out.kept0 hg)
  replace HI3 := hid (HI3.out.kept0 hg)
  replace HS3 := hid (HS3.out.kept0 hg)
  replace HG0 := hid (grown_trans HG0.out hg)
  clear hg
  go_upto_region 17 with (first
    | (refine wpList_store_rw rfl 27 _ _ rfl rfl rfl (RwAt.new _ _ _) Hi5.out Hi6.out Hi1.out ?_)
    | fail)
  generalize ((x4.alloc (.cells (inC 0 0 0 0 0) 27)).setRow x4.heap.size iw) = x5 at HM HI1 HS1 HI2 HS2 HI3 HS3 HG0 ⊢
  have a0 : x5.cell? ⟨S2, 0, none⟩ = some (.int .i64 1) := HS2.out.cell 0 rfl
  have a1 : x5.cell? ⟨S2, 1, none⟩ = some (.int .u32 192) := HS2.out.cell 1 rfl
  have c0 : x5.cell? ⟨S3, 0, none⟩ = some (.int .i64 0) := HS3.out.cell 0 rfl
  have c7 : x5.cell? ⟨S3, 7, none⟩ = some (.int .u32 jn) := HS3.out.cell 7 rfl
  have d0 : x5.cell? ⟨I3, 0, none⟩ = some (.int .i64 jo) := HI3.out.cell 0 rfl
  have e0 : x5.cell? ⟨S1, 0, none⟩ = some (.int .i64 1) := HS1.out.cell 0 rfl
  have e1 : x5.cell? ⟨S1, 1, none⟩ = some (.int .u32 192) := HS1.out.cell 1 rfl
  have e7 : x5.cell? ⟨S1, 7, none⟩ = some (.int .u32 0) := HS1.out.cell 7 rfl
  have i0 : x5.cell? ⟨I1, 0, none⟩ = some (.int .i64 0) := HI1.out.cell 0 rfl
  go_wp2_with fail
  refine (rtwo_any _ _).mono ?_; rw [HT.out]; rintro e x6 ⟨rfl, rfl⟩
  go_wp2
  go_ret
  exact ⟨rfl, grown_below HG0.out⟩
set_option maxRecDepth 100000 in
set_option maxHeartbeats 8000000 in
theorem cfetch_tb (op w : Int) (W : World) (w0 : 0 ≤ w) (w1 : w < 4294967296) (hi : insB op 0 0 0 0 = true) (ht : twoB op = true) (hw : okW w = false) :
    Calls Tryd.prog 3 #[.int .i64 op, .int .u32 w] W fun e w' => e = .returned (.bool true) ∧ Below W.heap.size W w' := by
  have HI := hid hi
  have HT := hid ht
  have HW := hid hw

  obtain ⟨x, hx⟩ : ∃ x, wrdI op 0 0 0 = x := ⟨_, rfl⟩
  have HX := hid hx
  have hxb := wrd_bd hi
  rw [hx] at hxb
  obtain ⟨o1, o2, o3, o4, o5⟩ := okW_wrd hi
  rw [hx] at o1 o2 o3 o4 o5
  have HFl := hid (fetL_len x w)
  have HUl : Hid (U32s (fetL x w)) := hid ((z192_u32.set 191 (by omega) (by omega)).set 0 w0 w1)
  obtain ⟨ys, hys⟩ : ∃ ys, mapW (fetL x w) true true = ys := ⟨_, rfl⟩
  have HY := hid hys
  have HYl : Hid (ys.length = 384) := hid (by rw [← hys]; exact mapW_len _ true true)
  have Hu : Hid (U32s ys) := hid (by rw [← hys]; exact mapW_u32 HUl.out true true)
  have HF1 : Hid (fetchP ys ((24 : Nat) : Int) 0 191 true = ⟨1, 192, 0, 0, 0, 0, 0, 0⟩) := hid (by rw [← hys]; exact fetch_last (fetL_191 x w) rfl o1 (by rw [o2]; exact ht))
  have HF2 : Hid (fetchP ys ((24 : Nat) : Int) 0 192 true = ⟨1, 192, 0, 0, 0, 0, 0, 0⟩) := hid (by rw [← hys]; exact fetch_far (by decide) (by decide))
  have HF3 : Hid (fetchP ys ((24 : Nat) : Int) 0 0 true = ⟨4, 0, 0, 0, 0, 0, 0, 0⟩) := hid (by rw [← hys]; exact fetch_none (by decide) (by decide) (fetL_0 x w) rfl hw)
  clear hys o1 o2 o3 o4 o5 hxb hi ht hw hx
  go_enter Tryd.func3, Tryd.ntmps3
  go_wp2_with fail
  refine (first7_any _).mono ?_; rintro e v1 ⟨rfl, hg⟩
  have HG0 := hid hg
  clear hg
  go_wp2_with fail
  refine (rword_yes op 0 0 0 0 _ HI.out).mono ?_; rw [HX.out]; rintro e v2 ⟨rfl, hb⟩
  replace HG0 := hid (grown_trans HG0.out (below_is_grown hb))
  clear hb
  have Hz := zero_ins
  have Hz2 := zero_stop
  have hmk := make192 v2
  have HLs := hid (RwAt.new v2 22 (wA z192))
  have HGs := hid (grown_alloc HG0.out (.cells (wA z192) 22))
  have HGe := hid HG0.out.size
  go_upto_region 8 with (fail)
  clear hmk
  generalize v2.alloc (.cells (wA z192) 22) = v3 at HLs HGs ⊢
  generalize v2.heap.size = g0 at HLs HGe ⊢
  have c0 := HLs.out.word (k := 0) (by rw [z192_len]; decide)
  have c9 := HLs.out.word (k := 191) (by rw [z192_len]; decide)
  have kf := fun k => HLs.out.free k
  have HLt : Hid (RwAt ((v3.setCell ⟨g0, 191, none⟩ (.int .u32 x)).setCell ⟨g0, 0, none⟩ (.int .u32 w)) g0 22 (wA (fetL x w))) := hid ((HLs.out.sWord 191 x).sWord 0 w)
  have HGt := hid (grown_setN (grown_setN HGs.out HGe.out 191 (.int .u32 x)) HGe.out 0 (.int .u32 w))
  go_upto_region 10 with (fail)
  clear c0 c9 kf HLs HGs HG0
  generalize ((v3.setCell ⟨g0, 191, none⟩ (.int .u32 x)).setCell ⟨g0, 0, none⟩ (.int .u32 w)) = v4 at HLt HGt ⊢
  have HS0 : Hid (SlAt v4 .u32 (.slice (some ⟨g0, 0, none⟩) 192 192) (fetL x w)) := hid (by
    have := SlAt.whole (k := .u32) (c := 192) (xs := fetL x w) HLt.out.blk
    rwa [HFl.out] at this)
  have HG0 := HGt
  clear HGt HLt
  go_wp2_with fail
  refine (mapped_any _ (fetL x w) true true _ HS0.out (by rw [HFl.out]; decide)).mono ?_; rintro e v5 ⟨g, rfl, hg0, hblk, hg⟩
  rw [HY.out] at hblk
  have HS1 : Hid (SlAt v5 .u32 (.slice (some ⟨g, 0, none⟩) 384 384) ys) := hid (by
    have := SlAt.whole (k := .u32) (c := 384) (xs := ys) hblk
    rwa [HYl.out] at this)
  replace HG0 := hid (grown_trans HG0.out hg)
  clear hblk hg hg0 HS0
  go_wp2_with fail
  refine (memory7_any _ ys _ HS1.out (Nat.le_of_eq HYl.out)).mono ?_; rintro e w4 ⟨m, b, m', b', rfl, hm, hb, hb', hM, hR, hg⟩
  rw [layX_full HYl.out] at hM
  have HM := hid hM
  replace HG0 := hid (grown_trans HG0.out hg)
  clear hM hR hm hb hb' hg HS1
  go_wp2_with fail
  refine (cfetch_of HM.out Hu.out 0 191 (by decide) (by decide) true 1 192 0 0 0 0 0 0 HF1.out).mono ?_; rintro e x1 ⟨rfl, hg⟩
  replace HM := hid (HM.out.kept0 hg)
  replace HG0 := hid (grown_trans HG0.out hg)
  clear hg
  have HN := hid (new_is x1 35 (inC 0 0 0 0 0) (spC 1 192 0 0 0 0 0 0))
  go_upto_region 14 with (first
    | (refine wpList_store_rw rfl 27 _ _ rfl rfl rfl ((RwAt.new _ _ _).alloc _) (by kernel_rfl) rfl (in_one _ _ _ _ _) ?_)
    | (refine wpList_store_rw rfl 35 _ _ rfl rfl rfl ((RwAt.new2 _ _ _ _).rowOther _ _ (by omega)) (by kernel_rfl) rfl (sp_one _ _ _ _ _ _ _ _) ?_)
    | fail)
  change Code.wp _ _ _ _ (isW x1 35 (inC 0 0 0 0 0) (spC 1 192 0 0 0 0 0 0))
  have HI1 := hid HN.out.1
  have HS1 := hid HN.out.2.1
  replace HM := hid (HM.out.kept0 HN.out.2.2)
  replace HG0 := hid (grown_trans HG0.out HN.out.2.2)
  clear HN
  generalize isW x1 35 (inC 0 0 0 0 0) (spC 1 192 0 0 0 0 0 0) = x1b at HI1 HS1 HM HG0 ⊢
  obtain ⟨S1, hB2⟩ : ∃ B, B = x1.heap.size + 1 := ⟨_, rfl⟩
  rw [← hB2] at HS1 ⊢
  clear hB2
  generalize x1.heap.size = I1 at HI1 ⊢
  go_wp2_with fail
  refine (cfetch_of HM.out Hu.out 0 192 (by decide) (by decide) true 1 192 0 0 0 0 0 0 HF2.out).mono ?_; rintro e x2 ⟨rfl, hg⟩
  replace HM := hid (HM.out.kept0 hg)
  replace HI1 := hid (HI1.out.kept0 hg)
  replace HS1 := hid (HS1.out.kept0 hg)
  replace HG0 := hid (grown_trans HG0.out hg)
  clear hg
  have HN := hid (new_is x2 35 (inC 0 0 0 0 0) (spC 1 192 0 0 0 0 0 0))
  go_upto_region 15 with (first
    | (refine wpList_store_rw rfl 27 _ _ rfl rfl rfl ((RwAt.new _ _ _).alloc _) (by kernel_rfl) rfl (in_one _ _ _ _ _) ?_)
    | (refine wpList_store_rw rfl 35 _ _ rfl rfl rfl ((RwAt.new2 _ _ _ _).rowOther _ _ (by omega)) (by kernel_rfl) rfl (sp_one _ _ _ _ _ _ _ _) ?_)
    | fail)
  change Code.wp _ _ _ _ (isW x2 35 (inC 0 0 0 0 0) (spC 1 192 0 0 0 0 0 0))
  have HI2 := hid HN.out.1
  have HS2 := hid HN.out.2.1
  replace HM := hid (HM.out.kept0 HN.out.2.2)
  replace HI1 := hid (HI1.out.kept0 HN.out.2.2)
  replace HS1 := hid (HS1.out.kept0 HN.out.2.2)
  replace HG0 := hid (grown_trans HG0.out HN.out.2.2)
  clear HN
  generalize isW x2 35 (inC 0 0 0 0 0) (spC 1 192 0 0 0 0 0 0) = x2b at HI2 HS2 HM HI1 HS1 HG0 ⊢
  obtain ⟨S2, hB2⟩ : ∃ B, B = x2.heap.size + 1 := ⟨_, rfl⟩
  rw [← hB2] at HS2 ⊢
  clear hB2
  generalize x2.heap.size = I2 at HI2 ⊢
  go_wp2_with fail
  refine (cfetch_of HM.out Hu.out 0 0 (by decide) (by decide) true 4 0 0 0 0 0 0 0 HF3.out).mono ?_; rintro e x3 ⟨rfl, hg⟩
  replace HM := hid (HM.out.kept0 hg)
  replace HI1 := hid (HI1.out.kept0 hg)
  replace HS1 := hid (HS1.out.kept0 hg)
  replace HI2 := hid (HI2.out.kept0 hg)
  replace HS2 := hid (HS2.out.kept0 hg)
  replace HG0 := hid (grown_trans HG0.out hg)
  clear hg
  have HN := hid (new_is x3 35 (inC 0 0 0 0 0) (spC 4 0 0 0 0 0 0 0))
  go_upto_region 16 with (first
    | (refine wpList_store_rw rfl 27 _ _ rfl rfl rfl ((RwAt.new _ _ _).alloc _) (by kernel_rfl) rfl (in_one _ _ _ _ _) ?_)
    | (refine wpList_store_rw rfl 35 _ _ rfl rfl rfl ((RwAt.new2 _ _ _ _).rowOther _ _ (by omega)) (by kernel_rfl) rfl (sp_one _ _ _ _ _ _ _ _) ?_)
    | fail)
  change Code.wp _ _ _ _ (isW x3 35 (inC 0 0 0 0 0) (spC 4 0 0 0 0 0 0 0))
  have HI3 := hid HN.out.1
  have HS3 := hid HN.out.2.1
  replace HM := hid (HM.out.kept0 HN.out.2.2)
  replace HI1 := hid (HI1.out.kept0 HN.out.2.2)
  replace HS1 := hid (HS1.out.kept0 HN.out.2.2)
  replace HI2 := hid (HI2.out.kept0 HN.out.2.2)
  replace HS2 := hid (HS2.out.kept0 HN.out.2.2)
  replace HG0 := hid (grown_trans HG0.out HN.out.2.2)
  clear HN
  generalize isW x3 35 (inC 0 0 0 0 0) (spC 4 0 0 0 0 0 0 0) = x3b at HI3 HS3 HM HI1 HS1 HI2 HS2 HG0 ⊢
  obtain ⟨S3, hB2⟩ : ∃ B, B = x3.heap.size + 1 := ⟨_, rfl⟩
  rw [← hB2] at HS3 ⊢
  clear hB2
  generalize x3.heap.size = I3 at HI3 ⊢
  go_wp2_with fail
  refine (rof_back w _ w0 w1 false HW.out).mono ?_; rintro e x4 ⟨iw, rfl, hi5, hi1, hg⟩
  replace HM := hid (HM.out.kept0 hg)
  replace HI1 := hid (HI1.out.kept0 hg)
  replace HS1 := hid (HS1.out.kept0 hg)
  replace HI2 := hid (HI2.out.kept0 hg)
  replace HS2 := hid (HS2.out.kept0 hg)
  replace HI3 := hid (HI3.out.kept0 hg)
  replace HS3 := hid (HS3.out.kept0 hg)
  replace HG0 := hid (grown_trans HG0.out hg)
  clear hg
  have Hi5 : Hid ((Tryd.prog.info? 27).map (·.size) = some iw.size) := hid (by rw [hi5]; kernel_rfl)
  have Hi6 : Hid ((inC 0 0 0 0 0).size = iw.size) := hid (by rw [hi5]; rfl)
  have Hi1 := hid hi1
  clear hi5 hi1
  have hg : x4.grownBy ((x4.alloc (.cells (inC 0 0 0 0 0) 27)).setRow x4.heap.size iw) none := grown_setRow (grown_alloc (grown_refl _ _) _) (Nat.le_refl _) _
  replace HM := hid (HM.out.kept0 hg)
  replace HI1 := hid (HI1.out.kept0 hg)
  replace HS1 := hid (HS1.out.kept0 hg)
  replace HI2 := hid (HI2.out.kept0 hg)
  replace HS2 := hid (HS2.out.kept0 hg)
  replace HI3 := hid (HI3.out.kept0 hg)
  replace HS3 := hid (HS3.out.kept0 hg)
  replace HG0 := hid (grown_trans HG0.out hg)
  clear hg
  go_upto_region 17 with (first
    | (refine wpList_store_rw rfl 27 _ _ rfl rfl rfl (RwAt.new _ _ _) Hi5.out Hi6.out Hi1.out ?_)
    | fail)
  generalize ((x4.alloc (.cells (inC 0 0 0 0 0) 27)).setRow x4.heap.size iw) = x5 at HM HI1 HS1 HI2 HS2 HI3 HS3 HG0 ⊢
  have a0 : x5.cell? ⟨S2, 0, none⟩ = some (.int .i64 1) := HS2.out.cell 0 rfl
  have a1 : x5.cell? ⟨S2, 1, none⟩ = some (.int .u32 192) := HS2.out.cell 1 rfl
  have c0 : x5.cell? ⟨S3, 0, none⟩ = some (.int .i64 4) := HS3.out.cell 0 rfl
  have c7 : x5.cell? ⟨S3, 7, none⟩ = some (.int .u32 0) := HS3.out.cell 7 rfl
  have d0 : x5.cell? ⟨I3, 0, none⟩ = some (.int .i64 0) := HI3.out.cell 0 rfl
  have e0 : x5.cell? ⟨S1, 0, none⟩ = some (.int .i64 1) := HS1.out.cell 0 rfl
  have e1 : x5.cell? ⟨S1, 1, none⟩ = some (.int .u32 192) := HS1.out.cell 1 rfl
  have e7 : x5.cell? ⟨S1, 7, none⟩ = some (.int .u32 0) := HS1.out.cell 7 rfl
  have i0 : x5.cell? ⟨I1, 0, none⟩ = some (.int .i64 0) := HI1.out.cell 0 rfl
  go_wp2_with fail
  refine (rtwo_any _ _).mono ?_; rw [HT.out]; rintro e x6 ⟨rfl, rfl⟩
  go_wp2
  go_ret
  exact ⟨rfl, grown_below HG0.out⟩
set_option maxRecDepth 100000 in
set_option maxHeartbeats 8000000 in
theorem cfetch_og (op w : Int) (W : World) (w0 : 0 ≤ w) (w1 : w < 4294967296) (hi : insB op 0 0 0 0 = true) (ht : twoB op = false) (hw : okW w = true) :
    Calls Tryd.prog 3 #[.int .i64 op, .int .u32 w] W fun e w' => e = .returned (.bool true) ∧ Below W.heap.size W w' := by
  have HI := hid hi
  have HT := hid ht
  have HW := hid hw

  obtain ⟨x, hx⟩ : ∃ x, wrdI op 0 0 0 = x := ⟨_, rfl⟩
  have HX := hid hx
  have hxb := wrd_bd hi
  rw [hx] at hxb
  obtain ⟨o1, o2, o3, o4, o5⟩ := okW_wrd hi
  rw [hx] at o1 o2 o3 o4 o5
  have HFl := hid (fetL_len x w)
  have HUl : Hid (U32s (fetL x w)) := hid ((z192_u32.set 191 (by omega) (by omega)).set 0 w0 w1)
  obtain ⟨ys, hys⟩ : ∃ ys, mapW (fetL x w) true true = ys := ⟨_, rfl⟩
  have HY := hid hys
  have HYl : Hid (ys.length = 384) := hid (by rw [← hys]; exact mapW_len _ true true)
  have Hu : Hid (U32s ys) := hid (by rw [← hys]; exact mapW_u32 HUl.out true true)
  have HF1 : Hid (fetchP ys ((24 : Nat) : Int) 0 191 true = ⟨0, 0, op, 0, 0, 0, 0, 1⟩) := hid (by rw [← hys]; exact (fetch_at (by decide) (by decide) (fetL_191 x w) rfl o1 (by rw [o2]; exact ht)).trans (by unfold insS; rw [o2, o3, o4, o5]))
  have HF2 : Hid (fetchP ys ((24 : Nat) : Int) 0 192 true = ⟨1, 192, 0, 0, 0, 0, 0, 0⟩) := hid (by rw [← hys]; exact fetch_far (by decide) (by decide))
  obtain ⟨ji, jn, hj⟩ := fetch_zero (l := fetL x w) (w := true) (fetL_0 x w) hw
  unfold insS at hj
  obtain ⟨jo, hjo⟩ : ∃ k, w / 16777216 = k := ⟨_, rfl⟩
  obtain ⟨ja, hja⟩ : ∃ k, w / 65536 % 256 = k := ⟨_, rfl⟩
  obtain ⟨jb, hjb⟩ : ∃ k, w / 256 % 256 = k := ⟨_, rfl⟩
  obtain ⟨jc, hjc⟩ : ∃ k, w % 256 = k := ⟨_, rfl⟩
  rw [hjo, hja, hjb, hjc, hys] at hj
  have HF3 : Hid (fetchP ys ((24 : Nat) : Int) 0 0 true = ⟨0, 0, jo, ja, jb, jc, ji, jn⟩) := hid hj
  clear hj hjo hja hjb hjc
  clear hys o1 o2 o3 o4 o5 hxb hi ht hw hx
  go_enter Tryd.func3, Tryd.ntmps3
  go_wp2_with fail
  refine (first7_any _).mono ?_; rintro e v1 ⟨rfl, hg⟩
  have HG0 := hid hg
  clear hg
  go_wp2_with fail
  refine (rword_yes op 0 0 0 0 _ HI.out).mono ?_; rw [HX.out]; rintro e v2 ⟨rfl, hb⟩
  replace HG0 := hid (grown_trans HG0.out (below_is_grown hb))
  clear hb
  have Hz := zero_ins
  have Hz2 := zero_stop
  have hmk := make192 v2
  have HLs := hid (RwAt.new v2 22 (wA z192))
  have HGs := hid (grown_alloc HG0.out (.cells (wA z192) 22))
  have HGe := hid HG0.out.size
  go_upto_region 8 with (fail)
  clear hmk
  generalize v2.alloc (.cells (wA z192) 22) = v3 at HLs HGs ⊢
  generalize v2.heap.size = g0 at HLs HGe ⊢
  have c0 := HLs.out.word (k := 0) (by rw [z192_len]; decide)
  have c9 := HLs.out.word (k := 191) (by rw [z192_len]; decide)
  have kf := fun k => HLs.out.free k
  have HLt : Hid (RwAt ((v3.setCell ⟨g0, 191, none⟩ (.int .u32 x)).setCell ⟨g0, 0, none⟩ (.int .u32 w)) g0 22 (wA (fetL x w))) := hid ((HLs.out.sWord 191 x).sWord 0 w)
  have HGt := hid (grown_setN (grown_setN HGs.out HGe.out 191 (.int .u32 x)) HGe.out 0 (.int .u32 w))
  go_upto_region 10 with (fail)
  clear c0 c9 kf HLs HGs HG0
  generalize ((v3.setCell ⟨g0, 191, none⟩ (.int .u32 x)).setCell ⟨g0, 0, none⟩ (.int .u32 w)) = v4 at HLt HGt ⊢
  have HS0 : Hid (SlAt v4 .u32 (.slice (some ⟨g0, 0, none⟩) 192 192) (fetL x w)) := hid (by
    have := SlAt.whole (k := .u32) (c := 192) (xs := fetL x w) HLt.out.blk
    rwa [HFl.out] at this)
  have HG0 := HGt
  clear HGt HLt
  go_wp2_with fail
  refine (mapped_any _ (fetL x w) true true _ HS0.out (by rw [HFl.out]; decide)).mono ?_; rintro e v5 ⟨g, rfl, hg0, hblk, hg⟩
  rw [HY.out] at hblk
  have HS1 : Hid (SlAt v5 .u32 (.slice (some ⟨g, 0, none⟩) 384 384) ys) := hid (by
    have := SlAt.whole (k := .u32) (c := 384) (xs := ys) hblk
    rwa [HYl.out] at this)
  replace HG0 := hid (grown_trans HG0.out hg)
  clear hblk hg hg0 HS0
  go_wp2_with fail
  refine (memory7_any _ ys _ HS1.out (Nat.le_of_eq HYl.out)).mono ?_; rintro e w4 ⟨m, b, m', b', rfl, hm, hb, hb', hM, hR, hg⟩
  rw [layX_full HYl.out] at hM
  have HM := hid hM
  replace HG0 := hid (grown_trans HG0.out hg)
  clear hM hR hm hb hb' hg HS1
  go_wp2_with fail
  refine (cfetch_of HM.out Hu.out 0 191 (by decide) (by decide) true 0 0 op 0 0 0 0 1 HF1.out).mono ?_; rintro e x1 ⟨rfl, hg⟩
  replace HM := hid (HM.out.kept0 hg)
  replace HG0 := hid (grown_trans HG0.out hg)
  clear hg
  have HN := hid (new_is x1 35 (inC op 0 0 0 0) (spC 0 0 op 0 0 0 0 1))
  go_upto_region 14 with (first
    | (refine wpList_store_rw rfl 27 _ _ rfl rfl rfl ((RwAt.new _ _ _).alloc _) (by kernel_rfl) rfl (in_one _ _ _ _ _) ?_)
    | (refine wpList_store_rw rfl 35 _ _ rfl rfl rfl ((RwAt.new2 _ _ _ _).rowOther _ _ (by omega)) (by kernel_rfl) rfl (sp_one _ _ _ _ _ _ _ _) ?_)
    | fail)
  change Code.wp _ _ _ _ (isW x1 35 (inC op 0 0 0 0) (spC 0 0 op 0 0 0 0 1))
  have HI1 := hid HN.out.1
  have HS1 := hid HN.out.2.1
  replace HM := hid (HM.out.kept0 HN.out.2.2)
  replace HG0 := hid (grown_trans HG0.out HN.out.2.2)
  clear HN
  generalize isW x1 35 (inC op 0 0 0 0) (spC 0 0 op 0 0 0 0 1) = x1b at HI1 HS1 HM HG0 ⊢
  obtain ⟨S1, hB2⟩ : ∃ B, B = x1.heap.size + 1 := ⟨_, rfl⟩
  rw [← hB2] at HS1 ⊢
  clear hB2
  generalize x1.heap.size = I1 at HI1 ⊢
  go_wp2_with fail
  refine (cfetch_of HM.out Hu.out 0 192 (by decide) (by decide) true 1 192 0 0 0 0 0 0 HF2.out).mono ?_; rintro e x2 ⟨rfl, hg⟩
  replace HM := hid (HM.out.kept0 hg)
  replace HI1 := hid (HI1.out.kept0 hg)
  replace HS1 := hid (HS1.out.kept0 hg)
  replace HG0 := hid (grown_trans HG0.out hg)
  clear hg
  have HN := hid (new_is x2 35 (inC 0 0 0 0 0) (spC 1 192 0 0 0 0 0 0))
  go_upto_region 15 with (first
    | (refine wpList_store_rw rfl 27 _ _ rfl rfl rfl ((RwAt.new _ _ _).alloc _) (by kernel_rfl) rfl (in_one _ _ _ _ _) ?_)
    | (refine wpList_store_rw rfl 35 _ _ rfl rfl rfl ((RwAt.new2 _ _ _ _).rowOther _ _ (by omega)) (by kernel_rfl) rfl (sp_one _ _ _ _ _ _ _ _) ?_)
    | fail)
  change Code.wp _ _ _ _ (isW x2 35 (inC 0 0 0 0 0) (spC 1 192 0 0 0 0 0 0))
  have HI2 := hid HN.out.1
  have HS2 := hid HN.out.2.1
  replace HM := hid (HM.out.kept0 HN.out.2.2)
  replace HI1 := hid (HI1.out.kept0 HN.out.2.2)
  replace HS1 := hid (HS1.out.kept0 HN.out.2.2)
  replace HG0 := hid (grown_trans HG0.out HN.out.2.2)
  clear HN
  generalize isW x2 35 (inC 0 0 0 0 0) (spC 1 192 0 0 0 0 0 0) = x2b at HI2 HS2 HM HI1 HS1 HG0 ⊢
  obtain ⟨S2, hB2⟩ : ∃ B, B = x2.heap.size + 1 := ⟨_, rfl⟩
  rw [← hB2] at HS2 ⊢
  clear hB2
  generalize x2.heap.size = I2 at HI2 ⊢
  go_wp2_with fail
  refine (cfetch_of HM.out Hu.out 0 0 (by decide) (by decide) true 0 0 jo ja jb jc ji jn HF3.out).mono ?_; rintro e x3 ⟨rfl, hg⟩
  replace HM := hid (HM.out.kept0 hg)
  replace HI1 := hid (HI1.out.kept0 hg)
  replace HS1 := hid (HS1.out.kept0 hg)
  replace HI2 := hid (HI2.out.kept0 hg)
  replace HS2 := hid (HS2.out.kept0 hg)
  replace HG0 := hid (grown_trans HG0.out hg)
  clear hg
  have HN := hid (new_is x3 35 (inC jo ja jb jc ji) (spC 0 0 jo ja jb jc ji jn))
  go_upto_region 16 with (first
    | (refine wpList_store_rw rfl 27 _ _ rfl rfl rfl ((RwAt.new _ _ _).alloc _) (by kernel_rfl) rfl (in_one _ _ _ _ _) ?_)
    | (refine wpList_store_rw rfl 35 _ _ rfl rfl rfl ((RwAt.new2 _ _ _ _).rowOther _ _ (by omega)) (by kernel_rfl) rfl (sp_one _ _ _ _ _ _ _ _) ?_)
    | fail)
  change Code.wp _ _ _ _ (isW x3 35 (inC jo ja jb jc ji) (spC 0 0 jo ja jb jc ji jn))
  have HI3 := hid HN.out.1
  have HS3 := hid HN.out.2.1
  replace HM := hid (HM.out.kept0 HN.out.2.2)
  replace HI1 := hid (HI1.out.kept0 HN.out.2.2)
  replace HS1 := hid (HS1.out.kept0 HN.out.2.2)
  replace HI2 := hid (HI2.out.kept0 HN.out.2.2)
  replace HS2 := hid (HS2.out.kept0 HN.out.2.2)
  replace HG0 := hid (grown_trans HG0.out HN.out.2.2)
  clear HN
  generalize isW x3 35 (inC jo ja jb jc ji) (spC 0 0 jo ja jb jc ji jn) = x3b at HI3 HS3 HM HI1 HS1 HI2 HS2 HG0 ⊢
  obtain ⟨S3, hB2⟩ : ∃ B, B = x3.heap.size + 1 := ⟨_, rfl⟩
  rw [← hB2] at HS3 ⊢
  clear hB2
  generalize x3.heap.size = I3 at HI3 ⊢
  go_wp2_with fail
  refine (rof_back w _ w0 w1 true HW.out).mono ?_; rintro e x4 ⟨iw, rfl, hi5, hi1, hg⟩
  replace HM := hid (HM.out.kept0 hg)
  replace HI1 := hid (HI1.out.kept0 hg)
  replace HS1 := hid (HS1.out.kept0 hg)
  replace HI2 := hid (HI2.out.kept0 hg)
  replace HS2 := hid (HS2.out.kept0 hg)
  replace HI3 := hid (HI3.out.kept0 hg)
  replace HS3 := hid (HS3.out.kept0 hg)
  replace HG0 := hid (grown_trans HG0.out hg)
  clear hg
  have Hi5 : Hid ((Tryd.prog.info? 27).map (·.size) = some iw.size) := hid (by rw [hi5]; kernel_rfl)
  have Hi6 : Hid ((inC 0 0 0 0 0).size = iw.size) := hid (by rw [hi5]; rfl)
  have Hi1 := hid hi1
  clear hi5 hi1
  have hg : x4.grownBy ((x4.alloc (.cells (inC 0 0 0 0 0) 27)).setRow x4.heap.size iw) none := grown_setRow (grown_alloc (grown_refl _ _) _) (Nat.le_refl _) _
  replace HM := hid (HM.out.kept0 hg)
  replace HI1 := hid (HI1.out.kept0 hg)
  replace HS1 := hid (HS1.out.kept0 hg)
  replace HI2 := hid (HI2.out.kept0 hg)
  replace HS2 := hid (HS2.out.kept0 hg)
  replace HI3 := hid (HI3.out.kept0 hg)
  replace HS3 := hid (HS3.out.kept0 hg)
  replace HG0 := hid (grown_trans HG0.out hg)
  clear hg
  go_upto_region 17 with (first
    | (refine wpList_store_rw rfl 27 _ _ rfl rfl rfl (RwAt.new _ _ _) Hi5.out Hi6.out Hi1.out ?_)
    | fail)
  generalize ((x4.alloc (.cells (inC 0 0 0 0 0) 27)).setRow x4.heap.size iw) = x5 at HM HI1 HS1 HI2 HS2 HI3 HS3 HG0 ⊢
  have a0 : x5.cell? ⟨S2, 0, none⟩ = some (.int .i64 1) := HS2.out.cell 0 rfl
  have a1 : x5.cell? ⟨S2, 1, none⟩ = some (.int .u32 192) := HS2.out.cell 1 rfl
  have c0 : x5.cell? ⟨S3, 0, none⟩ = some (.int .i64 0) := HS3.out.cell 0 rfl
  have c7 : x5.cell? ⟨S3, 7, none⟩ = some (.int .u32 jn) := HS3.out.cell 7 rfl
  have d0 : x5.cell? ⟨I3, 0, none⟩ = some (.int .i64 jo) := HI3.out.cell 0 rfl
  have e0 : x5.cell? ⟨S1, 0, none⟩ = some (.int .i64 0) := HS1.out.cell 0 rfl
  have e1 : x5.cell? ⟨S1, 1, none⟩ = some (.int .u32 0) := HS1.out.cell 1 rfl
  have e7 : x5.cell? ⟨S1, 7, none⟩ = some (.int .u32 1) := HS1.out.cell 7 rfl
  have i0 : x5.cell? ⟨I1, 0, none⟩ = some (.int .i64 op) := HI1.out.cell 0 rfl
  go_wp2_with fail
  refine (rtwo_any _ _).mono ?_; rw [HT.out]; rintro e x6 ⟨rfl, rfl⟩
  go_wp2_with (first
    | (refine wpList_load_mid_wanted (by kernel_rfl) 27 _ rfl S1 2 rfl _ _ HS1.out.ins Tryd.underlying27 rfl (by kernel_rfl) ?_)
    | (refine wpList_load_rw_wanted (by kernel_rfl) 27 _ rfl rfl HI1.out rfl Tryd.underlying27 (by kernel_rfl) ?_)
    | (go_at_call 16; refine (same_ins op 0 0 0 0 _).mono ?_; rintro e x7 ⟨rfl, hg⟩; replace HG0 := hid (grown_trans HG0.out hg)))
  go_ret
  exact ⟨rfl, grown_below HG0.out⟩
set_option maxRecDepth 100000 in
set_option maxHeartbeats 8000000 in
theorem cfetch_ob (op w : Int) (W : World) (w0 : 0 ≤ w) (w1 : w < 4294967296) (hi : insB op 0 0 0 0 = true) (ht : twoB op = false) (hw : okW w = false) :
    Calls Tryd.prog 3 #[.int .i64 op, .int .u32 w] W fun e w' => e = .returned (.bool true) ∧ Below W.heap.size W w' := by
  have HI := hid hi
  have HT := hid ht
  have HW := hid hw

  obtain ⟨x, hx⟩ : ∃ x, wrdI op 0 0 0 = x := ⟨_, rfl⟩
  have HX := hid hx
  have hxb := wrd_bd hi
  rw [hx] at hxb
  obtain ⟨o1, o2, o3, o4, o5⟩ := okW_wrd hi
  rw [hx] at o1 o2 o3 o4 o5
  have HFl := hid (fetL_len x w)
  have HUl : Hid (U32s (fetL x w)) := hid ((z192_u32.set 191 (by omega) (by omega)).set 0 w0 w1)
  obtain ⟨ys, hys⟩ : ∃ ys, mapW (fetL x w) true true = ys := ⟨_, rfl⟩
  have HY := hid hys
  have HYl : Hid (ys.length = 384) := hid (by rw [← hys]; exact mapW_len _ true true)
  have Hu : Hid (U32s ys) := hid (by rw [← hys]; exact mapW_u32 HUl.out true true)
  have HF1 : Hid (fetchP ys ((24 : Nat) : Int) 0 191 true = ⟨0, 0, op, 0, 0, 0, 0, 1⟩) := hid (by rw [← hys]; exact (fetch_at (by decide) (by decide) (fetL_191 x w) rfl o1 (by rw [o2]; exact ht)).trans (by unfold insS; rw [o2, o3, o4, o5]))
  have HF2 : Hid (fetchP ys ((24 : Nat) : Int) 0 192 true = ⟨1, 192, 0, 0, 0, 0, 0, 0⟩) := hid (by rw [← hys]; exact fetch_far (by decide) (by decide))
  have HF3 : Hid (fetchP ys ((24 : Nat) : Int) 0 0 true = ⟨4, 0, 0, 0, 0, 0, 0, 0⟩) := hid (by rw [← hys]; exact fetch_none (by decide) (by decide) (fetL_0 x w) rfl hw)
  clear hys o1 o2 o3 o4 o5 hxb hi ht hw hx
  go_enter Tryd.func3, Tryd.ntmps3
  go_wp2_with fail
  refine (first7_any _).mono ?_; rintro e v1 ⟨rfl, hg⟩
  have HG0 := hid hg
  clear hg
  go_wp2_with fail
  refine (rword_yes op 0 0 0 0 _ HI.out).mono ?_; rw [HX.out]; rintro e v2 ⟨rfl, hb⟩
  replace HG0 := hid (grown_trans HG0.out (below_is_grown hb))
  clear hb
  have Hz := zero_ins
  have Hz2 := zero_stop
  have hmk := make192 v2
  have HLs := hid (RwAt.new v2 22 (wA z192))
  have HGs := hid (grown_alloc HG0.out (.cells (wA z192) 22))
  have HGe := hid HG0.out.size
  go_upto_region 8 with (fail)
  clear hmk
  generalize v2.alloc (.cells (wA z192) 22) = v3 at HLs HGs ⊢
  generalize v2.heap.size = g0 at HLs HGe ⊢
  have c0 := HLs.out.word (k := 0) (by rw [z192_len]; decide)
  have c9 := HLs.out.word (k := 191) (by rw [z192_len]; decide)
  have kf := fun k => HLs.out.free k
  have HLt : Hid (RwAt ((v3.setCell ⟨g0, 191, none⟩ (.int .u32 x)).setCell ⟨g0, 0, none⟩ (.int .u32 w)) g0 22 (wA (fetL x w))) := hid ((HLs.out.sWord 191 x).sWord 0 w)
  have HGt := hid (grown_setN (grown_setN HGs.out HGe.out 191 (.int .u32 x)) HGe.out 0 (.int .u32 w))
  go_upto_region 10 with (fail)
  clear c0 c9 kf HLs HGs HG0
  generalize ((v3.setCell ⟨g0, 191, none⟩ (.int .u32 x)).setCell ⟨g0, 0, none⟩ (.int .u32 w)) = v4 at HLt HGt ⊢
  have HS0 : Hid (SlAt v4 .u32 (.slice (some ⟨g0, 0, none⟩) 192 192) (fetL x w)) := hid (by
    have := SlAt.whole (k := .u32) (c := 192) (xs := fetL x w) HLt.out.blk
    rwa [HFl.out] at this)
  have HG0 := HGt
  clear HGt HLt
  go_wp2_with fail
  refine (mapped_any _ (fetL x w) true true _ HS0.out (by rw [HFl.out]; decide)).mono ?_; rintro e v5 ⟨g, rfl, hg0, hblk, hg⟩
  rw [HY.out] at hblk
  have HS1 : Hid (SlAt v5 .u32 (.slice (some ⟨g, 0, none⟩) 384 384) ys) := hid (by
    have := SlAt.whole (k := .u32) (c := 384) (xs := ys) hblk
    rwa [HYl.out] at this)
  replace HG0 := hid (grown_trans HG0.out hg)
  clear hblk hg hg0 HS0
  go_wp2_with fail
  refine (memory7_any _ ys _ HS1.out (Nat.le_of_eq HYl.out)).mono ?_; rintro e w4 ⟨m, b, m', b', rfl, hm, hb, hb', hM, hR, hg⟩
  rw [layX_full HYl.out] at hM
  have HM := hid hM
  replace HG0 := hid (grown_trans HG0.out hg)
  clear hM hR hm hb hb' hg HS1
  go_wp2_with fail
  refine (cfetch_of HM.out Hu.out 0 191 (by decide) (by decide) true 0 0 op 0 0 0 0 1 HF1.out).mono ?_; rintro e x1 ⟨rfl, hg⟩
  replace HM := hid (HM.out.kept0 hg)
  replace HG0 := hid (grown_trans HG0.out hg)
  clear hg
  have HN := hid (new_is x1 35 (inC op 0 0 0 0) (spC 0 0 op 0 0 0 0 1))
  go_upto_region 14 with (first
    | (refine wpList_store_rw rfl 27 _ _ rfl rfl rfl ((RwAt.new _ _ _).alloc _) (by kernel_rfl) rfl (in_one _ _ _ _ _) ?_)
    | (refine wpList_store_rw rfl 35 _ _ rfl rfl rfl ((RwAt.new2 _ _ _ _).rowOther _ _ (by omega)) (by kernel_rfl) rfl (sp_one _ _ _ _ _ _ _ _) ?_)
    | fail)
  change Code.wp _ _ _ _ (isW x1 35 (inC op 0 0 0 0) (spC 0 0 op 0 0 0 0 1))
  have HI1 := hid HN.out.1
  have HS1 := hid HN.out.2.1
  replace HM := hid (HM.out.kept0 HN.out.2.2)
  replace HG0 := hid (grown_trans HG0.out HN.out.2.2)
  clear HN
  generalize isW x1 35 (inC op 0 0 0 0) (spC 0 0 op 0 0 0 0 1) = x1b at HI1 HS1 HM HG0 ⊢
  obtain ⟨S1, hB2⟩ : ∃ B, B = x1.heap.size + 1 := ⟨_, rfl⟩
  rw [← hB2] at HS1 ⊢
  clear hB2
  generalize x1.heap.size = I1 at HI1 ⊢
  go_wp2_with fail
  refine (cfetch_of HM.out Hu.out 0 192 (by decide) (by decide) true 1 192 0 0 0 0 0 0 HF2.out).mono ?_; rintro e x2 ⟨rfl, hg⟩
  replace HM := hid (HM.out.kept0 hg)
  replace HI1 := hid (HI1.out.kept0 hg)
  replace HS1 := hid (HS1.out.kept0 hg)
  replace HG0 := hid (grown_trans HG0.out hg)
  clear hg
  have HN := hid (new_is x2 35 (inC 0 0 0 0 0) (spC 1 192 0 0 0 0 0 0))
  go_upto_region 15 with (first
    | (refine wpList_store_rw rfl 27 _ _ rfl rfl rfl ((RwAt.new _ _ _).alloc _) (by kernel_rfl) rfl (in_one _ _ _ _ _) ?_)
    | (refine wpList_store_rw rfl 35 _ _ rfl rfl rfl ((RwAt.new2 _ _ _ _).rowOther _ _ (by omega)) (by kernel_rfl) rfl (sp_one _ _ _ _ _ _ _ _) ?_)
    | fail)
  change Code.wp _ _ _ _ (isW x2 35 (inC 0 0 0 0 0) (spC 1 192 0 0 0 0 0 0))
  have HI2 := hid HN.out.1
  have HS2 := hid HN.out.2.1
  replace HM := hid (HM.out.kept0 HN.out.2.2)
  replace HI1 := hid (HI1.out.kept0 HN.out.2.2)
  replace HS1 := hid (HS1.out.kept0 HN.out.2.2)
  replace HG0 := hid (grown_trans HG0.out HN.out.2.2)
  clear HN
  generalize isW x2 35 (inC 0 0 0 0 0) (spC 1 192 0 0 0 0 0 0) = x2b at HI2 HS2 HM HI1 HS1 HG0 ⊢
  obtain ⟨S2, hB2⟩ : ∃ B, B = x2.heap.size + 1 := ⟨_, rfl⟩
  rw [← hB2] at HS2 ⊢
  clear hB2
  generalize x2.heap.size = I2 at HI2 ⊢
  go_wp2_with fail
  refine (cfetch_of HM.out Hu.out 0 0 (by decide) (by decide) true 4 0 0 0 0 0 0 0 HF3.out).mono ?_; rintro e x3 ⟨rfl, hg⟩
  replace HM := hid (HM.out.kept0 hg)
  replace HI1 := hid (HI1.out.kept0 hg)
  replace HS1 := hid (HS1.out.kept0 hg)
  replace HI2 := hid (HI2.out.kept0 hg)
  replace HS2 := hid (HS2.out.kept0 hg)
  replace HG0 := hid (grown_trans HG0.out hg)
  clear hg
  have HN := hid (new_is x3 35 (inC 0 0 0 0 0) (spC 4 0 0 0 0 0 0 0))
  go_upto_region 16 with (first
    | (refine wpList_store_rw rfl 27 _ _ rfl rfl rfl ((RwAt.new _ _ _).alloc _) (by kernel_rfl) rfl (in_one _ _ _ _ _) ?_)
    | (refine wpList_store_rw rfl 35 _ _ rfl rfl rfl ((RwAt.new2 _ _ _ _).rowOther _ _ (by omega)) (by kernel_rfl) rfl (sp_one _ _ _ _ _ _ _ _) ?_)
    | fail)
  change Code.wp _ _ _ _ (isW x3 35 (inC 0 0 0 0 0) (spC 4 0 0 0 0 0 0 0))
  have HI3 := hid HN.out.1
  have HS3 := hid HN.out.2.1
  replace HM := hid (HM.out.kept0 HN.out.2.2)
  replace HI1 := hid (HI1.out.kept0 HN.out.2.2)
  replace HS1 := hid (HS1.out.kept0 HN.out.2.2)
  replace HI2 := hid (HI2.out.kept0 HN.out.2.2)
  replace HS2 := hid (HS2.out.kept0 HN.out.2.2)
  replace HG0 := hid (grown_trans HG0.out HN.out.2.2)
  clear HN
  generalize isW x3 35 (inC 0 0 0 0 0) (spC 4 0 0 0 0 0 0 0) = x3b at HI3 HS3 HM HI1 HS1 HI2 HS2 HG0 ⊢
  obtain ⟨S3, hB2⟩ : ∃ B, B = x3.heap.size + 1 := ⟨_, rfl⟩
  rw [← hB2] at HS3 ⊢
  clear hB2
  generalize x3.heap.size = I3 at HI3 ⊢
  go_wp2_with fail
  refine (rof_back w _ w0 w1 false HW.out).mono ?_; rintro e x4 ⟨iw, rfl, hi5, hi1, hg⟩
  replace HM := hid (HM.out.kept0 hg)
  replace HI1 := hid (HI1.out.kept0 hg)
  replace HS1 := hid (HS1.out.kept0 hg)
  replace HI2 := hid (HI2.out.kept0 hg)
  replace HS2 := hid (HS2.out.kept0 hg)
  replace HI3 := hid (HI3.out.kept0 hg)
  replace HS3 := hid (HS3.out.kept0 hg)
  replace HG0 := hid (grown_trans HG0.out hg)
  clear hg
  have Hi5 : Hid ((Tryd.prog.info? 27).map (·.size) = some iw.size) := hid (by rw [hi5]; kernel_rfl)
  have Hi6 : Hid ((inC 0 0 0 0 0).size = iw.size) := hid (by rw [hi5]; rfl)
  have Hi1 := hid hi1
  clear hi5 hi1
  have hg : x4.grownBy ((x4.alloc (.cells (inC 0 0 0 0 0) 27)).setRow x4.heap.size iw) none := grown_setRow (grown_alloc (grown_refl _ _) _) (Nat.le_refl _) _
  replace HM := hid (HM.out.kept0 hg)
  replace HI1 := hid (HI1.out.kept0 hg)
  replace HS1 := hid (HS1.out.kept0 hg)
  replace HI2 := hid (HI2.out.kept0 hg)
  replace HS2 := hid (HS2.out.kept0 hg)
  replace HI3 := hid (HI3.out.kept0 hg)
  replace HS3 := hid (HS3.out.kept0 hg)
  replace HG0 := hid (grown_trans HG0.out hg)
  clear hg
  go_upto_region 17 with (first
    | (refine wpList_store_rw rfl 27 _ _ rfl rfl rfl (RwAt.new _ _ _) Hi5.out Hi6.out Hi1.out ?_)
    | fail)
  generalize ((x4.alloc (.cells (inC 0 0 0 0 0) 27)).setRow x4.heap.size iw) = x5 at HM HI1 HS1 HI2 HS2 HI3 HS3 HG0 ⊢
  have a0 : x5.cell? ⟨S2, 0, none⟩ = some (.int .i64 1) := HS2.out.cell 0 rfl
  have a1 : x5.cell? ⟨S2, 1, none⟩ = some (.int .u32 192) := HS2.out.cell 1 rfl
  have c0 : x5.cell? ⟨S3, 0, none⟩ = some (.int .i64 4) := HS3.out.cell 0 rfl
  have c7 : x5.cell? ⟨S3, 7, none⟩ = some (.int .u32 0) := HS3.out.cell 7 rfl
  have d0 : x5.cell? ⟨I3, 0, none⟩ = some (.int .i64 0) := HI3.out.cell 0 rfl
  have e0 : x5.cell? ⟨S1, 0, none⟩ = some (.int .i64 0) := HS1.out.cell 0 rfl
  have e1 : x5.cell? ⟨S1, 1, none⟩ = some (.int .u32 0) := HS1.out.cell 1 rfl
  have e7 : x5.cell? ⟨S1, 7, none⟩ = some (.int .u32 1) := HS1.out.cell 7 rfl
  have i0 : x5.cell? ⟨I1, 0, none⟩ = some (.int .i64 op) := HI1.out.cell 0 rfl
  go_wp2_with fail
  refine (rtwo_any _ _).mono ?_; rw [HT.out]; rintro e x6 ⟨rfl, rfl⟩
  go_wp2_with (first
    | (refine wpList_load_mid_wanted (by kernel_rfl) 27 _ rfl S1 2 rfl _ _ HS1.out.ins Tryd.underlying27 rfl (by kernel_rfl) ?_)
    | (refine wpList_load_rw_wanted (by kernel_rfl) 27 _ rfl rfl HI1.out rfl Tryd.underlying27 (by kernel_rfl) ?_)
    | (go_at_call 16; refine (same_ins op 0 0 0 0 _).mono ?_; rintro e x7 ⟨rfl, hg⟩; replace HG0 := hid (grown_trans HG0.out hg)))
  go_ret
  exact ⟨rfl, grown_below HG0.out⟩
theorem cfetch_walk (op w : Int) (W : World) (_ : -9223372036854775808 ≤ op) (_ : op ≤ 9223372036854775807) (w0 : 0 ≤ w) (w1 : w ≤ 4294967295) :
    Calls Tryd.prog 3 #[.int .i64 op, .int .u32 w] W fun e w' => e = .returned (.bool true) ∧ Below W.heap.size W w' := by
  cases hi : insB op 0 0 0 0
  · exact cfetch_no op w W w0 (by omega) hi
  · cases ht : twoB op <;> cases hw : okW w
    · exact cfetch_ob op w W w0 (by omega) hi ht hw
    · exact cfetch_og op w W w0 (by omega) hi ht hw
    · exact cfetch_tb op w W w0 (by omega) hi ht hw
    · exact cfetch_tg op w W w0 (by omega) hi ht hw
end Go.Proofs.YtaecbekobpgkoaaDoor
