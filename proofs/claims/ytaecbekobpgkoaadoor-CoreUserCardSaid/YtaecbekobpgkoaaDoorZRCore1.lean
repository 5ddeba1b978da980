/- The document's own Fetch: a contract. (Made by a program.) -/
import Derived.Test.YtaecbekobpgkoaaDoorZCore4
import Derived.Test.YtaecbekobpgkoaaDoorZGRWalk
import Derived.Test.YtaecbekobpgkoaaDoorZGRef
namespace Go.Proofs.YtaecbekobpgkoaaDoor
open Go.RowKit
theorem rof_bad (x imm : Int) (w : World) (x0 : 0 ≤ x) (x1 : x < 4294967296) (hi : imm = 0) (h : okW x = false) :
    Calls Tryd.prog 14 #[.int .u32 x, .int .u32 imm] w fun e w' => e = .returned (.tuple #[.agg (inC 0 0 0 0 0), .bool false]) ∧ w.grownBy w' none := by
  subst hi
  exact (rof_no x 0 w x0 x1 (by rw [wantImm_zero]; exact h)).mono fun e w' ⟨he, hb⟩ => ⟨he, below_is_grown hb⟩
theorem rof_one (x : Int) (w : World) (x0 : 0 ≤ x) (x1 : x < 4294967296) (h : okW x = true) :
    Calls Tryd.prog 14 #[.int .u32 x, .int .u32 0] w fun e w' => e = .returned (.tuple #[.agg (inC (x / 16777216) (x / 65536 % 256) (x / 256 % 256) (x % 256) 0), .bool true]) ∧ w.grownBy w' none := by
  have := rof_yes x 0 w x0 x1 (by rw [wantImm_zero]; exact h)
  rw [wantImm_zero] at this
  exact this.mono fun e w' ⟨he, hb⟩ => ⟨he, below_is_grown hb⟩
section
variable {m b n N : Nat} {xs : List Int} {W : World}
theorem rread_at (h : RefAt W m b N xs) (a : Int) (k : Nat) (x : Int) (ha : a = (k : Int)) (hx : xs[k]? = some x) :
    Calls Tryd.prog 36 #[.pointer (some ⟨m, 0, none⟩), .int .i64 a] W fun e w' => e = .returned (.tuple #[.int .u32 x, .bool true]) ∧ W = w' := by
  subst ha; exact rread_yes h k x hx
/-- where a place is there a word is -/
theorem rd_word (hl : xs.length = n * 16) {root addr : Int} {user : Bool} (hb : atB xs n root addr false user = true) : ∃ k : Nat, atV xs n root addr false user = (k : Int) ∧ xs[k]? = some (rdV xs n root addr user) := by
  obtain ⟨k, hk, hk2⟩ := at_in hb
  refine ⟨k, hk, ?_⟩
  unfold rdV
  rw [if_pos hb]
  have hx : xs[k]? = some xs[k] := List.getElem?_eq_getElem (by omega)
  rw [wordI_get hx hk, hx]
set_option maxRecDepth 100000 in
set_option maxHeartbeats 2000000 in
theorem rfetch_page (h : RefAt W m b N xs) (hN : N = n * 16) (hn2 : n ≤ 1024) (hu : U32s xs) (root pc : Int) (p0 : 0 ≤ pc) (p1 : pc < 4294967296) (user : Bool) (hb : atB xs n root pc false user = false) :
    Calls Tryd.prog 17 #[.pointer (some ⟨m, 0, none⟩), .int .i64 root, .int .u32 pc, .bool user] W fun e w' => e = .returned (.tuple #[.agg (inC 0 0 0 0 0), .agg (spC 1 pc 0 0 0 0 0 0)]) ∧ W.grownBy w' none := by
  have Hz := zero_ins
  have Hz2 := zero_rstop
  obtain ⟨b2, b3, e2, e3⟩ : ∃ b2 b3, b2 = W.heap.size ∧ b3 = b2 + 1 := ⟨_, _, rfl, rfl⟩
  have NE : Hid (b2 ≠ b3) := hid (by omega)
  have HB2 : Hid (W.heap.size ≤ b2) := hid (by omega)
  have HB3 : Hid (W.heap.size ≤ b3) := hid (by omega)
  have HG : Hid (W.grownBy ((W.alloc (.cells (inC 0 0 0 0 0) 27)).alloc (.cells (spC 0 0 0 0 0 0 0 0) 47)) none) := hid (grown_alloc (grown_alloc (grown_refl _ _) _) _)
  have HM := hid (h.kept0 HG.out)
  have HR1 : Hid (RwAt ((W.alloc (.cells (inC 0 0 0 0 0) 27)).alloc (.cells (spC 0 0 0 0 0 0 0 0) 47)) b2 27 (inC 0 0 0 0 0)) := hid (by rw [e2]; exact (RwAt.new _ _ _).alloc _)
  have HR2 : Hid (RwAt ((W.alloc (.cells (inC 0 0 0 0 0) 27)).alloc (.cells (spC 0 0 0 0 0 0 0 0) 47)) b3 47 (spC 0 0 0 0 0 0 0 0)) := hid (by rw [e3, e2]; exact RwAt.new2 _ _ _ _)
  have Hu := hid hu
  have HN := hid hN
  have Hn2 := hid hn2
  have HL := hid (h.len.trans hN)
  clear h hu hN hn2
  have HB := hid hb
  clear hb
  go_enter Tryd.func17, Tryd.ntmps17
  go_upto_region 1 with (fail)
  generalize ((W.alloc (.cells (inC 0 0 0 0 0) 27)).alloc (.cells (spC 0 0 0 0 0 0 0 0) 47)) = w3 at HG HM HR1 HR2 ⊢
  rw [← e2, ← e3]
  clear e2 e3
  go_wp2_with fail
  refine (rwalk_any HM.out HN.out Hn2.out Hu.out root pc p0 p1 false user _ false HB.out rfl).mono ?_; rintro e w4 ⟨rfl, hg⟩
  replace HM := hid (HM.out.kept0 hg)
  replace HR1 := hid (HR1.out.kept0 hg)
  replace HR2 := hid (HR2.out.kept0 hg)
  replace HG := hid (grown_trans HG.out hg)
  clear hg
  have E1 := hid ((HR1.out.row (inC 0 0 0 0 0)).rowOther b3 (spC 1 pc 0 0 0 0 0 0) NE.out)
  have E2 := hid ((HR2.out.rowOther b2 (inC 0 0 0 0 0) NE.out.symm).row (spC 1 pc 0 0 0 0 0 0))
  have EG := hid (grown_setRow (grown_setRow HG.out HB2.out (inC 0 0 0 0 0)) HB3.out (spC 1 pc 0 0 0 0 0 0))
  go_wp2_with (first
    | (refine wpList_build_ins rfl rfl ?_)
    | (refine wpList_build_s1 builds_rstop rfl _ _ rfl rfl ?_)
    | (refine wpList_build_s0 builds_rstop rfl _ rfl ?_)
    | (refine wpList_store_rw rfl 27 _ _ rfl rfl rfl HR1.out (by kernel_rfl) rfl (in_one _ _ _ _ _) ?_)
    | (refine wpList_store_rw rfl 47 _ _ rfl rfl rfl (HR2.out.rowOther _ _ NE.out.symm) (by kernel_rfl) rfl (sp_one _ _ _ _ _ _ _ _) ?_)
    | fail)
  refine bodyPost_ret (results_cell2 Tryd.results17 _ _ rfl rfl E1.out.blk E2.out.blk rfl rfl Tryd.underlying27 Tryd.underlying47 (by kernel_rfl) (by kernel_rfl)) rfl ?_
  exact ⟨rfl, EG.out⟩
set_option maxRecDepth 100000 in
set_option maxHeartbeats 2000000 in
theorem rfetch_bad (h : RefAt W m b N xs) (hN : N = n * 16) (hn2 : n ≤ 1024) (hu : U32s xs) (root pc : Int) (p0 : 0 ≤ pc) (p1 : pc < 4294967296) (user : Bool) (hb : atB xs n root pc false user = true) (X : Int) (hX : rdV xs n root pc user = X) (hw : okW X = false) :
    Calls Tryd.prog 17 #[.pointer (some ⟨m, 0, none⟩), .int .i64 root, .int .u32 pc, .bool user] W fun e w' => e = .returned (.tuple #[.agg (inC 0 0 0 0 0), .agg (spC 4 0 0 0 0 0 0 0)]) ∧ W.grownBy w' none := by
  have X0 := hid (rdV_bd hu n root pc user).1
  have X1 := hid (rdV_bd hu n root pc user).2
  rw [hX] at X0 X1
  have Hz := zero_ins
  have Hz2 := zero_rstop
  obtain ⟨b2, b3, e2, e3⟩ : ∃ b2 b3, b2 = W.heap.size ∧ b3 = b2 + 1 := ⟨_, _, rfl, rfl⟩
  have NE : Hid (b2 ≠ b3) := hid (by omega)
  have HB2 : Hid (W.heap.size ≤ b2) := hid (by omega)
  have HB3 : Hid (W.heap.size ≤ b3) := hid (by omega)
  have HG : Hid (W.grownBy ((W.alloc (.cells (inC 0 0 0 0 0) 27)).alloc (.cells (spC 0 0 0 0 0 0 0 0) 47)) none) := hid (grown_alloc (grown_alloc (grown_refl _ _) _) _)
  have HM := hid (h.kept0 HG.out)
  have HR1 : Hid (RwAt ((W.alloc (.cells (inC 0 0 0 0 0) 27)).alloc (.cells (spC 0 0 0 0 0 0 0 0) 47)) b2 27 (inC 0 0 0 0 0)) := hid (by rw [e2]; exact (RwAt.new _ _ _).alloc _)
  have HR2 : Hid (RwAt ((W.alloc (.cells (inC 0 0 0 0 0) 27)).alloc (.cells (spC 0 0 0 0 0 0 0 0) 47)) b3 47 (spC 0 0 0 0 0 0 0 0)) := hid (by rw [e3, e2]; exact RwAt.new2 _ _ _ _)
  have Hu := hid hu
  have HN := hid hN
  have Hn2 := hid hn2
  have HL := hid (h.len.trans hN)
  clear h hu hN hn2
  obtain ⟨k, hk, hx⟩ := rd_word HL.out hb
  obtain ⟨V, hV⟩ : ∃ V, atV xs n root pc false user = V := ⟨_, rfl⟩
  rw [hX] at hx
  rw [hV] at hk
  have HK := hid hk
  have Hx := hid hx
  have HV := hid hV
  clear hk hx hV
  have HB := hid hb
  have HW := hid hw
  clear hb hX hw
  go_enter Tryd.func17, Tryd.ntmps17
  go_upto_region 1 with (fail)
  generalize ((W.alloc (.cells (inC 0 0 0 0 0) 27)).alloc (.cells (spC 0 0 0 0 0 0 0 0) 47)) = w3 at HG HM HR1 HR2 ⊢
  rw [← e2, ← e3]
  clear e2 e3
  go_wp2_with fail
  refine (rwalk_any HM.out HN.out Hn2.out Hu.out root pc p0 p1 false user V true HB.out HV.out).mono ?_; rintro e w4 ⟨rfl, hg⟩
  replace HM := hid (HM.out.kept0 hg)
  replace HR1 := hid (HR1.out.kept0 hg)
  replace HR2 := hid (HR2.out.kept0 hg)
  replace HG := hid (grown_trans HG.out hg)
  clear hg
  go_wp2_with fail
  refine (rread_at HM.out V k X HK.out Hx.out).mono ?_; rintro e w4b ⟨rfl, rfl⟩
  go_wp2_with fail
  refine (rof_bad X _ _ X0.out X1.out rfl HW.out).mono ?_; rintro e w5 ⟨rfl, hg⟩
  replace HM := hid (HM.out.kept0 hg)
  replace HR1 := hid (HR1.out.kept0 hg)
  replace HR2 := hid (HR2.out.kept0 hg)
  replace HG := hid (grown_trans HG.out hg)
  clear hg
  have hg : w5.grownBy ((w5.alloc (.cells (inC 0 0 0 0 0) 27)).setRow w5.heap.size (inC 0 0 0 0 0)) none := grown_setRow (grown_alloc (grown_refl _ _) _) (Nat.le_refl _) _
  have HI := hid ((RwAt.new w5 27 (inC 0 0 0 0 0)).row (inC 0 0 0 0 0))
  have NE4 : Hid (w5.heap.size ≠ b2) := hid (by have := HR1.out.lt; omega)
  have NE3 : Hid (w5.heap.size ≠ b3) := hid (by have := HR2.out.lt; omega)
  have HB4 : Hid (W.heap.size ≤ w5.heap.size) := hid HG.out.size
  replace HM := hid (HM.out.kept0 hg)
  replace HR1 := hid (HR1.out.kept0 hg)
  replace HR2 := hid (HR2.out.kept0 hg)
  replace HG := hid (grown_trans HG.out hg)
  clear hg
  go_upto_region 6 with (first
    | (refine wpList_store_rw rfl 27 _ _ rfl rfl rfl (RwAt.new _ _ _) (by kernel_rfl) rfl (in_one _ _ _ _ _) ?_)
    | fail)
  generalize ((w5.alloc (.cells (inC 0 0 0 0 0) 27)).setRow w5.heap.size (inC 0 0 0 0 0)) = w6 at HI HM HR1 HR2 HG ⊢
  generalize w5.heap.size = b4 at HI NE3 NE4 HB4 ⊢
  have E1 := hid ((HR1.out.row (inC 0 0 0 0 0)).rowOther b3 (spC 4 0 0 0 0 0 0 0) NE.out)
  have E2 := hid ((HR2.out.rowOther b2 (inC 0 0 0 0 0) NE.out.symm).row (spC 4 0 0 0 0 0 0 0))
  have EG := hid (grown_setRow (grown_setRow HG.out HB2.out (inC 0 0 0 0 0)) HB3.out (spC 4 0 0 0 0 0 0 0))
  go_wp2_with (first
    | (refine wpList_build_ins rfl rfl ?_)
    | (refine wpList_build_s1 builds_rstop rfl _ _ rfl rfl ?_)
    | (refine wpList_build_s0 builds_rstop rfl _ rfl ?_)
    | (refine wpList_store_rw rfl 27 _ _ rfl rfl rfl HR1.out (by kernel_rfl) rfl (in_one _ _ _ _ _) ?_)
    | (refine wpList_store_rw rfl 47 _ _ rfl rfl rfl (HR2.out.rowOther _ _ NE.out.symm) (by kernel_rfl) rfl (sp_one _ _ _ _ _ _ _ _) ?_)
    | fail)
  refine bodyPost_ret (results_cell2 Tryd.results17 _ _ rfl rfl E1.out.blk E2.out.blk rfl rfl Tryd.underlying27 Tryd.underlying47 (by kernel_rfl) (by kernel_rfl)) rfl ?_
  exact ⟨rfl, EG.out⟩
set_option maxRecDepth 100000 in
set_option maxHeartbeats 2000000 in
theorem rfetch_one (h : RefAt W m b N xs) (hN : N = n * 16) (hn2 : n ≤ 1024) (hu : U32s xs) (root pc : Int) (p0 : 0 ≤ pc) (p1 : pc < 4294967296) (user : Bool) (hb : atB xs n root pc false user = true) (X : Int) (hX : rdV xs n root pc user = X) (hw : okW X = true) (ht : twoB (X / 16777216) = false) :
    Calls Tryd.prog 17 #[.pointer (some ⟨m, 0, none⟩), .int .i64 root, .int .u32 pc, .bool user] W fun e w' => e = .returned (.tuple #[.agg (inC (X / 16777216) (X / 65536 % 256) (X / 256 % 256) (X % 256) 0), .agg (spC 0 0 (X / 16777216) (X / 65536 % 256) (X / 256 % 256) (X % 256) 0 1)]) ∧ W.grownBy w' none := by
  have X0 := hid (rdV_bd hu n root pc user).1
  have X1 := hid (rdV_bd hu n root pc user).2
  rw [hX] at X0 X1
  have Hz := zero_ins
  have Hz2 := zero_rstop
  obtain ⟨b2, b3, e2, e3⟩ : ∃ b2 b3, b2 = W.heap.size ∧ b3 = b2 + 1 := ⟨_, _, rfl, rfl⟩
  have NE : Hid (b2 ≠ b3) := hid (by omega)
  have HB2 : Hid (W.heap.size ≤ b2) := hid (by omega)
  have HB3 : Hid (W.heap.size ≤ b3) := hid (by omega)
  have HG : Hid (W.grownBy ((W.alloc (.cells (inC 0 0 0 0 0) 27)).alloc (.cells (spC 0 0 0 0 0 0 0 0) 47)) none) := hid (grown_alloc (grown_alloc (grown_refl _ _) _) _)
  have HM := hid (h.kept0 HG.out)
  have HR1 : Hid (RwAt ((W.alloc (.cells (inC 0 0 0 0 0) 27)).alloc (.cells (spC 0 0 0 0 0 0 0 0) 47)) b2 27 (inC 0 0 0 0 0)) := hid (by rw [e2]; exact (RwAt.new _ _ _).alloc _)
  have HR2 : Hid (RwAt ((W.alloc (.cells (inC 0 0 0 0 0) 27)).alloc (.cells (spC 0 0 0 0 0 0 0 0) 47)) b3 47 (spC 0 0 0 0 0 0 0 0)) := hid (by rw [e3, e2]; exact RwAt.new2 _ _ _ _)
  have Hu := hid hu
  have HN := hid hN
  have Hn2 := hid hn2
  have HL := hid (h.len.trans hN)
  clear h hu hN hn2
  obtain ⟨k, hk, hx⟩ := rd_word HL.out hb
  obtain ⟨V, hV⟩ : ∃ V, atV xs n root pc false user = V := ⟨_, rfl⟩
  rw [hX] at hx
  rw [hV] at hk
  have HK := hid hk
  have Hx := hid hx
  have HV := hid hV
  clear hk hx hV
  have HB := hid hb
  have HW := hid hw
  have HT := hid ht
  clear hb hX hw ht
  go_enter Tryd.func17, Tryd.ntmps17
  go_upto_region 1 with (fail)
  generalize ((W.alloc (.cells (inC 0 0 0 0 0) 27)).alloc (.cells (spC 0 0 0 0 0 0 0 0) 47)) = w3 at HG HM HR1 HR2 ⊢
  rw [← e2, ← e3]
  clear e2 e3
  go_wp2_with fail
  refine (rwalk_any HM.out HN.out Hn2.out Hu.out root pc p0 p1 false user V true HB.out HV.out).mono ?_; rintro e w4 ⟨rfl, hg⟩
  replace HM := hid (HM.out.kept0 hg)
  replace HR1 := hid (HR1.out.kept0 hg)
  replace HR2 := hid (HR2.out.kept0 hg)
  replace HG := hid (grown_trans HG.out hg)
  clear hg
  go_wp2_with fail
  refine (rread_at HM.out V k X HK.out Hx.out).mono ?_; rintro e w4b ⟨rfl, rfl⟩
  go_wp2_with fail
  refine (rof_one X _ X0.out X1.out HW.out).mono ?_; rintro e w5 ⟨rfl, hg⟩
  replace HM := hid (HM.out.kept0 hg)
  replace HR1 := hid (HR1.out.kept0 hg)
  replace HR2 := hid (HR2.out.kept0 hg)
  replace HG := hid (grown_trans HG.out hg)
  clear hg
  have hg : w5.grownBy ((w5.alloc (.cells (inC 0 0 0 0 0) 27)).setRow w5.heap.size (inC (X / 16777216) (X / 65536 % 256) (X / 256 % 256) (X % 256) 0)) none := grown_setRow (grown_alloc (grown_refl _ _) _) (Nat.le_refl _) _
  have HI := hid ((RwAt.new w5 27 (inC 0 0 0 0 0)).row (inC (X / 16777216) (X / 65536 % 256) (X / 256 % 256) (X % 256) 0))
  have NE4 : Hid (w5.heap.size ≠ b2) := hid (by have := HR1.out.lt; omega)
  have NE3 : Hid (w5.heap.size ≠ b3) := hid (by have := HR2.out.lt; omega)
  have HB4 : Hid (W.heap.size ≤ w5.heap.size) := hid HG.out.size
  replace HM := hid (HM.out.kept0 hg)
  replace HR1 := hid (HR1.out.kept0 hg)
  replace HR2 := hid (HR2.out.kept0 hg)
  replace HG := hid (grown_trans HG.out hg)
  clear hg
  go_upto_region 6 with (first
    | (refine wpList_store_rw rfl 27 _ _ rfl rfl rfl (RwAt.new _ _ _) (by kernel_rfl) rfl (in_one _ _ _ _ _) ?_)
    | fail)
  generalize ((w5.alloc (.cells (inC 0 0 0 0 0) 27)).setRow w5.heap.size (inC (X / 16777216) (X / 65536 % 256) (X / 256 % 256) (X % 256) 0)) = w6 at HI HM HR1 HR2 HG ⊢
  generalize w5.heap.size = b4 at HI NE3 NE4 HB4 ⊢
  have k0 : w6.cell? ⟨b4, 0, none⟩ = some (.int .i64 (X / 16777216)) := HI.out.cell 0 rfl
  go_wp2_with fail
  refine (rtwo_any _ _).mono ?_; rw [HT.out]; rintro e w7 ⟨rfl, rfl⟩
  clear k0
  go_upto_region 9 with (fail)
  have D1 := hid (RwAt.kept0 HI.out (grown_drew (grown_refl _ none)))
  have D2 := hid (RwAt.kept0 HR1.out (grown_drew (grown_refl _ none)))
  have D3 := hid (RwAt.kept0 HR2.out (grown_drew (grown_refl _ none)))
  refine wp_region_held_drew (S := fun w => RwAt w b4 27 (inC (X / 16777216) (X / 65536 % 256) (X / 256 % 256) (X % 256) 0)) (by kernel_rfl) D1.out (fun hS0 => ?_)
  refine anyH_take_row (i := 0) rfl rfl rfl (by kernel_rfl) (by kernel_rfl) (by kernel_rfl) (fun _ _ _ h => h) rfl rfl Tryd.underlying27 (by kernel_rfl) (fun w hw => ⟨_, _, hw.blk⟩) hS0 ?_
  refine anyH_take_row (i := 1) rfl rfl rfl (by kernel_rfl) (by kernel_rfl) (by kernel_rfl) (fun _ _ _ h => h) rfl rfl Tryd.underlying27 (by kernel_rfl) (fun w hw => ⟨_, _, hw.blk⟩) hS0 ?_
  refine wpAnyH_take (i := 2) (v := .agg (spC 0 0 (X / 16777216) (X / 65536 % 256) (X / 256 % 256) (X % 256) 0 1)) rfl (by kernel_rfl) (by kernel_rfl) (by kernel_rfl) (fun _ _ _ h => h) (Or.inl ⟨by kernel_rfl, fun w _ => by kernel_rfl⟩) hS0 ?_
  refine anyH_store_row (i := 3) (by kernel_rfl) rfl rfl rfl rfl rfl D2.out.blk (by kernel_rfl) rfl (in_one _ _ _ _ _) (D1.out.rowOther _ _ NE4.out) ?_
  refine anyH_store_row (i := 4) (by kernel_rfl) rfl rfl rfl rfl rfl (D3.out.rowOther _ _ NE.out.symm).blk (by kernel_rfl) rfl (sp_one _ _ _ _ _ _ _ _) ((D1.out.rowOther _ _ NE4.out).rowOther _ _ (by first | exact NE3.out | omega)) ?_
  refine wpAnyH_done (by kernel_rfl) ?_ _
  have E1 := hid ((D2.out.row (inC (X / 16777216) (X / 65536 % 256) (X / 256 % 256) (X % 256) 0)).rowOther b3 (spC 0 0 (X / 16777216) (X / 65536 % 256) (X / 256 % 256) (X % 256) 0 1) NE.out)
  have E2 := hid ((D3.out.rowOther b2 (inC (X / 16777216) (X / 65536 % 256) (X / 256 % 256) (X % 256) 0) NE.out.symm).row (spC 0 0 (X / 16777216) (X / 65536 % 256) (X / 256 % 256) (X % 256) 0 1))
  have EG := hid (grown_setRow (grown_setRow (grown_drew HG.out) HB2.out (inC (X / 16777216) (X / 65536 % 256) (X / 256 % 256) (X % 256) 0)) HB3.out (spC 0 0 (X / 16777216) (X / 65536 % 256) (X / 256 % 256) (X % 256) 0 1))
  go_wp2
  refine bodyPost_ret (results_cell2 Tryd.results17 _ _ rfl rfl E1.out.blk E2.out.blk rfl rfl Tryd.underlying27 Tryd.underlying47 (by kernel_rfl) (by kernel_rfl)) rfl ?_
  exact ⟨rfl, EG.out⟩
set_option maxRecDepth 100000 in
set_option maxHeartbeats 2000000 in
theorem rfetch_page2 (h : RefAt W m b N xs) (hN : N = n * 16) (hn2 : n ≤ 1024) (hu : U32s xs) (root pc : Int) (p0 : 0 ≤ pc) (p1 : pc < 4294967296) (user : Bool) (hb : atB xs n root pc false user = true) (X : Int) (hX : rdV xs n root pc user = X) (hw : okW X = true) (ht : twoB (X / 16777216) = true) (hb2 : atB xs n root (nextI pc) false user = false) :
    Calls Tryd.prog 17 #[.pointer (some ⟨m, 0, none⟩), .int .i64 root, .int .u32 pc, .bool user] W fun e w' => e = .returned (.tuple #[.agg (inC 0 0 0 0 0), .agg (spC 1 (nextI pc) 0 0 0 0 0 0)]) ∧ W.grownBy w' none := by
  have q0 : 0 ≤ nextI pc := by unfold nextI; omega
  have q1 : nextI pc < 4294967296 := by unfold nextI; omega
  have X0 := hid (rdV_bd hu n root pc user).1
  have X1 := hid (rdV_bd hu n root pc user).2
  rw [hX] at X0 X1
  have Hz := zero_ins
  have Hz2 := zero_rstop
  obtain ⟨b2, b3, e2, e3⟩ : ∃ b2 b3, b2 = W.heap.size ∧ b3 = b2 + 1 := ⟨_, _, rfl, rfl⟩
  have NE : Hid (b2 ≠ b3) := hid (by omega)
  have HB2 : Hid (W.heap.size ≤ b2) := hid (by omega)
  have HB3 : Hid (W.heap.size ≤ b3) := hid (by omega)
  have HG : Hid (W.grownBy ((W.alloc (.cells (inC 0 0 0 0 0) 27)).alloc (.cells (spC 0 0 0 0 0 0 0 0) 47)) none) := hid (grown_alloc (grown_alloc (grown_refl _ _) _) _)
  have HM := hid (h.kept0 HG.out)
  have HR1 : Hid (RwAt ((W.alloc (.cells (inC 0 0 0 0 0) 27)).alloc (.cells (spC 0 0 0 0 0 0 0 0) 47)) b2 27 (inC 0 0 0 0 0)) := hid (by rw [e2]; exact (RwAt.new _ _ _).alloc _)
  have HR2 : Hid (RwAt ((W.alloc (.cells (inC 0 0 0 0 0) 27)).alloc (.cells (spC 0 0 0 0 0 0 0 0) 47)) b3 47 (spC 0 0 0 0 0 0 0 0)) := hid (by rw [e3, e2]; exact RwAt.new2 _ _ _ _)
  have Hu := hid hu
  have HN := hid hN
  have Hn2 := hid hn2
  have HL := hid (h.len.trans hN)
  clear h hu hN hn2
  obtain ⟨k, hk, hx⟩ := rd_word HL.out hb
  obtain ⟨V, hV⟩ : ∃ V, atV xs n root pc false user = V := ⟨_, rfl⟩
  rw [hX] at hx
  rw [hV] at hk
  have HK := hid hk
  have Hx := hid hx
  have HV := hid hV
  clear hk hx hV
  have HB := hid hb
  have HW := hid hw
  have HT := hid ht
  have HB2' := hid hb2
  clear hb hX hw ht hb2
  go_enter Tryd.func17, Tryd.ntmps17
  go_upto_region 1 with (fail)
  generalize ((W.alloc (.cells (inC 0 0 0 0 0) 27)).alloc (.cells (spC 0 0 0 0 0 0 0 0) 47)) = w3 at HG HM HR1 HR2 ⊢
  rw [← e2, ← e3]
  clear e2 e3
  go_wp2_with fail
  refine (rwalk_any HM.out HN.out Hn2.out Hu.out root pc p0 p1 false user V true HB.out HV.out).mono ?_; rintro e w4 ⟨rfl, hg⟩
  replace HM := hid (HM.out.kept0 hg)
  replace HR1 := hid (HR1.out.kept0 hg)
  replace HR2 := hid (HR2.out.kept0 hg)
  replace HG := hid (grown_trans HG.out hg)
  clear hg
  go_wp2_with fail
  refine (rread_at HM.out V k X HK.out Hx.out).mono ?_; rintro e w4b ⟨rfl, rfl⟩
  go_wp2_with fail
  refine (rof_one X _ X0.out X1.out HW.out).mono ?_; rintro e w5 ⟨rfl, hg⟩
  replace HM := hid (HM.out.kept0 hg)
  replace HR1 := hid (HR1.out.kept0 hg)
  replace HR2 := hid (HR2.out.kept0 hg)
  replace HG := hid (grown_trans HG.out hg)
  clear hg
  have hg : w5.grownBy ((w5.alloc (.cells (inC 0 0 0 0 0) 27)).setRow w5.heap.size (inC (X / 16777216) (X / 65536 % 256) (X / 256 % 256) (X % 256) 0)) none := grown_setRow (grown_alloc (grown_refl _ _) _) (Nat.le_refl _) _
  have HI := hid ((RwAt.new w5 27 (inC 0 0 0 0 0)).row (inC (X / 16777216) (X / 65536 % 256) (X / 256 % 256) (X % 256) 0))
  have NE4 : Hid (w5.heap.size ≠ b2) := hid (by have := HR1.out.lt; omega)
  have NE3 : Hid (w5.heap.size ≠ b3) := hid (by have := HR2.out.lt; omega)
  have HB4 : Hid (W.heap.size ≤ w5.heap.size) := hid HG.out.size
  replace HM := hid (HM.out.kept0 hg)
  replace HR1 := hid (HR1.out.kept0 hg)
  replace HR2 := hid (HR2.out.kept0 hg)
  replace HG := hid (grown_trans HG.out hg)
  clear hg
  go_upto_region 6 with (first
    | (refine wpList_store_rw rfl 27 _ _ rfl rfl rfl (RwAt.new _ _ _) (by kernel_rfl) rfl (in_one _ _ _ _ _) ?_)
    | fail)
  generalize ((w5.alloc (.cells (inC 0 0 0 0 0) 27)).setRow w5.heap.size (inC (X / 16777216) (X / 65536 % 256) (X / 256 % 256) (X % 256) 0)) = w6 at HI HM HR1 HR2 HG ⊢
  generalize w5.heap.size = b4 at HI NE3 NE4 HB4 ⊢
  have k0 : w6.cell? ⟨b4, 0, none⟩ = some (.int .i64 (X / 16777216)) := HI.out.cell 0 rfl
  go_wp2_with fail
  refine (rtwo_any _ _).mono ?_; rw [HT.out]; rintro e w7 ⟨rfl, rfl⟩
  clear k0
  go_wp2_with fail
  refine (rwalk_any HM.out HN.out Hn2.out Hu.out root (nextI pc) q0 q1 false user _ false HB2'.out rfl).mono ?_; rintro e w8 ⟨rfl, hg⟩
  replace HM := hid (HM.out.kept0 hg)
  replace HR1 := hid (HR1.out.kept0 hg)
  replace HR2 := hid (HR2.out.kept0 hg)
  replace HG := hid (grown_trans HG.out hg)
  clear hg
  have E1 := hid ((HR1.out.row (inC 0 0 0 0 0)).rowOther b3 (spC 1 (nextI pc) 0 0 0 0 0 0) NE.out)
  have E2 := hid ((HR2.out.rowOther b2 (inC 0 0 0 0 0) NE.out.symm).row (spC 1 (nextI pc) 0 0 0 0 0 0))
  have EG := hid (grown_setRow (grown_setRow HG.out HB2.out (inC 0 0 0 0 0)) HB3.out (spC 1 (nextI pc) 0 0 0 0 0 0))
  go_wp2_with (first
    | (refine wpList_build_ins rfl rfl ?_)
    | (refine wpList_build_s1 builds_rstop rfl _ _ rfl rfl ?_)
    | (refine wpList_build_s0 builds_rstop rfl _ rfl ?_)
    | (refine wpList_store_rw rfl 27 _ _ rfl rfl rfl HR1.out (by kernel_rfl) rfl (in_one _ _ _ _ _) ?_)
    | (refine wpList_store_rw rfl 47 _ _ rfl rfl rfl (HR2.out.rowOther _ _ NE.out.symm) (by kernel_rfl) rfl (sp_one _ _ _ _ _ _ _ _) ?_)
    | fail)
  refine bodyPost_ret (results_cell2 Tryd.results17 _ _ rfl rfl E1.out.blk E2.out.blk rfl rfl Tryd.underlying27 Tryd.underlying47 (by kernel_rfl) (by kernel_rfl)) rfl ?_
  exact ⟨rfl, EG.out⟩
set_option maxRecDepth 100000 in
set_option maxHeartbeats 2000000 in
theorem rfetch_two (h : RefAt W m b N xs) (hN : N = n * 16) (hn2 : n ≤ 1024) (hu : U32s xs) (root pc : Int) (p0 : 0 ≤ pc) (p1 : pc < 4294967296) (user : Bool) (hb : atB xs n root pc false user = true) (X : Int) (hX : rdV xs n root pc user = X) (hw : okW X = true) (ht : twoB (X / 16777216) = true) (hb2 : atB xs n root (nextI pc) false user = true) (Y : Int) (hY : rdV xs n root (nextI pc) user = Y) :
    Calls Tryd.prog 17 #[.pointer (some ⟨m, 0, none⟩), .int .i64 root, .int .u32 pc, .bool user] W fun e w' => e = .returned (.tuple #[.agg (inC (X / 16777216) (X / 65536 % 256) (X / 256 % 256) (X % 256) Y), .agg (spC 0 0 (X / 16777216) (X / 65536 % 256) (X / 256 % 256) (X % 256) Y 2)]) ∧ W.grownBy w' none := by
  have q0 : 0 ≤ nextI pc := by unfold nextI; omega
  have q1 : nextI pc < 4294967296 := by unfold nextI; omega
  have X0 := hid (rdV_bd hu n root pc user).1
  have X1 := hid (rdV_bd hu n root pc user).2
  rw [hX] at X0 X1
  have Hz := zero_ins
  have Hz2 := zero_rstop
  obtain ⟨b2, b3, e2, e3⟩ : ∃ b2 b3, b2 = W.heap.size ∧ b3 = b2 + 1 := ⟨_, _, rfl, rfl⟩
  have NE : Hid (b2 ≠ b3) := hid (by omega)
  have HB2 : Hid (W.heap.size ≤ b2) := hid (by omega)
  have HB3 : Hid (W.heap.size ≤ b3) := hid (by omega)
  have HG : Hid (W.grownBy ((W.alloc (.cells (inC 0 0 0 0 0) 27)).alloc (.cells (spC 0 0 0 0 0 0 0 0) 47)) none) := hid (grown_alloc (grown_alloc (grown_refl _ _) _) _)
  have HM := hid (h.kept0 HG.out)
  have HR1 : Hid (RwAt ((W.alloc (.cells (inC 0 0 0 0 0) 27)).alloc (.cells (spC 0 0 0 0 0 0 0 0) 47)) b2 27 (inC 0 0 0 0 0)) := hid (by rw [e2]; exact (RwAt.new _ _ _).alloc _)
  have HR2 : Hid (RwAt ((W.alloc (.cells (inC 0 0 0 0 0) 27)).alloc (.cells (spC 0 0 0 0 0 0 0 0) 47)) b3 47 (spC 0 0 0 0 0 0 0 0)) := hid (by rw [e3, e2]; exact RwAt.new2 _ _ _ _)
  have Hu := hid hu
  have HN := hid hN
  have Hn2 := hid hn2
  have HL := hid (h.len.trans hN)
  clear h hu hN hn2
  obtain ⟨k, hk, hx⟩ := rd_word HL.out hb
  obtain ⟨V, hV⟩ : ∃ V, atV xs n root pc false user = V := ⟨_, rfl⟩
  rw [hX] at hx
  rw [hV] at hk
  have HK := hid hk
  have Hx := hid hx
  have HV := hid hV
  clear hk hx hV
  obtain ⟨k2, hk2, hx2⟩ := rd_word HL.out hb2
  obtain ⟨V2, hV2⟩ : ∃ V, atV xs n root (nextI pc) false user = V := ⟨_, rfl⟩
  rw [hY] at hx2
  rw [hV2] at hk2
  have HK2 := hid hk2
  have Hx2 := hid hx2
  have HV2 := hid hV2
  clear hk2 hx2 hV2
  have HB := hid hb
  have HW := hid hw
  have HT := hid ht
  have HB2' := hid hb2
  clear hb hX hw ht hb2 hY
  go_enter Tryd.func17, Tryd.ntmps17
  go_upto_region 1 with (fail)
  generalize ((W.alloc (.cells (inC 0 0 0 0 0) 27)).alloc (.cells (spC 0 0 0 0 0 0 0 0) 47)) = w3 at HG HM HR1 HR2 ⊢
  rw [← e2, ← e3]
  clear e2 e3
  go_wp2_with fail
  refine (rwalk_any HM.out HN.out Hn2.out Hu.out root pc p0 p1 false user V true HB.out HV.out).mono ?_; rintro e w4 ⟨rfl, hg⟩
  replace HM := hid (HM.out.kept0 hg)
  replace HR1 := hid (HR1.out.kept0 hg)
  replace HR2 := hid (HR2.out.kept0 hg)
  replace HG := hid (grown_trans HG.out hg)
  clear hg
  go_wp2_with fail
  refine (rread_at HM.out V k X HK.out Hx.out).mono ?_; rintro e w4b ⟨rfl, rfl⟩
  go_wp2_with fail
  refine (rof_one X _ X0.out X1.out HW.out).mono ?_; rintro e w5 ⟨rfl, hg⟩
  replace HM := hid (HM.out.kept0 hg)
  replace HR1 := hid (HR1.out.kept0 hg)
  replace HR2 := hid (HR2.out.kept0 hg)
  replace HG := hid (grown_trans HG.out hg)
  clear hg
  have hg : w5.grownBy ((w5.alloc (.cells (inC 0 0 0 0 0) 27)).setRow w5.heap.size (inC (X / 16777216) (X / 65536 % 256) (X / 256 % 256) (X % 256) 0)) none := grown_setRow (grown_alloc (grown_refl _ _) _) (Nat.le_refl _) _
  have HI := hid ((RwAt.new w5 27 (inC 0 0 0 0 0)).row (inC (X / 16777216) (X / 65536 % 256) (X / 256 % 256) (X % 256) 0))
  have NE4 : Hid (w5.heap.size ≠ b2) := hid (by have := HR1.out.lt; omega)
  have NE3 : Hid (w5.heap.size ≠ b3) := hid (by have := HR2.out.lt; omega)
  have HB4 : Hid (W.heap.size ≤ w5.heap.size) := hid HG.out.size
  replace HM := hid (HM.out.kept0 hg)
  replace HR1 := hid (HR1.out.kept0 hg)
  replace HR2 := hid (HR2.out.kept0 hg)
  replace HG := hid (grown_trans HG.out hg)
  clear hg
  go_upto_region 6 with (first
    | (refine wpList_store_rw rfl 27 _ _ rfl rfl rfl (RwAt.new _ _ _) (by kernel_rfl) rfl (in_one _ _ _ _ _) ?_)
    | fail)
  generalize ((w5.alloc (.cells (inC 0 0 0 0 0) 27)).setRow w5.heap.size (inC (X / 16777216) (X / 65536 % 256) (X / 256 % 256) (X % 256) 0)) = w6 at HI HM HR1 HR2 HG ⊢
  generalize w5.heap.size = b4 at HI NE3 NE4 HB4 ⊢
  have k0 : w6.cell? ⟨b4, 0, none⟩ = some (.int .i64 (X / 16777216)) := HI.out.cell 0 rfl
  go_wp2_with fail
  refine (rtwo_any _ _).mono ?_; rw [HT.out]; rintro e w7 ⟨rfl, rfl⟩
  clear k0
  go_wp2_with fail
  refine (rwalk_any HM.out HN.out Hn2.out Hu.out root (nextI pc) q0 q1 false user V2 true HB2'.out HV2.out).mono ?_; rintro e w8 ⟨rfl, hg⟩
  replace HM := hid (HM.out.kept0 hg)
  replace HI := hid (HI.out.kept0 hg)
  replace HR1 := hid (HR1.out.kept0 hg)
  replace HR2 := hid (HR2.out.kept0 hg)
  replace HG := hid (grown_trans HG.out hg)
  clear hg
  go_wp2_with fail
  refine (rread_at HM.out V2 k2 Y HK2.out Hx2.out).mono ?_; rintro e w8b ⟨rfl, rfl⟩
  have k4 : w8.cell? ⟨b4, 4, none⟩ = some (.int .u32 0) := HI.out.cell 4 rfl
  have kf := fun j => HI.out.free j
  have HI2 : Hid (RwAt (w8.setCell ⟨b4, 4, none⟩ (.int .u32 Y)) b4 27 (inC (X / 16777216) (X / 65536 % 256) (X / 256 % 256) (X % 256) Y)) := hid (HI.out.set 4 _)
  replace HR1 := hid (HR1.out.other b4 4 (.int .u32 Y) NE4.out.symm)
  replace HR2 := hid (HR2.out.other b4 4 (.int .u32 Y) NE3.out.symm)
  replace HG := hid (grown_setN HG.out HB4.out 4 (.int .u32 Y))
  go_upto_region 15 with (fail)
  clear HI k4 kf
  generalize (w8.setCell ⟨b4, 4, none⟩ (.int .u32 Y)) = w10 at HI2 HR1 HR2 HG ⊢
  go_upto_region 15 with (fail)
  have D1 := hid (RwAt.kept0 HI2.out (grown_drew (grown_refl _ none)))
  have D2 := hid (RwAt.kept0 HR1.out (grown_drew (grown_refl _ none)))
  have D3 := hid (RwAt.kept0 HR2.out (grown_drew (grown_refl _ none)))
  refine wp_region_held_drew (S := fun w => RwAt w b4 27 (inC (X / 16777216) (X / 65536 % 256) (X / 256 % 256) (X % 256) Y)) (by kernel_rfl) D1.out (fun hS0 => ?_)
  refine anyH_take_row (i := 0) rfl rfl rfl (by kernel_rfl) (by kernel_rfl) (by kernel_rfl) (fun _ _ _ h => h) rfl rfl Tryd.underlying27 (by kernel_rfl) (fun w hw => ⟨_, _, hw.blk⟩) hS0 ?_
  refine anyH_take_row (i := 1) rfl rfl rfl (by kernel_rfl) (by kernel_rfl) (by kernel_rfl) (fun _ _ _ h => h) rfl rfl Tryd.underlying27 (by kernel_rfl) (fun w hw => ⟨_, _, hw.blk⟩) hS0 ?_
  refine wpAnyH_take (i := 2) (v := .agg (spC 0 0 (X / 16777216) (X / 65536 % 256) (X / 256 % 256) (X % 256) Y 2)) rfl (by kernel_rfl) (by kernel_rfl) (by kernel_rfl) (fun _ _ _ h => h) (Or.inl ⟨by kernel_rfl, fun w _ => by kernel_rfl⟩) hS0 ?_
  refine anyH_store_row (i := 3) (by kernel_rfl) rfl rfl rfl rfl rfl D2.out.blk (by kernel_rfl) rfl (in_one _ _ _ _ _) (D1.out.rowOther _ _ NE4.out) ?_
  refine anyH_store_row (i := 4) (by kernel_rfl) rfl rfl rfl rfl rfl (D3.out.rowOther _ _ NE.out.symm).blk (by kernel_rfl) rfl (sp_one _ _ _ _ _ _ _ _) ((D1.out.rowOther _ _ NE4.out).rowOther _ _ (by first | exact NE3.out | omega)) ?_
  refine wpAnyH_done (by kernel_rfl) ?_ _
  have E1 := hid ((D2.out.row (inC (X / 16777216) (X / 65536 % 256) (X / 256 % 256) (X % 256) Y)).rowOther b3 (spC 0 0 (X / 16777216) (X / 65536 % 256) (X / 256 % 256) (X % 256) Y 2) NE.out)
  have E2 := hid ((D3.out.rowOther b2 (inC (X / 16777216) (X / 65536 % 256) (X / 256 % 256) (X % 256) Y) NE.out.symm).row (spC 0 0 (X / 16777216) (X / 65536 % 256) (X / 256 % 256) (X % 256) Y 2))
  have EG := hid (grown_setRow (grown_setRow (grown_drew HG.out) HB2.out (inC (X / 16777216) (X / 65536 % 256) (X / 256 % 256) (X % 256) Y)) HB3.out (spC 0 0 (X / 16777216) (X / 65536 % 256) (X / 256 % 256) (X % 256) Y 2))
  go_wp2
  refine bodyPost_ret (results_cell2 Tryd.results17 _ _ rfl rfl E1.out.blk E2.out.blk rfl rfl Tryd.underlying27 Tryd.underlying47 (by kernel_rfl) (by kernel_rfl)) rfl ?_
  exact ⟨rfl, EG.out⟩
theorem rfetch_of (h : RefAt W m b N xs) (hN : N = n * 16) (hn2 : n ≤ 1024) (hu : U32s xs) (root pc : Int) (p0 : 0 ≤ pc) (p1 : pc < 4294967296) (user : Bool) (ca ad op ia ib ic im ln : Int) (hs : fetchP xs n root pc user = ⟨ca, ad, op, ia, ib, ic, im, ln⟩) :
    Calls Tryd.prog 17 #[.pointer (some ⟨m, 0, none⟩), .int .i64 root, .int .u32 pc, .bool user] W fun e w' => e = .returned (.tuple #[.agg (inC op ia ib ic im), .agg (spC ca ad op ia ib ic im ln)]) ∧ W.grownBy w' none := by
  unfold fetchP at hs
  cases h1 : atB xs n root pc false user
  · rw [if_neg (by simp [h1])] at hs
    unfold noneS at hs
    injection hs with e1 e2 e3 e4 e5 e6 e7 e8
    subst e1 e2 e3 e4 e5 e6 e7 e8
    exact rfetch_page h hN hn2 hu root pc p0 p1 user h1
  · rw [if_pos h1] at hs
    cases h2 : okW (rdV xs n root pc user)
    · rw [if_neg (by simp [h2])] at hs
      unfold noneS at hs
      injection hs with e1 e2 e3 e4 e5 e6 e7 e8
      subst e1 e2 e3 e4 e5 e6 e7 e8
      exact rfetch_bad h hN hn2 hu root pc p0 p1 user h1 _ rfl h2
    · rw [if_pos h2] at hs
      cases h3 : twoB (rdV xs n root pc user / 16777216)
      · rw [if_neg (by simp [h3])] at hs
        unfold insS at hs
        injection hs with e1 e2 e3 e4 e5 e6 e7 e8
        subst e1 e2 e3 e4 e5 e6 e7 e8
        exact rfetch_one h hN hn2 hu root pc p0 p1 user h1 _ rfl h2 h3
      · rw [if_pos h3] at hs
        cases h4 : atB xs n root (nextI pc) false user
        · rw [if_neg (by simp [h4])] at hs
          unfold noneS at hs
          injection hs with e1 e2 e3 e4 e5 e6 e7 e8
          subst e1 e2 e3 e4 e5 e6 e7 e8
          exact rfetch_page2 h hN hn2 hu root pc p0 p1 user h1 _ rfl h2 h3 h4
        · rw [if_pos h4] at hs
          unfold insS at hs
          injection hs with e1 e2 e3 e4 e5 e6 e7 e8
          subst e1 e2 e3 e4 e5 e6 e7 e8
          exact rfetch_two h hN hn2 hu root pc p0 p1 user h1 _ rfl h2 h3 h4 _ rfl
end
end Go.Proofs.YtaecbekobpgkoaaDoor
