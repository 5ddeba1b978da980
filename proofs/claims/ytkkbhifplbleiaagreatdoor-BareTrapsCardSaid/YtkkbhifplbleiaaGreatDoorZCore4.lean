/- core's fetch and Fetch: contracts. (Made by a program.) -/
import Derived.Test.YtkkbhifplbleiaaGreatDoorZCore3
import Derived.Test.YtkkbhifplbleiaaGreatDoorZIsa2
import Derived.Deep.RegionWith
namespace Go.Proofs.YtkkbhifplbleiaaGreatDoor
open Go.RowKit
/-- stops that are written out -/
structure Builds (t : TypeId) : Prop where
  s1 : ∀ (k ad : Int) (w : World), (Instr.build t #[(0, .int .i64 k), (1, .int .u32 ad)]).run Tryz.prog w = .ok (.agg (spC k ad 0 0 0 0 0 0)) w
  s0 : ∀ (k : Int) (w : World), (Instr.build t #[(0, .int .i64 k)]).run Tryz.prog w = .ok (.agg (spC k 0 0 0 0 0 0 0)) w
theorem builds_stop : Builds 138 := ⟨fun _ _ _ => by kernel_rfl, fun _ _ => by kernel_rfl⟩
theorem builds_rstop : Builds 114 := ⟨fun _ _ _ => by kernel_rfl, fun _ _ => by kernel_rfl⟩
theorem build_ins (w : World) : (Instr.build 112 #[]).run Tryz.prog w = .ok (.agg (inC 0 0 0 0 0)) w := by kernel_rfl
section
variable {ops : Array Oper} {rest : List Oper} {o : Oper} {A : Act} {w : World} {Q : Exit → Act → World → Prop}
theorem wpList_build_ins (hgd : o.guard = none) (ho : o.op = .build 112 #[]) (h : wpList Tryz.prog ops Q rest (A.put o.dst (.agg (inC 0 0 0 0 0))) w) : wpList Tryz.prog ops Q (o :: rest) A w := by
  refine wpList_plain hgd fun K hK => ?_
  unfold Oper.wp
  simp [execOp, ho, build_ins w, Result.andThen]
  exact hK _ _ h
theorem wpList_build_s1 {t : TypeId} (hb : Builds t) (hgd : o.guard = none) (k : Int) (x : Operand) (ho : o.op = .build t #[(0, .const (.int .i64 k)), (1, x)]) {ad : Int} (hx : A.eval x = .int .u32 ad) (h : wpList Tryz.prog ops Q rest (A.put o.dst (.agg (spC k ad 0 0 0 0 0 0))) w) : wpList Tryz.prog ops Q (o :: rest) A w := by
  refine wpList_plain hgd fun K hK => ?_
  unfold Oper.wp
  have e : A.eval (.const (.int .i64 k)) = .int .i64 k := rfl
  simp [execOp, ho, hx, e, hb.s1 k ad w, Result.andThen]
  exact hK _ _ h
theorem wpList_build_s0 {t : TypeId} (hb : Builds t) (hgd : o.guard = none) (k : Int) (ho : o.op = .build t #[(0, .const (.int .i64 k))]) (h : wpList Tryz.prog ops Q rest (A.put o.dst (.agg (spC k 0 0 0 0 0 0 0))) w) : wpList Tryz.prog ops Q (o :: rest) A w := by
  refine wpList_plain hgd fun K hK => ?_
  unfold Oper.wp
  have e : A.eval (.const (.int .i64 k)) = .int .i64 k := rfl
  simp [execOp, ho, e, hb.s0 k w, Result.andThen]
  exact hK _ _ h
end
theorem wantImm_zero (op : Int) : wantImm op 0 = 0 := by unfold wantImm; split <;> rfl
theorem of_bad (x imm : Int) (w : World) (x0 : 0 ≤ x) (x1 : x < 4294967296) (hi : imm = 0) (h : okW x = false) :
    Calls Tryz.prog 122 #[.int .u32 x, .int .u32 imm] w fun e w' => e = .returned (.tuple #[.agg (inC 0 0 0 0 0), .bool false]) ∧ w.grownBy w' none := by
  subst hi
  exact (of_no x 0 w x0 x1 (by rw [wantImm_zero]; exact h)).mono fun e w' ⟨he, hb⟩ => ⟨he, below_is_grown hb⟩
theorem of_one1 (x : Int) (w : World) (x0 : 0 ≤ x) (x1 : x < 4294967296) (h : okW x = true) :
    Calls Tryz.prog 122 #[.int .u32 x, .int .u32 0] w fun e w' => e = .returned (.tuple #[.agg (inC (x / 16777216) (x / 65536 % 256) (x / 256 % 256) (x % 256) 0), .bool true]) ∧ w.grownBy w' none := by
  have := of_yes x 0 w x0 x1 (by rw [wantImm_zero]; exact h)
  rw [wantImm_zero] at this
  exact this.mono fun e w' ⟨he, hb⟩ => ⟨he, below_is_grown hb⟩
theorem of_two2 (x im : Int) (w : World) (x0 : 0 ≤ x) (x1 : x < 4294967296) (h : okW x = true) (ht : twoB (x / 16777216) = true) :
    Calls Tryz.prog 122 #[.int .u32 x, .int .u32 im] w fun e w' => e = .returned (.tuple #[.agg (inC (x / 16777216) (x / 65536 % 256) (x / 256 % 256) (x % 256) im), .bool true]) ∧ w.grownBy w' none := by
  have := of_yes x im w x0 x1 (by rw [wantImm_yes ht]; exact ins_imm h ht im)
  rw [wantImm_yes ht] at this
  exact this.mono fun e w' ⟨he, hb⟩ => ⟨he, below_is_grown hb⟩
section
variable {m b n c : Nat} {xs : List Int} {W : World}
set_option maxRecDepth 100000 in
set_option maxHeartbeats 2000000 in
theorem fetch_page (h : MemAt W m b n c xs) (hu : U32s xs) (root pc : Int) (p0 : 0 ≤ pc) (p1 : pc < 4294967296) (user : Bool) (hb : atB xs n root pc false user = false) :
    Calls Tryz.prog 103 #[.agg #[.pointer (some ⟨m, 0, none⟩), .int .i64 root, .bool user], .int .u32 pc] W fun e w' => e = .returned (.tuple #[.agg (inC 0 0 0 0 0), .agg (spC 1 pc 0 0 0 0 0 0)]) ∧ W.grownBy w' none := by
  have Hz := zero_ins
  have Hz2 := zero_stop
  obtain ⟨b1, b2, b3, e1, e2, e3⟩ : ∃ b1 b2 b3, b1 = W.heap.size ∧ b2 = W.heap.size + 1 ∧ b3 = b2 + 1 := ⟨_, _, _, rfl, rfl, rfl⟩
  have NE : Hid (b2 ≠ b3) := hid (by omega)
  have NE1 : Hid (b1 ≠ b2) := hid (by omega)
  have NE2 : Hid (b1 ≠ b3) := hid (by omega)
  have HB2 : Hid (W.heap.size ≤ b2) := hid (by omega)
  have HB3 : Hid (W.heap.size ≤ b3) := hid (by omega)
  have HG : Hid (W.grownBy (((W.alloc (.cells #[.pointer (some ⟨m, 0, none⟩), .int .i64 root, .bool user] 168)).alloc (.cells (inC 0 0 0 0 0) 112)).alloc (.cells (spC 0 0 0 0 0 0 0 0) 138)) none) := hid (grown_alloc (grown_alloc (grown_alloc (grown_refl _ _) _) _) _)
  have HM := hid (h.kept0 HG.out)
  have HV : Hid (RwAt (((W.alloc (.cells #[.pointer (some ⟨m, 0, none⟩), .int .i64 root, .bool user] 168)).alloc (.cells (inC 0 0 0 0 0) 112)).alloc (.cells (spC 0 0 0 0 0 0 0 0) 138)) b1 168 #[.pointer (some ⟨m, 0, none⟩), .int .i64 root, .bool user]) := hid (by rw [e1]; exact ((RwAt.new _ _ _).alloc _).alloc _)
  have HR1 : Hid (RwAt (((W.alloc (.cells #[.pointer (some ⟨m, 0, none⟩), .int .i64 root, .bool user] 168)).alloc (.cells (inC 0 0 0 0 0) 112)).alloc (.cells (spC 0 0 0 0 0 0 0 0) 138)) b2 112 (inC 0 0 0 0 0)) := hid (by rw [e2]; exact (RwAt.new2 _ _ _ _).alloc _)
  have HR2 : Hid (RwAt (((W.alloc (.cells #[.pointer (some ⟨m, 0, none⟩), .int .i64 root, .bool user] 168)).alloc (.cells (inC 0 0 0 0 0) 112)).alloc (.cells (spC 0 0 0 0 0 0 0 0) 138)) b3 138 (spC 0 0 0 0 0 0 0 0)) := hid (by
    rw [e3, e2]
    have := RwAt.new2 (W.alloc (.cells #[.pointer (some ⟨m, 0, none⟩), .int .i64 root, .bool user] 168)) (.cells (inC 0 0 0 0 0) 112) 138 (spC 0 0 0 0 0 0 0 0)
    simp only [World.size_alloc] at this
    exact this)
  have Hu := hid hu
  clear h hu
  have HB := hid hb
  clear hb
  go_enter Tryz.func103, Tryz.ntmps103
  go_upto_region 1 with (fail)
  generalize (((W.alloc (.cells #[.pointer (some ⟨m, 0, none⟩), .int .i64 root, .bool user] 168)).alloc (.cells (inC 0 0 0 0 0) 112)).alloc (.cells (spC 0 0 0 0 0 0 0 0) 138)) = w3 at HG HM HV HR1 HR2 ⊢
  rw [← e2, ← e3, ← e1]
  clear e1 e2 e3
  go_wp2_with (first
    | (refine wpList_load_rw rfl 168 _ rfl rfl HV.out rfl Tryz.underlying168 (by kernel_rfl) ?_)
    | fail)
  refine (vread_of HM.out Hu.out root pc p0 p1 user _ false HB.out rfl).mono ?_; rintro e w4 ⟨rfl, hg⟩
  replace HM := hid (HM.out.kept0 hg)
  replace HV := hid (HV.out.kept0 hg)
  replace HR1 := hid (HR1.out.kept0 hg)
  replace HR2 := hid (HR2.out.kept0 hg)
  replace HG := hid (grown_trans HG.out hg)
  clear hg
  have E1 := hid ((HR1.out.row (inC 0 0 0 0 0)).rowOther b3 (spC 1 pc 0 0 0 0 0 0) NE.out)
  have E2 := hid ((HR2.out.rowOther b2 (inC 0 0 0 0 0) NE.out.symm).row (spC 1 pc 0 0 0 0 0 0))
  have EG := hid (grown_setRow (grown_setRow HG.out HB2.out (inC 0 0 0 0 0)) HB3.out (spC 1 pc 0 0 0 0 0 0))
  go_wp2_with (first
    | (refine wpList_build_ins rfl rfl ?_)
    | (refine wpList_build_s1 builds_stop rfl _ _ rfl rfl ?_)
    | (refine wpList_build_s0 builds_stop rfl _ rfl ?_)
    | (refine wpList_store_rw rfl 112 _ _ rfl rfl rfl HR1.out (by kernel_rfl) rfl (in_one _ _ _ _ _) ?_)
    | (refine wpList_store_rw rfl 138 _ _ rfl rfl rfl (HR2.out.rowOther _ _ NE.out.symm) (by kernel_rfl) rfl (sp_one _ _ _ _ _ _ _ _) ?_)
    | fail)
  refine bodyPost_ret (results_cell2 Tryz.results103 _ _ rfl rfl E1.out.blk E2.out.blk rfl rfl Tryz.underlying112 Tryz.underlying138 (by kernel_rfl) (by kernel_rfl)) rfl ?_
  exact ⟨rfl, EG.out⟩
set_option maxRecDepth 100000 in
set_option maxHeartbeats 2000000 in
theorem fetch_bad (h : MemAt W m b n c xs) (hu : U32s xs) (root pc : Int) (p0 : 0 ≤ pc) (p1 : pc < 4294967296) (user : Bool) (hb : atB xs n root pc false user = true) (X : Int) (hX : rdV xs n root pc user = X) (hw : okW X = false) :
    Calls Tryz.prog 103 #[.agg #[.pointer (some ⟨m, 0, none⟩), .int .i64 root, .bool user], .int .u32 pc] W fun e w' => e = .returned (.tuple #[.agg (inC 0 0 0 0 0), .agg (spC 4 0 0 0 0 0 0 0)]) ∧ W.grownBy w' none := by
  have Hz := zero_ins
  have Hz2 := zero_stop
  obtain ⟨b1, b2, b3, e1, e2, e3⟩ : ∃ b1 b2 b3, b1 = W.heap.size ∧ b2 = W.heap.size + 1 ∧ b3 = b2 + 1 := ⟨_, _, _, rfl, rfl, rfl⟩
  have NE : Hid (b2 ≠ b3) := hid (by omega)
  have NE1 : Hid (b1 ≠ b2) := hid (by omega)
  have NE2 : Hid (b1 ≠ b3) := hid (by omega)
  have HB2 : Hid (W.heap.size ≤ b2) := hid (by omega)
  have HB3 : Hid (W.heap.size ≤ b3) := hid (by omega)
  have HG : Hid (W.grownBy (((W.alloc (.cells #[.pointer (some ⟨m, 0, none⟩), .int .i64 root, .bool user] 168)).alloc (.cells (inC 0 0 0 0 0) 112)).alloc (.cells (spC 0 0 0 0 0 0 0 0) 138)) none) := hid (grown_alloc (grown_alloc (grown_alloc (grown_refl _ _) _) _) _)
  have HM := hid (h.kept0 HG.out)
  have HV : Hid (RwAt (((W.alloc (.cells #[.pointer (some ⟨m, 0, none⟩), .int .i64 root, .bool user] 168)).alloc (.cells (inC 0 0 0 0 0) 112)).alloc (.cells (spC 0 0 0 0 0 0 0 0) 138)) b1 168 #[.pointer (some ⟨m, 0, none⟩), .int .i64 root, .bool user]) := hid (by rw [e1]; exact ((RwAt.new _ _ _).alloc _).alloc _)
  have HR1 : Hid (RwAt (((W.alloc (.cells #[.pointer (some ⟨m, 0, none⟩), .int .i64 root, .bool user] 168)).alloc (.cells (inC 0 0 0 0 0) 112)).alloc (.cells (spC 0 0 0 0 0 0 0 0) 138)) b2 112 (inC 0 0 0 0 0)) := hid (by rw [e2]; exact (RwAt.new2 _ _ _ _).alloc _)
  have HR2 : Hid (RwAt (((W.alloc (.cells #[.pointer (some ⟨m, 0, none⟩), .int .i64 root, .bool user] 168)).alloc (.cells (inC 0 0 0 0 0) 112)).alloc (.cells (spC 0 0 0 0 0 0 0 0) 138)) b3 138 (spC 0 0 0 0 0 0 0 0)) := hid (by
    rw [e3, e2]
    have := RwAt.new2 (W.alloc (.cells #[.pointer (some ⟨m, 0, none⟩), .int .i64 root, .bool user] 168)) (.cells (inC 0 0 0 0 0) 112) 138 (spC 0 0 0 0 0 0 0 0)
    simp only [World.size_alloc] at this
    exact this)
  have Hu := hid hu
  have X0 := hid (rdV_bd hu n root pc user).1
  have X1 := hid (rdV_bd hu n root pc user).2
  rw [hX] at X0 X1
  clear h hu
  have HB := hid hb
  have HX := hid hX
  have HW := hid hw
  clear hb hX hw
  go_enter Tryz.func103, Tryz.ntmps103
  go_upto_region 1 with (fail)
  generalize (((W.alloc (.cells #[.pointer (some ⟨m, 0, none⟩), .int .i64 root, .bool user] 168)).alloc (.cells (inC 0 0 0 0 0) 112)).alloc (.cells (spC 0 0 0 0 0 0 0 0) 138)) = w3 at HG HM HV HR1 HR2 ⊢
  rw [← e2, ← e3, ← e1]
  clear e1 e2 e3
  go_wp2_with (first
    | (refine wpList_load_rw rfl 168 _ rfl rfl HV.out rfl Tryz.underlying168 (by kernel_rfl) ?_)
    | fail)
  refine (vread_of HM.out Hu.out root pc p0 p1 user X true HB.out HX.out).mono ?_; rintro e w4 ⟨rfl, hg⟩
  replace HM := hid (HM.out.kept0 hg)
  replace HV := hid (HV.out.kept0 hg)
  replace HR1 := hid (HR1.out.kept0 hg)
  replace HR2 := hid (HR2.out.kept0 hg)
  replace HG := hid (grown_trans HG.out hg)
  clear hg
  go_wp2_with fail
  refine (of_bad X _ _ X0.out X1.out rfl HW.out).mono ?_; rintro e w5 ⟨rfl, hg⟩
  replace HM := hid (HM.out.kept0 hg)
  replace HV := hid (HV.out.kept0 hg)
  replace HR1 := hid (HR1.out.kept0 hg)
  replace HR2 := hid (HR2.out.kept0 hg)
  replace HG := hid (grown_trans HG.out hg)
  clear hg
  have hg : w5.grownBy ((w5.alloc (.cells (inC 0 0 0 0 0) 112)).setRow w5.heap.size (inC 0 0 0 0 0)) none := grown_setRow (grown_alloc (grown_refl _ _) _) (Nat.le_refl _) _
  have HI := hid ((RwAt.new w5 112 (inC 0 0 0 0 0)).row (inC 0 0 0 0 0))
  have NE4 : Hid (w5.heap.size ≠ b2) := hid (by have := HR1.out.lt; omega)
  have NE3 : Hid (w5.heap.size ≠ b3) := hid (by have := HR2.out.lt; omega)
  have HB4 : Hid (W.heap.size ≤ w5.heap.size) := hid HG.out.size
  replace HM := hid (HM.out.kept0 hg)
  replace HV := hid (HV.out.kept0 hg)
  replace HR1 := hid (HR1.out.kept0 hg)
  replace HR2 := hid (HR2.out.kept0 hg)
  replace HG := hid (grown_trans HG.out hg)
  clear hg
  go_upto_region 5 with (first
    | (refine wpList_store_rw rfl 112 _ _ rfl rfl rfl (RwAt.new _ _ _) (by kernel_rfl) rfl (in_one _ _ _ _ _) ?_)
    | fail)
  generalize ((w5.alloc (.cells (inC 0 0 0 0 0) 112)).setRow w5.heap.size (inC 0 0 0 0 0)) = w6 at HI HM HV HR1 HR2 HG ⊢
  generalize w5.heap.size = b4 at HI NE3 NE4 HB4 ⊢
  go_upto_region 6 with (fail)
  go_quiet (fail)
  have HGd := hid (grown_drewN HG.out nq)
  replace HR1 := hid (HR1.out.kept0 (grown_drewN (grown_refl _ none) nq))
  replace HR2 := hid (HR2.out.kept0 (grown_drewN (grown_refl _ none) nq))
  generalize w6.drewN nq = w7 at HGd HR1 HR2 ⊢
  have E1 := hid ((HR1.out.row (inC 0 0 0 0 0)).rowOther b3 (spC 4 0 0 0 0 0 0 0) NE.out)
  have E2 := hid ((HR2.out.rowOther b2 (inC 0 0 0 0 0) NE.out.symm).row (spC 4 0 0 0 0 0 0 0))
  have EG := hid (grown_setRow (grown_setRow HGd.out HB2.out (inC 0 0 0 0 0)) HB3.out (spC 4 0 0 0 0 0 0 0))
  go_wp2_with (first
    | (refine wpList_build_ins rfl rfl ?_)
    | (refine wpList_build_s1 builds_stop rfl _ _ rfl rfl ?_)
    | (refine wpList_build_s0 builds_stop rfl _ rfl ?_)
    | (refine wpList_store_rw rfl 112 _ _ rfl rfl rfl HR1.out (by kernel_rfl) rfl (in_one _ _ _ _ _) ?_)
    | (refine wpList_store_rw rfl 138 _ _ rfl rfl rfl (HR2.out.rowOther _ _ NE.out.symm) (by kernel_rfl) rfl (sp_one _ _ _ _ _ _ _ _) ?_)
    | fail)
  refine bodyPost_ret (results_cell2 Tryz.results103 _ _ rfl rfl E1.out.blk E2.out.blk rfl rfl Tryz.underlying112 Tryz.underlying138 (by kernel_rfl) (by kernel_rfl)) rfl ?_
  exact ⟨rfl, EG.out⟩
set_option maxRecDepth 100000 in
set_option maxHeartbeats 2000000 in
theorem fetch_one (h : MemAt W m b n c xs) (hu : U32s xs) (root pc : Int) (p0 : 0 ≤ pc) (p1 : pc < 4294967296) (user : Bool) (hb : atB xs n root pc false user = true) (X : Int) (hX : rdV xs n root pc user = X) (hw : okW X = true) (ht : twoB (X / 16777216) = false) :
    Calls Tryz.prog 103 #[.agg #[.pointer (some ⟨m, 0, none⟩), .int .i64 root, .bool user], .int .u32 pc] W fun e w' => e = .returned (.tuple #[.agg (inC (X / 16777216) (X / 65536 % 256) (X / 256 % 256) (X % 256) 0), .agg (spC 0 0 (X / 16777216) (X / 65536 % 256) (X / 256 % 256) (X % 256) 0 1)]) ∧ W.grownBy w' none := by
  have Hz := zero_ins
  have Hz2 := zero_stop
  obtain ⟨b1, b2, b3, e1, e2, e3⟩ : ∃ b1 b2 b3, b1 = W.heap.size ∧ b2 = W.heap.size + 1 ∧ b3 = b2 + 1 := ⟨_, _, _, rfl, rfl, rfl⟩
  have NE : Hid (b2 ≠ b3) := hid (by omega)
  have NE1 : Hid (b1 ≠ b2) := hid (by omega)
  have NE2 : Hid (b1 ≠ b3) := hid (by omega)
  have HB2 : Hid (W.heap.size ≤ b2) := hid (by omega)
  have HB3 : Hid (W.heap.size ≤ b3) := hid (by omega)
  have HG : Hid (W.grownBy (((W.alloc (.cells #[.pointer (some ⟨m, 0, none⟩), .int .i64 root, .bool user] 168)).alloc (.cells (inC 0 0 0 0 0) 112)).alloc (.cells (spC 0 0 0 0 0 0 0 0) 138)) none) := hid (grown_alloc (grown_alloc (grown_alloc (grown_refl _ _) _) _) _)
  have HM := hid (h.kept0 HG.out)
  have HV : Hid (RwAt (((W.alloc (.cells #[.pointer (some ⟨m, 0, none⟩), .int .i64 root, .bool user] 168)).alloc (.cells (inC 0 0 0 0 0) 112)).alloc (.cells (spC 0 0 0 0 0 0 0 0) 138)) b1 168 #[.pointer (some ⟨m, 0, none⟩), .int .i64 root, .bool user]) := hid (by rw [e1]; exact ((RwAt.new _ _ _).alloc _).alloc _)
  have HR1 : Hid (RwAt (((W.alloc (.cells #[.pointer (some ⟨m, 0, none⟩), .int .i64 root, .bool user] 168)).alloc (.cells (inC 0 0 0 0 0) 112)).alloc (.cells (spC 0 0 0 0 0 0 0 0) 138)) b2 112 (inC 0 0 0 0 0)) := hid (by rw [e2]; exact (RwAt.new2 _ _ _ _).alloc _)
  have HR2 : Hid (RwAt (((W.alloc (.cells #[.pointer (some ⟨m, 0, none⟩), .int .i64 root, .bool user] 168)).alloc (.cells (inC 0 0 0 0 0) 112)).alloc (.cells (spC 0 0 0 0 0 0 0 0) 138)) b3 138 (spC 0 0 0 0 0 0 0 0)) := hid (by
    rw [e3, e2]
    have := RwAt.new2 (W.alloc (.cells #[.pointer (some ⟨m, 0, none⟩), .int .i64 root, .bool user] 168)) (.cells (inC 0 0 0 0 0) 112) 138 (spC 0 0 0 0 0 0 0 0)
    simp only [World.size_alloc] at this
    exact this)
  have Hu := hid hu
  have X0 := hid (rdV_bd hu n root pc user).1
  have X1 := hid (rdV_bd hu n root pc user).2
  rw [hX] at X0 X1
  clear h hu
  have HB := hid hb
  have HX := hid hX
  have HW := hid hw
  have HT := hid ht
  clear hb hX hw ht
  go_enter Tryz.func103, Tryz.ntmps103
  go_upto_region 1 with (fail)
  generalize (((W.alloc (.cells #[.pointer (some ⟨m, 0, none⟩), .int .i64 root, .bool user] 168)).alloc (.cells (inC 0 0 0 0 0) 112)).alloc (.cells (spC 0 0 0 0 0 0 0 0) 138)) = w3 at HG HM HV HR1 HR2 ⊢
  rw [← e2, ← e3, ← e1]
  clear e1 e2 e3
  go_wp2_with (first
    | (refine wpList_load_rw rfl 168 _ rfl rfl HV.out rfl Tryz.underlying168 (by kernel_rfl) ?_)
    | fail)
  refine (vread_of HM.out Hu.out root pc p0 p1 user X true HB.out HX.out).mono ?_; rintro e w4 ⟨rfl, hg⟩
  replace HM := hid (HM.out.kept0 hg)
  replace HV := hid (HV.out.kept0 hg)
  replace HR1 := hid (HR1.out.kept0 hg)
  replace HR2 := hid (HR2.out.kept0 hg)
  replace HG := hid (grown_trans HG.out hg)
  clear hg
  go_wp2_with fail
  refine (of_one1 X _ X0.out X1.out HW.out).mono ?_; rintro e w5 ⟨rfl, hg⟩
  replace HM := hid (HM.out.kept0 hg)
  replace HV := hid (HV.out.kept0 hg)
  replace HR1 := hid (HR1.out.kept0 hg)
  replace HR2 := hid (HR2.out.kept0 hg)
  replace HG := hid (grown_trans HG.out hg)
  clear hg
  have hg : w5.grownBy ((w5.alloc (.cells (inC 0 0 0 0 0) 112)).setRow w5.heap.size (inC (X / 16777216) (X / 65536 % 256) (X / 256 % 256) (X % 256) 0)) none := grown_setRow (grown_alloc (grown_refl _ _) _) (Nat.le_refl _) _
  have HI := hid ((RwAt.new w5 112 (inC 0 0 0 0 0)).row (inC (X / 16777216) (X / 65536 % 256) (X / 256 % 256) (X % 256) 0))
  have NE4 : Hid (w5.heap.size ≠ b2) := hid (by have := HR1.out.lt; omega)
  have NE3 : Hid (w5.heap.size ≠ b3) := hid (by have := HR2.out.lt; omega)
  have HB4 : Hid (W.heap.size ≤ w5.heap.size) := hid HG.out.size
  replace HM := hid (HM.out.kept0 hg)
  replace HV := hid (HV.out.kept0 hg)
  replace HR1 := hid (HR1.out.kept0 hg)
  replace HR2 := hid (HR2.out.kept0 hg)
  replace HG := hid (grown_trans HG.out hg)
  clear hg
  go_upto_region 5 with (first
    | (refine wpList_store_rw rfl 112 _ _ rfl rfl rfl (RwAt.new _ _ _) (by kernel_rfl) rfl (in_one _ _ _ _ _) ?_)
    | fail)
  generalize ((w5.alloc (.cells (inC 0 0 0 0 0) 112)).setRow w5.heap.size (inC (X / 16777216) (X / 65536 % 256) (X / 256 % 256) (X % 256) 0)) = w6 at HI HM HV HR1 HR2 HG ⊢
  generalize w5.heap.size = b4 at HI NE3 NE4 HB4 ⊢
  have k0 : w6.cell? ⟨b4, 0, none⟩ = some (.int .i64 (X / 16777216)) := HI.out.cell 0 rfl
  have hz := HI.out.lt
  go_upto_region 6 with (fail)
  go_region_with (first
    | (go_at_call 104; refine (tables_any _).mono ?_; rintro e w' ⟨rfl, rfl⟩)
    | (go_at_call 123; refine (two_any _ _).mono ?_; rw [HT.out]; rintro e w' ⟨rfl, rfl⟩))
  all_goals
    clear k0 hz
    have hg : w6.grownBy ((w6.alloc (.cells #[] 171)).alloc (.cells #[] 171)).drew none := grown_drew (grown_alloc (grown_alloc (grown_refl _ _) _) _)
    replace HI := hid (HI.out.kept0 hg)
    replace HM := hid (HM.out.kept0 hg)
    replace HV := hid (HV.out.kept0 hg)
    replace HR1 := hid (HR1.out.kept0 hg)
    replace HR2 := hid (HR2.out.kept0 hg)
    replace HG := hid (grown_trans HG.out hg)
    clear hg
    generalize ((w6.alloc (.cells #[] 171)).alloc (.cells #[] 171)).drew = w7 at HI HM HV HR1 HR2 HG ⊢
    skip
    go_upto_region 14 with (fail)
    have D1 := hid (RwAt.kept0 HI.out (grown_drew (grown_refl _ none)))
    have D2 := hid (RwAt.kept0 HR1.out (grown_drew (grown_refl _ none)))
    have D3 := hid (RwAt.kept0 HR2.out (grown_drew (grown_refl _ none)))
    refine wp_region_held_drew (S := fun w => RwAt w b4 112 (inC (X / 16777216) (X / 65536 % 256) (X / 256 % 256) (X % 256) 0)) (by kernel_rfl) D1.out (fun hS0 => ?_)
    refine anyH_take_row (i := 0) rfl rfl rfl (by kernel_rfl) (by kernel_rfl) (by kernel_rfl) (fun _ _ _ h => h) rfl rfl Tryz.underlying112 (by kernel_rfl) (fun w hw => ⟨_, _, hw.blk⟩) hS0 ?_
    refine anyH_take_row (i := 1) rfl rfl rfl (by kernel_rfl) (by kernel_rfl) (by kernel_rfl) (fun _ _ _ h => h) rfl rfl Tryz.underlying112 (by kernel_rfl) (fun w hw => ⟨_, _, hw.blk⟩) hS0 ?_
    refine wpAnyH_take (i := 2) (v := .int .u32 1) rfl (by kernel_rfl) (by kernel_rfl) (by kernel_rfl) (fun _ _ _ h => h) (Or.inl ⟨by kernel_rfl, fun w _ => by kernel_rfl⟩) hS0 ?_
    refine wpAnyH_take (i := 3) (v := .agg (spC 0 0 (X / 16777216) (X / 65536 % 256) (X / 256 % 256) (X % 256) 0 1)) rfl (by kernel_rfl) (by kernel_rfl) (by kernel_rfl) (fun _ _ _ h => h) (Or.inl ⟨by kernel_rfl, fun w _ => by kernel_rfl⟩) hS0 ?_
    refine anyH_store_row (i := 4) (by kernel_rfl) rfl rfl rfl rfl rfl D2.out.blk (by kernel_rfl) rfl (in_one _ _ _ _ _) (D1.out.rowOther _ _ NE4.out) ?_
    refine anyH_store_row (i := 5) (by kernel_rfl) rfl rfl rfl rfl rfl (D3.out.rowOther _ _ NE.out.symm).blk (by kernel_rfl) rfl (sp_one _ _ _ _ _ _ _ _) ((D1.out.rowOther _ _ NE4.out).rowOther _ _ (by first | exact NE3.out | omega)) ?_
    refine wpAnyH_done (by kernel_rfl) ?_ _
    have E1 := hid ((D2.out.row (inC (X / 16777216) (X / 65536 % 256) (X / 256 % 256) (X % 256) 0)).rowOther b3 (spC 0 0 (X / 16777216) (X / 65536 % 256) (X / 256 % 256) (X % 256) 0 1) NE.out)
    have E2 := hid ((D3.out.rowOther b2 (inC (X / 16777216) (X / 65536 % 256) (X / 256 % 256) (X % 256) 0) NE.out.symm).row (spC 0 0 (X / 16777216) (X / 65536 % 256) (X / 256 % 256) (X % 256) 0 1))
    have EG := hid (grown_setRow (grown_setRow (grown_drew HG.out) HB2.out (inC (X / 16777216) (X / 65536 % 256) (X / 256 % 256) (X % 256) 0)) HB3.out (spC 0 0 (X / 16777216) (X / 65536 % 256) (X / 256 % 256) (X % 256) 0 1))
    go_wp2
    refine bodyPost_ret (results_cell2 Tryz.results103 _ _ rfl rfl E1.out.blk E2.out.blk rfl rfl Tryz.underlying112 Tryz.underlying138 (by kernel_rfl) (by kernel_rfl)) rfl ?_
    exact ⟨rfl, EG.out⟩
set_option maxRecDepth 100000 in
set_option maxHeartbeats 2000000 in
theorem fetch_page2 (h : MemAt W m b n c xs) (hu : U32s xs) (root pc : Int) (p0 : 0 ≤ pc) (p1 : pc < 4294967296) (user : Bool) (hb : atB xs n root pc false user = true) (X : Int) (hX : rdV xs n root pc user = X) (hw : okW X = true) (ht : twoB (X / 16777216) = true) (hb2 : atB xs n root (nextI pc) false user = false) :
    Calls Tryz.prog 103 #[.agg #[.pointer (some ⟨m, 0, none⟩), .int .i64 root, .bool user], .int .u32 pc] W fun e w' => e = .returned (.tuple #[.agg (inC 0 0 0 0 0), .agg (spC 1 (nextI pc) 0 0 0 0 0 0)]) ∧ W.grownBy w' none := by
  have q0 : 0 ≤ nextI pc := by unfold nextI; omega
  have q1 : nextI pc < 4294967296 := by unfold nextI; omega
  have Hz := zero_ins
  have Hz2 := zero_stop
  obtain ⟨b1, b2, b3, e1, e2, e3⟩ : ∃ b1 b2 b3, b1 = W.heap.size ∧ b2 = W.heap.size + 1 ∧ b3 = b2 + 1 := ⟨_, _, _, rfl, rfl, rfl⟩
  have NE : Hid (b2 ≠ b3) := hid (by omega)
  have NE1 : Hid (b1 ≠ b2) := hid (by omega)
  have NE2 : Hid (b1 ≠ b3) := hid (by omega)
  have HB2 : Hid (W.heap.size ≤ b2) := hid (by omega)
  have HB3 : Hid (W.heap.size ≤ b3) := hid (by omega)
  have HG : Hid (W.grownBy (((W.alloc (.cells #[.pointer (some ⟨m, 0, none⟩), .int .i64 root, .bool user] 168)).alloc (.cells (inC 0 0 0 0 0) 112)).alloc (.cells (spC 0 0 0 0 0 0 0 0) 138)) none) := hid (grown_alloc (grown_alloc (grown_alloc (grown_refl _ _) _) _) _)
  have HM := hid (h.kept0 HG.out)
  have HV : Hid (RwAt (((W.alloc (.cells #[.pointer (some ⟨m, 0, none⟩), .int .i64 root, .bool user] 168)).alloc (.cells (inC 0 0 0 0 0) 112)).alloc (.cells (spC 0 0 0 0 0 0 0 0) 138)) b1 168 #[.pointer (some ⟨m, 0, none⟩), .int .i64 root, .bool user]) := hid (by rw [e1]; exact ((RwAt.new _ _ _).alloc _).alloc _)
  have HR1 : Hid (RwAt (((W.alloc (.cells #[.pointer (some ⟨m, 0, none⟩), .int .i64 root, .bool user] 168)).alloc (.cells (inC 0 0 0 0 0) 112)).alloc (.cells (spC 0 0 0 0 0 0 0 0) 138)) b2 112 (inC 0 0 0 0 0)) := hid (by rw [e2]; exact (RwAt.new2 _ _ _ _).alloc _)
  have HR2 : Hid (RwAt (((W.alloc (.cells #[.pointer (some ⟨m, 0, none⟩), .int .i64 root, .bool user] 168)).alloc (.cells (inC 0 0 0 0 0) 112)).alloc (.cells (spC 0 0 0 0 0 0 0 0) 138)) b3 138 (spC 0 0 0 0 0 0 0 0)) := hid (by
    rw [e3, e2]
    have := RwAt.new2 (W.alloc (.cells #[.pointer (some ⟨m, 0, none⟩), .int .i64 root, .bool user] 168)) (.cells (inC 0 0 0 0 0) 112) 138 (spC 0 0 0 0 0 0 0 0)
    simp only [World.size_alloc] at this
    exact this)
  have Hu := hid hu
  have X0 := hid (rdV_bd hu n root pc user).1
  have X1 := hid (rdV_bd hu n root pc user).2
  rw [hX] at X0 X1
  clear h hu
  have HB := hid hb
  have HX := hid hX
  have HW := hid hw
  have HT := hid ht
  have HB2' := hid hb2
  clear hb hX hw ht hb2
  go_enter Tryz.func103, Tryz.ntmps103
  go_upto_region 1 with (fail)
  generalize (((W.alloc (.cells #[.pointer (some ⟨m, 0, none⟩), .int .i64 root, .bool user] 168)).alloc (.cells (inC 0 0 0 0 0) 112)).alloc (.cells (spC 0 0 0 0 0 0 0 0) 138)) = w3 at HG HM HV HR1 HR2 ⊢
  rw [← e2, ← e3, ← e1]
  clear e1 e2 e3
  go_wp2_with (first
    | (refine wpList_load_rw rfl 168 _ rfl rfl HV.out rfl Tryz.underlying168 (by kernel_rfl) ?_)
    | fail)
  refine (vread_of HM.out Hu.out root pc p0 p1 user X true HB.out HX.out).mono ?_; rintro e w4 ⟨rfl, hg⟩
  replace HM := hid (HM.out.kept0 hg)
  replace HV := hid (HV.out.kept0 hg)
  replace HR1 := hid (HR1.out.kept0 hg)
  replace HR2 := hid (HR2.out.kept0 hg)
  replace HG := hid (grown_trans HG.out hg)
  clear hg
  go_wp2_with fail
  refine (of_one1 X _ X0.out X1.out HW.out).mono ?_; rintro e w5 ⟨rfl, hg⟩
  replace HM := hid (HM.out.kept0 hg)
  replace HV := hid (HV.out.kept0 hg)
  replace HR1 := hid (HR1.out.kept0 hg)
  replace HR2 := hid (HR2.out.kept0 hg)
  replace HG := hid (grown_trans HG.out hg)
  clear hg
  have hg : w5.grownBy ((w5.alloc (.cells (inC 0 0 0 0 0) 112)).setRow w5.heap.size (inC (X / 16777216) (X / 65536 % 256) (X / 256 % 256) (X % 256) 0)) none := grown_setRow (grown_alloc (grown_refl _ _) _) (Nat.le_refl _) _
  have HI := hid ((RwAt.new w5 112 (inC 0 0 0 0 0)).row (inC (X / 16777216) (X / 65536 % 256) (X / 256 % 256) (X % 256) 0))
  have NE4 : Hid (w5.heap.size ≠ b2) := hid (by have := HR1.out.lt; omega)
  have NE3 : Hid (w5.heap.size ≠ b3) := hid (by have := HR2.out.lt; omega)
  have HB4 : Hid (W.heap.size ≤ w5.heap.size) := hid HG.out.size
  replace HM := hid (HM.out.kept0 hg)
  replace HV := hid (HV.out.kept0 hg)
  replace HR1 := hid (HR1.out.kept0 hg)
  replace HR2 := hid (HR2.out.kept0 hg)
  replace HG := hid (grown_trans HG.out hg)
  clear hg
  go_upto_region 5 with (first
    | (refine wpList_store_rw rfl 112 _ _ rfl rfl rfl (RwAt.new _ _ _) (by kernel_rfl) rfl (in_one _ _ _ _ _) ?_)
    | fail)
  generalize ((w5.alloc (.cells (inC 0 0 0 0 0) 112)).setRow w5.heap.size (inC (X / 16777216) (X / 65536 % 256) (X / 256 % 256) (X % 256) 0)) = w6 at HI HM HV HR1 HR2 HG ⊢
  generalize w5.heap.size = b4 at HI NE3 NE4 HB4 ⊢
  have k0 : w6.cell? ⟨b4, 0, none⟩ = some (.int .i64 (X / 16777216)) := HI.out.cell 0 rfl
  have hz := HI.out.lt
  go_upto_region 6 with (fail)
  go_region_with (first
    | (go_at_call 104; refine (tables_any _).mono ?_; rintro e w' ⟨rfl, rfl⟩)
    | (go_at_call 123; refine (two_any _ _).mono ?_; rw [HT.out]; rintro e w' ⟨rfl, rfl⟩))
  all_goals
    clear k0 hz
    have hg : w6.grownBy ((w6.alloc (.cells #[] 171)).alloc (.cells #[] 171)).drew none := grown_drew (grown_alloc (grown_alloc (grown_refl _ _) _) _)
    replace HI := hid (HI.out.kept0 hg)
    replace HM := hid (HM.out.kept0 hg)
    replace HV := hid (HV.out.kept0 hg)
    replace HR1 := hid (HR1.out.kept0 hg)
    replace HR2 := hid (HR2.out.kept0 hg)
    replace HG := hid (grown_trans HG.out hg)
    clear hg
    generalize ((w6.alloc (.cells #[] 171)).alloc (.cells #[] 171)).drew = w7 at HI HM HV HR1 HR2 HG ⊢
    go_wp2_with (first
      | (refine wpList_load_rw rfl 168 _ rfl rfl HV.out rfl Tryz.underlying168 (by kernel_rfl) ?_)
      | fail)
    refine (vread_of HM.out Hu.out root (nextI pc) q0 q1 user _ false HB2'.out rfl).mono ?_; rintro e w8 ⟨rfl, hg⟩
    replace HM := hid (HM.out.kept0 hg)
    replace HV := hid (HV.out.kept0 hg)
    replace HR1 := hid (HR1.out.kept0 hg)
    replace HR2 := hid (HR2.out.kept0 hg)
    replace HG := hid (grown_trans HG.out hg)
    clear hg
    have E1 := hid ((HR1.out.row (inC 0 0 0 0 0)).rowOther b3 (spC 1 (nextI pc) 0 0 0 0 0 0) NE.out)
    have E2 := hid ((HR2.out.rowOther b2 (inC 0 0 0 0 0) NE.out.symm).row (spC 1 (nextI pc) 0 0 0 0 0 0))
    have EG := hid (grown_setRow (grown_setRow HG.out HB2.out (inC 0 0 0 0 0)) HB3.out (spC 1 (nextI pc) 0 0 0 0 0 0))
    go_wp2_with (first
      | (refine wpList_build_ins rfl rfl ?_)
      | (refine wpList_build_s1 builds_stop rfl _ _ rfl rfl ?_)
      | (refine wpList_build_s0 builds_stop rfl _ rfl ?_)
      | (refine wpList_store_rw rfl 112 _ _ rfl rfl rfl HR1.out (by kernel_rfl) rfl (in_one _ _ _ _ _) ?_)
      | (refine wpList_store_rw rfl 138 _ _ rfl rfl rfl (HR2.out.rowOther _ _ NE.out.symm) (by kernel_rfl) rfl (sp_one _ _ _ _ _ _ _ _) ?_)
      | fail)
    refine bodyPost_ret (results_cell2 Tryz.results103 _ _ rfl rfl E1.out.blk E2.out.blk rfl rfl Tryz.underlying112 Tryz.underlying138 (by kernel_rfl) (by kernel_rfl)) rfl ?_
    exact ⟨rfl, EG.out⟩
set_option maxRecDepth 100000 in
set_option maxHeartbeats 2000000 in
theorem fetch_two (h : MemAt W m b n c xs) (hu : U32s xs) (root pc : Int) (p0 : 0 ≤ pc) (p1 : pc < 4294967296) (user : Bool) (hb : atB xs n root pc false user = true) (X : Int) (hX : rdV xs n root pc user = X) (hw : okW X = true) (ht : twoB (X / 16777216) = true) (hb2 : atB xs n root (nextI pc) false user = true) (Y : Int) (hY : rdV xs n root (nextI pc) user = Y) :
    Calls Tryz.prog 103 #[.agg #[.pointer (some ⟨m, 0, none⟩), .int .i64 root, .bool user], .int .u32 pc] W fun e w' => e = .returned (.tuple #[.agg (inC (X / 16777216) (X / 65536 % 256) (X / 256 % 256) (X % 256) Y), .agg (spC 0 0 (X / 16777216) (X / 65536 % 256) (X / 256 % 256) (X % 256) Y 2)]) ∧ W.grownBy w' none := by
  have q0 : 0 ≤ nextI pc := by unfold nextI; omega
  have q1 : nextI pc < 4294967296 := by unfold nextI; omega
  have Hz := zero_ins
  have Hz2 := zero_stop
  obtain ⟨b1, b2, b3, e1, e2, e3⟩ : ∃ b1 b2 b3, b1 = W.heap.size ∧ b2 = W.heap.size + 1 ∧ b3 = b2 + 1 := ⟨_, _, _, rfl, rfl, rfl⟩
  have NE : Hid (b2 ≠ b3) := hid (by omega)
  have NE1 : Hid (b1 ≠ b2) := hid (by omega)
  have NE2 : Hid (b1 ≠ b3) := hid (by omega)
  have HB2 : Hid (W.heap.size ≤ b2) := hid (by omega)
  have HB3 : Hid (W.heap.size ≤ b3) := hid (by omega)
  have HG : Hid (W.grownBy (((W.alloc (.cells #[.pointer (some ⟨m, 0, none⟩), .int .i64 root, .bool user] 168)).alloc (.cells (inC 0 0 0 0 0) 112)).alloc (.cells (spC 0 0 0 0 0 0 0 0) 138)) none) := hid (grown_alloc (grown_alloc (grown_alloc (grown_refl _ _) _) _) _)
  have HM := hid (h.kept0 HG.out)
  have HV : Hid (RwAt (((W.alloc (.cells #[.pointer (some ⟨m, 0, none⟩), .int .i64 root, .bool user] 168)).alloc (.cells (inC 0 0 0 0 0) 112)).alloc (.cells (spC 0 0 0 0 0 0 0 0) 138)) b1 168 #[.pointer (some ⟨m, 0, none⟩), .int .i64 root, .bool user]) := hid (by rw [e1]; exact ((RwAt.new _ _ _).alloc _).alloc _)
  have HR1 : Hid (RwAt (((W.alloc (.cells #[.pointer (some ⟨m, 0, none⟩), .int .i64 root, .bool user] 168)).alloc (.cells (inC 0 0 0 0 0) 112)).alloc (.cells (spC 0 0 0 0 0 0 0 0) 138)) b2 112 (inC 0 0 0 0 0)) := hid (by rw [e2]; exact (RwAt.new2 _ _ _ _).alloc _)
  have HR2 : Hid (RwAt (((W.alloc (.cells #[.pointer (some ⟨m, 0, none⟩), .int .i64 root, .bool user] 168)).alloc (.cells (inC 0 0 0 0 0) 112)).alloc (.cells (spC 0 0 0 0 0 0 0 0) 138)) b3 138 (spC 0 0 0 0 0 0 0 0)) := hid (by
    rw [e3, e2]
    have := RwAt.new2 (W.alloc (.cells #[.pointer (some ⟨m, 0, none⟩), .int .i64 root, .bool user] 168)) (.cells (inC 0 0 0 0 0) 112) 138 (spC 0 0 0 0 0 0 0 0)
    simp only [World.size_alloc] at this
    exact this)
  have Hu := hid hu
  have X0 := hid (rdV_bd hu n root pc user).1
  have X1 := hid (rdV_bd hu n root pc user).2
  rw [hX] at X0 X1
  clear h hu
  have HB := hid hb
  have HX := hid hX
  have HW := hid hw
  have HT := hid ht
  have HB2' := hid hb2
  have HY := hid hY
  clear hb hX hw ht hb2 hY
  go_enter Tryz.func103, Tryz.ntmps103
  go_upto_region 1 with (fail)
  generalize (((W.alloc (.cells #[.pointer (some ⟨m, 0, none⟩), .int .i64 root, .bool user] 168)).alloc (.cells (inC 0 0 0 0 0) 112)).alloc (.cells (spC 0 0 0 0 0 0 0 0) 138)) = w3 at HG HM HV HR1 HR2 ⊢
  rw [← e2, ← e3, ← e1]
  clear e1 e2 e3
  go_wp2_with (first
    | (refine wpList_load_rw rfl 168 _ rfl rfl HV.out rfl Tryz.underlying168 (by kernel_rfl) ?_)
    | fail)
  refine (vread_of HM.out Hu.out root pc p0 p1 user X true HB.out HX.out).mono ?_; rintro e w4 ⟨rfl, hg⟩
  replace HM := hid (HM.out.kept0 hg)
  replace HV := hid (HV.out.kept0 hg)
  replace HR1 := hid (HR1.out.kept0 hg)
  replace HR2 := hid (HR2.out.kept0 hg)
  replace HG := hid (grown_trans HG.out hg)
  clear hg
  go_wp2_with fail
  refine (of_one1 X _ X0.out X1.out HW.out).mono ?_; rintro e w5 ⟨rfl, hg⟩
  replace HM := hid (HM.out.kept0 hg)
  replace HV := hid (HV.out.kept0 hg)
  replace HR1 := hid (HR1.out.kept0 hg)
  replace HR2 := hid (HR2.out.kept0 hg)
  replace HG := hid (grown_trans HG.out hg)
  clear hg
  have hg : w5.grownBy ((w5.alloc (.cells (inC 0 0 0 0 0) 112)).setRow w5.heap.size (inC (X / 16777216) (X / 65536 % 256) (X / 256 % 256) (X % 256) 0)) none := grown_setRow (grown_alloc (grown_refl _ _) _) (Nat.le_refl _) _
  have HI := hid ((RwAt.new w5 112 (inC 0 0 0 0 0)).row (inC (X / 16777216) (X / 65536 % 256) (X / 256 % 256) (X % 256) 0))
  have NE4 : Hid (w5.heap.size ≠ b2) := hid (by have := HR1.out.lt; omega)
  have NE3 : Hid (w5.heap.size ≠ b3) := hid (by have := HR2.out.lt; omega)
  have HB4 : Hid (W.heap.size ≤ w5.heap.size) := hid HG.out.size
  replace HM := hid (HM.out.kept0 hg)
  replace HV := hid (HV.out.kept0 hg)
  replace HR1 := hid (HR1.out.kept0 hg)
  replace HR2 := hid (HR2.out.kept0 hg)
  replace HG := hid (grown_trans HG.out hg)
  clear hg
  go_upto_region 5 with (first
    | (refine wpList_store_rw rfl 112 _ _ rfl rfl rfl (RwAt.new _ _ _) (by kernel_rfl) rfl (in_one _ _ _ _ _) ?_)
    | fail)
  generalize ((w5.alloc (.cells (inC 0 0 0 0 0) 112)).setRow w5.heap.size (inC (X / 16777216) (X / 65536 % 256) (X / 256 % 256) (X % 256) 0)) = w6 at HI HM HV HR1 HR2 HG ⊢
  generalize w5.heap.size = b4 at HI NE3 NE4 HB4 ⊢
  have k0 : w6.cell? ⟨b4, 0, none⟩ = some (.int .i64 (X / 16777216)) := HI.out.cell 0 rfl
  have hz := HI.out.lt
  go_upto_region 6 with (fail)
  go_region_with (first
    | (go_at_call 104; refine (tables_any _).mono ?_; rintro e w' ⟨rfl, rfl⟩)
    | (go_at_call 123; refine (two_any _ _).mono ?_; rw [HT.out]; rintro e w' ⟨rfl, rfl⟩))
  all_goals
    clear k0 hz
    have hg : w6.grownBy ((w6.alloc (.cells #[] 171)).alloc (.cells #[] 171)).drew none := grown_drew (grown_alloc (grown_alloc (grown_refl _ _) _) _)
    replace HI := hid (HI.out.kept0 hg)
    replace HM := hid (HM.out.kept0 hg)
    replace HV := hid (HV.out.kept0 hg)
    replace HR1 := hid (HR1.out.kept0 hg)
    replace HR2 := hid (HR2.out.kept0 hg)
    replace HG := hid (grown_trans HG.out hg)
    clear hg
    generalize ((w6.alloc (.cells #[] 171)).alloc (.cells #[] 171)).drew = w7 at HI HM HV HR1 HR2 HG ⊢
    go_wp2_with (first
      | (refine wpList_load_rw rfl 168 _ rfl rfl HV.out rfl Tryz.underlying168 (by kernel_rfl) ?_)
      | fail)
    refine (vread_of HM.out Hu.out root (nextI pc) q0 q1 user Y true HB2'.out HY.out).mono ?_; rintro e w8 ⟨rfl, hg⟩
    replace HM := hid (HM.out.kept0 hg)
    replace HI := hid (HI.out.kept0 hg)
    replace HV := hid (HV.out.kept0 hg)
    replace HR1 := hid (HR1.out.kept0 hg)
    replace HR2 := hid (HR2.out.kept0 hg)
    replace HG := hid (grown_trans HG.out hg)
    clear hg
    go_wp2_with (first
      | (refine wpList_store_rw rfl 112 _ _ rfl rfl rfl HI.out (by kernel_rfl) rfl (in_one _ _ _ _ _) ?_)
      | fail)
    refine (of_two2 X Y _ X0.out X1.out HW.out HT.out).mono ?_; rintro e w9 ⟨rfl, hg⟩
    replace HI := hid (HI.out.kept0 hg)
    replace HR1 := hid (HR1.out.kept0 hg)
    replace HR2 := hid (HR2.out.kept0 hg)
    replace HG := hid (grown_trans HG.out hg)
    clear hg
    have HB4 : Hid (W.heap.size ≤ b4) := HB4
    have HI2 := hid (HI.out.row (inC (X / 16777216) (X / 65536 % 256) (X / 256 % 256) (X % 256) Y))
    replace HR1 := hid (HR1.out.rowOther b4 (inC (X / 16777216) (X / 65536 % 256) (X / 256 % 256) (X % 256) Y) NE4.out.symm)
    replace HR2 := hid (HR2.out.rowOther b4 (inC (X / 16777216) (X / 65536 % 256) (X / 256 % 256) (X % 256) Y) NE3.out.symm)
    replace HG := hid (grown_setRow HG.out HB4.out (inC (X / 16777216) (X / 65536 % 256) (X / 256 % 256) (X % 256) Y))
    go_upto_region 11 with (first
      | (refine wpList_store_rw rfl 112 _ _ rfl rfl rfl HI.out (by kernel_rfl) rfl (in_one _ _ _ _ _) ?_)
      | fail)
    clear HI
    generalize (w9.setRow b4 (inC (X / 16777216) (X / 65536 % 256) (X / 256 % 256) (X % 256) Y)) = w10 at HI2 HR1 HR2 HG ⊢
    go_upto_region 14 with (fail)
    have D1 := hid (RwAt.kept0 HI2.out (grown_drew (grown_refl _ none)))
    have D2 := hid (RwAt.kept0 HR1.out (grown_drew (grown_refl _ none)))
    have D3 := hid (RwAt.kept0 HR2.out (grown_drew (grown_refl _ none)))
    refine wp_region_held_drew (S := fun w => RwAt w b4 112 (inC (X / 16777216) (X / 65536 % 256) (X / 256 % 256) (X % 256) Y)) (by kernel_rfl) D1.out (fun hS0 => ?_)
    refine anyH_take_row (i := 0) rfl rfl rfl (by kernel_rfl) (by kernel_rfl) (by kernel_rfl) (fun _ _ _ h => h) rfl rfl Tryz.underlying112 (by kernel_rfl) (fun w hw => ⟨_, _, hw.blk⟩) hS0 ?_
    refine anyH_take_row (i := 1) rfl rfl rfl (by kernel_rfl) (by kernel_rfl) (by kernel_rfl) (fun _ _ _ h => h) rfl rfl Tryz.underlying112 (by kernel_rfl) (fun w hw => ⟨_, _, hw.blk⟩) hS0 ?_
    refine wpAnyH_take (i := 2) (v := .int .u32 2) rfl (by kernel_rfl) (by kernel_rfl) (by kernel_rfl) (fun _ _ _ h => h) (Or.inl ⟨by kernel_rfl, fun w _ => by kernel_rfl⟩) hS0 ?_
    refine wpAnyH_take (i := 3) (v := .agg (spC 0 0 (X / 16777216) (X / 65536 % 256) (X / 256 % 256) (X % 256) Y 2)) rfl (by kernel_rfl) (by kernel_rfl) (by kernel_rfl) (fun _ _ _ h => h) (Or.inl ⟨by kernel_rfl, fun w _ => by kernel_rfl⟩) hS0 ?_
    refine anyH_store_row (i := 4) (by kernel_rfl) rfl rfl rfl rfl rfl D2.out.blk (by kernel_rfl) rfl (in_one _ _ _ _ _) (D1.out.rowOther _ _ NE4.out) ?_
    refine anyH_store_row (i := 5) (by kernel_rfl) rfl rfl rfl rfl rfl (D3.out.rowOther _ _ NE.out.symm).blk (by kernel_rfl) rfl (sp_one _ _ _ _ _ _ _ _) ((D1.out.rowOther _ _ NE4.out).rowOther _ _ (by first | exact NE3.out | omega)) ?_
    refine wpAnyH_done (by kernel_rfl) ?_ _
    have E1 := hid ((D2.out.row (inC (X / 16777216) (X / 65536 % 256) (X / 256 % 256) (X % 256) Y)).rowOther b3 (spC 0 0 (X / 16777216) (X / 65536 % 256) (X / 256 % 256) (X % 256) Y 2) NE.out)
    have E2 := hid ((D3.out.rowOther b2 (inC (X / 16777216) (X / 65536 % 256) (X / 256 % 256) (X % 256) Y) NE.out.symm).row (spC 0 0 (X / 16777216) (X / 65536 % 256) (X / 256 % 256) (X % 256) Y 2))
    have EG := hid (grown_setRow (grown_setRow (grown_drew HG.out) HB2.out (inC (X / 16777216) (X / 65536 % 256) (X / 256 % 256) (X % 256) Y)) HB3.out (spC 0 0 (X / 16777216) (X / 65536 % 256) (X / 256 % 256) (X % 256) Y 2))
    go_wp2
    refine bodyPost_ret (results_cell2 Tryz.results103 _ _ rfl rfl E1.out.blk E2.out.blk rfl rfl Tryz.underlying112 Tryz.underlying138 (by kernel_rfl) (by kernel_rfl)) rfl ?_
    exact ⟨rfl, EG.out⟩
end
end Go.Proofs.YtkkbhifplbleiaaGreatDoor
