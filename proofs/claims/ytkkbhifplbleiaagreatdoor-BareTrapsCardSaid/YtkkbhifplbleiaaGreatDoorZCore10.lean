/- core.Once: contracts. (Made by a program.) -/
import Derived.Test.YtkkbhifplbleiaaGreatDoorZGCoreB
import Derived.Test.YtkkbhifplbleiaaGreatDoorZCore5
import Derived.Test.YtkkbhifplbleiaaGreatDoorZGCore
namespace Go.Proofs.YtkkbhifplbleiaaGreatDoor
open Go.RowKit
def zeroView : Array Value := #[.pointer none, .int .i64 0, .bool false]
theorem zero_view (w : World) : (zeroValue 168).run Tryz.prog w = .ok (.agg zeroView) w := by kernel_rfl
theorem build_view (m : Nat) (root : Int) (user : Bool) (w : World) : (Instr.build 168 #[(0, .pointer (some ⟨m, 0, none⟩)), (1, .int .i64 root), (2, .bool user)]).run Tryz.prog w = .ok (.agg #[.pointer (some ⟨m, 0, none⟩), .int .i64 root, .bool user]) w := by kernel_rfl
theorem view_one (m : Nat) (root : Int) (user : Bool) : (#[Value.pointer (some ⟨m, 0, none⟩), .int .i64 root, .bool user] : Array Value).all (·.oneCell') = true := by simp [Value.oneCell']
theorem wpList_build_view {ops : Array Oper} {rest : List Oper} {o : Oper} {A : Act} {w : World} {Q : Exit → Act → World → Prop} (hgd : o.guard = none) (x y z : Operand) (ho : o.op = .build 168 #[(0, x), (1, y), (2, z)]) {m : Nat} {root : Int} {user : Bool}
    (hx : A.eval x = .pointer (some ⟨m, 0, none⟩)) (hy : A.eval y = .int .i64 root) (hz : A.eval z = .bool user) (h : wpList Tryz.prog ops Q rest (A.put o.dst (.agg #[.pointer (some ⟨m, 0, none⟩), .int .i64 root, .bool user])) w) : wpList Tryz.prog ops Q (o :: rest) A w := by
  refine wpList_plain hgd fun K hK => ?_
  unfold Oper.wp
  simp [execOp, ho, hx, hy, hz, build_view m root user w, Result.andThen]
  exact hK _ _ h
section
variable {m bm n cap : Nat} {xs : List Int} {l : List Int} {pc : Int} {ie eie : Bool} {epc tv cc cd ca ad op a b c im ln : Int} {W : World}
set_option maxRecDepth 100000 in
set_option maxHeartbeats 4000000 in
theorem once_stop (h : MemAt W m bm n cap xs) (hu : U32s xs) (hl : Regs l) (p0 : 0 ≤ pc) (p1 : pc < 4294967296) (root : Int) (user : Bool) (hs : fetchP xs n root pc user = ⟨ca, ad, op, a, b, c, im, ln⟩) (hca : (ca == 0) = false) :
    Calls Tryz.prog 72 #[.pointer (some ⟨m, 0, none⟩), .int .i64 root, .agg (cpuC ⟨l, pc, ie, eie, epc, tv, cc, cd⟩), .bool user] W fun e w' => e = .returned (.tuple #[.agg (cpuC ⟨l, pc, ie, eie, epc, tv, cc, cd⟩), .agg (spC ca ad op a b c im ln)]) ∧ W.grownBy w' none := by
  have Hz := zero_cpu
  have Hz2 := zero_stop
  have Hz3 := zero_ins
  have Hz4 := zero_view
  obtain ⟨b1, b3, b4, e1, e3, e4⟩ : ∃ b1 b3 b4, b1 = W.heap.size ∧ b3 = b1 + 1 ∧ b4 = b3 + 1 := ⟨_, _, _, rfl, rfl, rfl⟩
  have B13 : Hid (b1 ≠ b3 ∧ b1 ≠ b4 ∧ b3 ≠ b4 ∧ W.heap.size ≤ b1 ∧ W.heap.size ≤ b3 ∧ W.heap.size ≤ b4) := hid (by omega)
  have HC : Hid (CpuAt (((W.alloc (.cells (cpuC ⟨l, pc, ie, eie, epc, tv, cc, cd⟩) 39)).alloc (.cells (cpuC zeroP) 39)).alloc (.cells (spC 0 0 0 0 0 0 0 0) 138)) b1 ⟨l, pc, ie, eie, epc, tv, cc, cd⟩) := hid (by rw [e1]; exact ((CpuAt.new _ hl.len).alloc _).alloc _)
  have HR1 : Hid (CpuAt (((W.alloc (.cells (cpuC ⟨l, pc, ie, eie, epc, tv, cc, cd⟩) 39)).alloc (.cells (cpuC zeroP) 39)).alloc (.cells (spC 0 0 0 0 0 0 0 0) 138)) b3 zeroP) := hid (by rw [e3, e1]; exact (CpuAt.new2 _ _ rfl).alloc _)
  have HR2 : Hid (RwAt (((W.alloc (.cells (cpuC ⟨l, pc, ie, eie, epc, tv, cc, cd⟩) 39)).alloc (.cells (cpuC zeroP) 39)).alloc (.cells (spC 0 0 0 0 0 0 0 0) 138)) b4 138 (spC 0 0 0 0 0 0 0 0)) := hid (by
    rw [e4, e3, e1]
    have := RwAt.new2 (W.alloc (.cells (cpuC ⟨l, pc, ie, eie, epc, tv, cc, cd⟩) 39)) (.cells (cpuC zeroP) 39) 138 (spC 0 0 0 0 0 0 0 0)
    simp only [World.size_alloc] at this
    exact this)
  have HG : Hid (W.grownBy (((W.alloc (.cells (cpuC ⟨l, pc, ie, eie, epc, tv, cc, cd⟩) 39)).alloc (.cells (cpuC zeroP) 39)).alloc (.cells (spC 0 0 0 0 0 0 0 0) 138)) none) := hid (grown_alloc (grown_alloc (grown_alloc (grown_refl _ _) _) _) _)
  have HM := hid (h.kept0 HG.out)
  have Hm := hid h.mlt
  have Hbm := hid h.blt
  have HL := hid hl
  have Hu := hid hu
  have HS := hid hs
  clear h hl hu hs
  go_enter Tryz.func72, Tryz.ntmps72
  go_upto_region 1 with (fail)
  generalize (((W.alloc (.cells (cpuC ⟨l, pc, ie, eie, epc, tv, cc, cd⟩) 39)).alloc (.cells (cpuC zeroP) 39)).alloc (.cells (spC 0 0 0 0 0 0 0 0) 138)) = w3 at HC HR1 HR2 HM HG ⊢
  rw [← e1, ← e3, ← e4]
  clear e1 e3 e4
  have hg : w3.grownBy ((w3.alloc (.cells zeroView 168)).setRow w3.heap.size #[.pointer (some ⟨m, 0, none⟩), .int .i64 root, .bool user]) none := grown_setRow (grown_alloc (grown_refl _ _) _) (Nat.le_refl _) _
  have HV := hid ((RwAt.new w3 168 zeroView).row #[.pointer (some ⟨m, 0, none⟩), .int .i64 root, .bool user])
  replace HC := hid (HC.out.kept0 hg)
  replace HR1 := hid (HR1.out.kept0 hg)
  replace HR2 := hid (HR2.out.kept0 hg)
  replace HM := hid (HM.out.kept0 hg)
  replace HG := hid (grown_trans HG.out hg)
  clear hg
  go_upto_region 2 with (first
    | (refine wpList_build_view rfl _ _ _ rfl rfl rfl rfl ?_)
    | (refine wpList_store_rw rfl 168 _ _ rfl rfl rfl (RwAt.new _ _ _) (by kernel_rfl) rfl (view_one _ _ _) ?_)
    | fail)
  generalize ((w3.alloc (.cells zeroView 168)).setRow w3.heap.size #[.pointer (some ⟨m, 0, none⟩), .int .i64 root, .bool user]) = w4 at HC HR1 HR2 HM HG HV ⊢
  generalize w3.heap.size = b0 at HV ⊢
  have kp := HC.out.pc
  go_wp2_with (first
    | (refine wpList_load_rw rfl 168 _ rfl rfl HV.out rfl Tryz.underlying168 (by kernel_rfl) ?_)
    | fail)
  refine (fetch_of HM.out Hu.out root pc p0 p1 user ca ad op a b c im ln HS.out).mono ?_; rintro e w5 ⟨rfl, hg⟩
  clear kp
  replace HC := hid (HC.out.kept0 hg)
  replace HR1 := hid (HR1.out.kept0 hg)
  replace HR2 := hid (HR2.out.kept0 hg)
  replace HM := hid (HM.out.kept0 hg)
  replace HV := hid (HV.out.kept0 hg)
  replace HG := hid (grown_trans HG.out hg)
  clear hg
  have hg : w5.grownBy ((((w5.alloc (.cells (inC 0 0 0 0 0) 112)).alloc (.cells (spC 0 0 0 0 0 0 0 0) 138)).setRow w5.heap.size (inC op a b c im)).setRow (w5.heap.size + 1) (spC ca ad op a b c im ln)) none := grown_setRow (grown_setRow (grown_alloc (grown_alloc (grown_refl _ _) _) _) (Nat.le_refl _) _) (Nat.le_succ _) _
  have HI := hid ((((RwAt.new w5 112 (inC 0 0 0 0 0)).alloc (.cells (spC 0 0 0 0 0 0 0 0) 138)).row (inC op a b c im)).rowOther (w5.heap.size + 1) (spC ca ad op a b c im ln) (by omega))
  have HSt := hid (((RwAt.new2 w5 (.cells (inC 0 0 0 0 0) 112) 138 (spC 0 0 0 0 0 0 0 0)).rowOther w5.heap.size (inC op a b c im) (by omega)).row (spC ca ad op a b c im ln))
  have NW : Hid (b1 < w5.heap.size ∧ b3 < w5.heap.size ∧ b4 < w5.heap.size ∧ W.heap.size ≤ w5.heap.size ∧ b0 < w5.heap.size) := hid ⟨HC.out.lt, HR1.out.lt, HR2.out.lt, HG.out.size, HV.out.lt⟩
  replace HC := hid (HC.out.kept0 hg)
  replace HR1 := hid (HR1.out.kept0 hg)
  replace HR2 := hid (HR2.out.kept0 hg)
  replace HM := hid (HM.out.kept0 hg)
  replace HV := hid (HV.out.kept0 hg)
  replace HG := hid (grown_trans HG.out hg)
  clear hg
  go_upto_region 3 with (first
    | (refine wpList_store_rw rfl 112 _ _ rfl rfl rfl ((RwAt.new _ _ _).alloc _) (by kernel_rfl) rfl (in_one _ _ _ _ _) ?_)
    | (refine wpList_store_rw rfl 138 _ _ rfl rfl rfl ((RwAt.new2 _ _ _ _).rowOther _ _ (by omega)) (by kernel_rfl) rfl (sp_one _ _ _ _ _ _ _ _) ?_)
    | fail)
  generalize ((((w5.alloc (.cells (inC 0 0 0 0 0) 112)).alloc (.cells (spC 0 0 0 0 0 0 0 0) 138)).setRow w5.heap.size (inC op a b c im)).setRow (w5.heap.size + 1) (spC ca ad op a b c im ln)) = w6 at HC HR1 HR2 HM HG HV HI HSt ⊢
  obtain ⟨b2, e2⟩ : ∃ b2, b2 = w5.heap.size + 1 := ⟨_, rfl⟩
  have HO : Hid (Ord4 b1 b2 b3 b4) := hid (by unfold Ord4; have := NW.out; have := B13.out; omega)
  have HB : Hid (∀ i ∈ [b1, b2, b3, b4], W.heap.size ≤ i) := hid (by have := NW.out; have := B13.out; simp only [List.mem_cons, List.not_mem_nil, or_false]; omega)
  have N5 : Hid (w5.heap.size ≠ b2) := hid (by omega)
  rw [← e2] at HSt ⊢
  clear e2
  generalize w5.heap.size = b5 at HI N5 ⊢
  have HF : Hid (FAt w6 138 b1 b2 b3 b4 ⟨l, pc, ie, eie, epc, tv, cc, cd⟩ (spC ca ad op a b c im ln) w6) := hid ⟨HC.out, HSt.out, HR1.out, HR2.out, Lv.refl _ _⟩
  clear HC HSt HR1 HR2 NW B13
  have k0 : w6.cell? ⟨b2, 0, none⟩ = some (.int .i64 ca) := HF.out.hs.cell 0 rfl
  go_upto_region 4 with (fail)
  refine region_ret2 HF.out HO.out rfl (sp_one _ _ _ _ _ _ _ _) rfl rfl rfl rfl rfl rfl rfl rfl rfl rfl rfl rfl rfl (by kernel_rfl) (by kernel_rfl) (by kernel_rfl) (by kernel_rfl) rfl Tryz.underlying138 (by kernel_rfl) rfl rfl rfl rfl rfl rfl (fun _ _ _ h => h) (fun _ _ _ h => h) ?_
  intro w9 hE
  have HE := hid hE
  clear hE
  go_wp2
  refine bodyPost_ret (HE.out.results Tryz.results72 _ rfl rfl rfl rfl Tryz.underlying39 Tryz.underlying138 (cpu_size_info HE.out.r1.len) (by kernel_rfl)) rfl ?_
  exact ⟨rfl, Lv.after HG.out HE.out.lv HB.out⟩
set_option maxRecDepth 100000 in
set_option maxHeartbeats 4000000 in
theorem once_call (h : MemAt W m bm n cap xs) (hu : U32s xs) (hl : Regs l) (p0 : 0 ≤ pc) (p1 : pc < 4294967296) (root : Int) (user : Bool) (hs : fetchP xs n root pc user = ⟨0, 0, op, a, b, c, im, ln⟩) (hk : clsI op = 4) :
    Calls Tryz.prog 72 #[.pointer (some ⟨m, 0, none⟩), .int .i64 root, .agg (cpuC ⟨l, pc, ie, eie, epc, tv, cc, cd⟩), .bool user] W fun e w' => e = .returned (.tuple #[.agg (cpuC ⟨l, pc, ie, eie, epc, tv, cc, cd⟩), .agg (spC 7 0 op a b c im ln)]) ∧ W.grownBy w' none := by
  have HK := hid hk
  clear hk
  have Hz := zero_cpu
  have Hz2 := zero_stop
  have Hz3 := zero_ins
  have Hz4 := zero_view
  obtain ⟨b1, b3, b4, e1, e3, e4⟩ : ∃ b1 b3 b4, b1 = W.heap.size ∧ b3 = b1 + 1 ∧ b4 = b3 + 1 := ⟨_, _, _, rfl, rfl, rfl⟩
  have B13 : Hid (b1 ≠ b3 ∧ b1 ≠ b4 ∧ b3 ≠ b4 ∧ W.heap.size ≤ b1 ∧ W.heap.size ≤ b3 ∧ W.heap.size ≤ b4) := hid (by omega)
  have HC : Hid (CpuAt (((W.alloc (.cells (cpuC ⟨l, pc, ie, eie, epc, tv, cc, cd⟩) 39)).alloc (.cells (cpuC zeroP) 39)).alloc (.cells (spC 0 0 0 0 0 0 0 0) 138)) b1 ⟨l, pc, ie, eie, epc, tv, cc, cd⟩) := hid (by rw [e1]; exact ((CpuAt.new _ hl.len).alloc _).alloc _)
  have HR1 : Hid (CpuAt (((W.alloc (.cells (cpuC ⟨l, pc, ie, eie, epc, tv, cc, cd⟩) 39)).alloc (.cells (cpuC zeroP) 39)).alloc (.cells (spC 0 0 0 0 0 0 0 0) 138)) b3 zeroP) := hid (by rw [e3, e1]; exact (CpuAt.new2 _ _ rfl).alloc _)
  have HR2 : Hid (RwAt (((W.alloc (.cells (cpuC ⟨l, pc, ie, eie, epc, tv, cc, cd⟩) 39)).alloc (.cells (cpuC zeroP) 39)).alloc (.cells (spC 0 0 0 0 0 0 0 0) 138)) b4 138 (spC 0 0 0 0 0 0 0 0)) := hid (by
    rw [e4, e3, e1]
    have := RwAt.new2 (W.alloc (.cells (cpuC ⟨l, pc, ie, eie, epc, tv, cc, cd⟩) 39)) (.cells (cpuC zeroP) 39) 138 (spC 0 0 0 0 0 0 0 0)
    simp only [World.size_alloc] at this
    exact this)
  have HG : Hid (W.grownBy (((W.alloc (.cells (cpuC ⟨l, pc, ie, eie, epc, tv, cc, cd⟩) 39)).alloc (.cells (cpuC zeroP) 39)).alloc (.cells (spC 0 0 0 0 0 0 0 0) 138)) none) := hid (grown_alloc (grown_alloc (grown_alloc (grown_refl _ _) _) _) _)
  have HM := hid (h.kept0 HG.out)
  have Hm := hid h.mlt
  have Hbm := hid h.blt
  have HL := hid hl
  have Hu := hid hu
  have HS := hid hs
  clear h hl hu hs
  go_enter Tryz.func72, Tryz.ntmps72
  go_upto_region 1 with (fail)
  generalize (((W.alloc (.cells (cpuC ⟨l, pc, ie, eie, epc, tv, cc, cd⟩) 39)).alloc (.cells (cpuC zeroP) 39)).alloc (.cells (spC 0 0 0 0 0 0 0 0) 138)) = w3 at HC HR1 HR2 HM HG ⊢
  rw [← e1, ← e3, ← e4]
  clear e1 e3 e4
  have hg : w3.grownBy ((w3.alloc (.cells zeroView 168)).setRow w3.heap.size #[.pointer (some ⟨m, 0, none⟩), .int .i64 root, .bool user]) none := grown_setRow (grown_alloc (grown_refl _ _) _) (Nat.le_refl _) _
  have HV := hid ((RwAt.new w3 168 zeroView).row #[.pointer (some ⟨m, 0, none⟩), .int .i64 root, .bool user])
  replace HC := hid (HC.out.kept0 hg)
  replace HR1 := hid (HR1.out.kept0 hg)
  replace HR2 := hid (HR2.out.kept0 hg)
  replace HM := hid (HM.out.kept0 hg)
  replace HG := hid (grown_trans HG.out hg)
  clear hg
  go_upto_region 2 with (first
    | (refine wpList_build_view rfl _ _ _ rfl rfl rfl rfl ?_)
    | (refine wpList_store_rw rfl 168 _ _ rfl rfl rfl (RwAt.new _ _ _) (by kernel_rfl) rfl (view_one _ _ _) ?_)
    | fail)
  generalize ((w3.alloc (.cells zeroView 168)).setRow w3.heap.size #[.pointer (some ⟨m, 0, none⟩), .int .i64 root, .bool user]) = w4 at HC HR1 HR2 HM HG HV ⊢
  generalize w3.heap.size = b0 at HV ⊢
  have kp := HC.out.pc
  go_wp2_with (first
    | (refine wpList_load_rw rfl 168 _ rfl rfl HV.out rfl Tryz.underlying168 (by kernel_rfl) ?_)
    | fail)
  refine (fetch_of HM.out Hu.out root pc p0 p1 user 0 0 op a b c im ln HS.out).mono ?_; rintro e w5 ⟨rfl, hg⟩
  clear kp
  replace HC := hid (HC.out.kept0 hg)
  replace HR1 := hid (HR1.out.kept0 hg)
  replace HR2 := hid (HR2.out.kept0 hg)
  replace HM := hid (HM.out.kept0 hg)
  replace HV := hid (HV.out.kept0 hg)
  replace HG := hid (grown_trans HG.out hg)
  clear hg
  have hg : w5.grownBy ((((w5.alloc (.cells (inC 0 0 0 0 0) 112)).alloc (.cells (spC 0 0 0 0 0 0 0 0) 138)).setRow w5.heap.size (inC op a b c im)).setRow (w5.heap.size + 1) (spC 0 0 op a b c im ln)) none := grown_setRow (grown_setRow (grown_alloc (grown_alloc (grown_refl _ _) _) _) (Nat.le_refl _) _) (Nat.le_succ _) _
  have HI := hid ((((RwAt.new w5 112 (inC 0 0 0 0 0)).alloc (.cells (spC 0 0 0 0 0 0 0 0) 138)).row (inC op a b c im)).rowOther (w5.heap.size + 1) (spC 0 0 op a b c im ln) (by omega))
  have HSt := hid (((RwAt.new2 w5 (.cells (inC 0 0 0 0 0) 112) 138 (spC 0 0 0 0 0 0 0 0)).rowOther w5.heap.size (inC op a b c im) (by omega)).row (spC 0 0 op a b c im ln))
  have NW : Hid (b1 < w5.heap.size ∧ b3 < w5.heap.size ∧ b4 < w5.heap.size ∧ W.heap.size ≤ w5.heap.size ∧ b0 < w5.heap.size) := hid ⟨HC.out.lt, HR1.out.lt, HR2.out.lt, HG.out.size, HV.out.lt⟩
  replace HC := hid (HC.out.kept0 hg)
  replace HR1 := hid (HR1.out.kept0 hg)
  replace HR2 := hid (HR2.out.kept0 hg)
  replace HM := hid (HM.out.kept0 hg)
  replace HV := hid (HV.out.kept0 hg)
  replace HG := hid (grown_trans HG.out hg)
  clear hg
  go_upto_region 3 with (first
    | (refine wpList_store_rw rfl 112 _ _ rfl rfl rfl ((RwAt.new _ _ _).alloc _) (by kernel_rfl) rfl (in_one _ _ _ _ _) ?_)
    | (refine wpList_store_rw rfl 138 _ _ rfl rfl rfl ((RwAt.new2 _ _ _ _).rowOther _ _ (by omega)) (by kernel_rfl) rfl (sp_one _ _ _ _ _ _ _ _) ?_)
    | fail)
  generalize ((((w5.alloc (.cells (inC 0 0 0 0 0) 112)).alloc (.cells (spC 0 0 0 0 0 0 0 0) 138)).setRow w5.heap.size (inC op a b c im)).setRow (w5.heap.size + 1) (spC 0 0 op a b c im ln)) = w6 at HC HR1 HR2 HM HG HV HI HSt ⊢
  obtain ⟨b2, e2⟩ : ∃ b2, b2 = w5.heap.size + 1 := ⟨_, rfl⟩
  have HO : Hid (Ord4 b1 b2 b3 b4) := hid (by unfold Ord4; have := NW.out; have := B13.out; omega)
  have HB : Hid (∀ i ∈ [b1, b2, b3, b4], W.heap.size ≤ i) := hid (by have := NW.out; have := B13.out; simp only [List.mem_cons, List.not_mem_nil, or_false]; omega)
  have N5 : Hid (w5.heap.size ≠ b2) := hid (by omega)
  rw [← e2] at HSt ⊢
  clear e2
  generalize w5.heap.size = b5 at HI N5 ⊢
  have HF : Hid (FAt w6 138 b1 b2 b3 b4 ⟨l, pc, ie, eie, epc, tv, cc, cd⟩ (spC 0 0 op a b c im ln) w6) := hid ⟨HC.out, HSt.out, HR1.out, HR2.out, Lv.refl _ _⟩
  clear HC HSt HR1 HR2 NW B13
  have k0 : w6.cell? ⟨b2, 0, none⟩ = some (.int .i64 0) := HF.out.hs.cell 0 rfl
  have kop : w6.cell? ⟨b5, 0, none⟩ = some (.int .i64 op) := HI.out.cell 0 rfl
  have hz : b5 < w6.heap.size := HI.out.lt
  go_upto_region 5 with (fail)
  go_region_with (first
    | (go_at_call 104; refine (tables_any _).mono ?_; rintro e w' ⟨rfl, rfl⟩)
    | (go_at_call 105; refine (class_any _ _).mono ?_; rw [HK.out]; rintro e w' ⟨rfl, rfl⟩))
  all_goals
    clear kop hz k0 HI
    have hg : w6.grownBy ((w6.alloc (.cells #[] 171)).alloc (.cells #[] 171)).drew none := grown_drew (grown_alloc (grown_alloc (grown_refl _ _) _) _)
    replace HF := hid (HF.out.kept hg)
    replace HV := hid (HV.out.kept0 hg)
    replace HM := hid (HM.out.kept0 hg)
    replace HG := hid (grown_trans HG.out hg)
    clear hg
    generalize ((w6.alloc (.cells #[] 171)).alloc (.cells #[] 171)).drew = w7 at HF HM HV HG ⊢
    have k0 : w7.cell? ⟨b2, 0, none⟩ = some (.int .i64 0) := HF.out.hs.cell 0 rfl
    have kf := fun k => HF.out.hs.free k
    have HF2 := hid (HF.out.sCa HO.out 7)
    go_upto_region 13 with (fail)
    refine region_ret2 HF2.out HO.out rfl (sp_one _ _ _ _ _ _ _ _) rfl rfl rfl rfl rfl rfl rfl rfl rfl rfl rfl rfl rfl (by kernel_rfl) (by kernel_rfl) (by kernel_rfl) (by kernel_rfl) rfl Tryz.underlying138 (by kernel_rfl) rfl rfl rfl rfl rfl rfl (fun _ _ _ h => h) (fun _ _ _ h => h) ?_
    intro w9 hE
    have HE := hid hE
    clear hE
    go_wp2
    refine bodyPost_ret (HE.out.results Tryz.results72 _ rfl rfl rfl rfl Tryz.underlying39 Tryz.underlying138 (cpu_size_info HE.out.r1.len) (by kernel_rfl)) rfl ?_
    exact ⟨rfl, Lv.after HG.out HE.out.lv HB.out⟩
set_option maxRecDepth 100000 in
set_option maxHeartbeats 4000000 in
theorem once_priv (h : MemAt W m bm n cap xs) (hu : U32s xs) (hl : Regs l) (p0 : 0 ≤ pc) (p1 : pc < 4294967296) (root : Int) (user : Bool) (hs : fetchP xs n root pc user = ⟨0, 0, op, a, b, c, im, ln⟩) (hk : clsI op = 2) :
    Calls Tryz.prog 72 #[.pointer (some ⟨m, 0, none⟩), .int .i64 root, .agg (cpuC ⟨l, pc, ie, eie, epc, tv, cc, cd⟩), .bool user] W fun e w' => e = .returned (.tuple #[.agg (cpuC ⟨l, pc, ie, eie, epc, tv, cc, cd⟩), .agg (spC 6 0 op a b c im ln)]) ∧ W.grownBy w' none := by
  have HK := hid hk
  clear hk
  have Hz := zero_cpu
  have Hz2 := zero_stop
  have Hz3 := zero_ins
  have Hz4 := zero_view
  obtain ⟨b1, b3, b4, e1, e3, e4⟩ : ∃ b1 b3 b4, b1 = W.heap.size ∧ b3 = b1 + 1 ∧ b4 = b3 + 1 := ⟨_, _, _, rfl, rfl, rfl⟩
  have B13 : Hid (b1 ≠ b3 ∧ b1 ≠ b4 ∧ b3 ≠ b4 ∧ W.heap.size ≤ b1 ∧ W.heap.size ≤ b3 ∧ W.heap.size ≤ b4) := hid (by omega)
  have HC : Hid (CpuAt (((W.alloc (.cells (cpuC ⟨l, pc, ie, eie, epc, tv, cc, cd⟩) 39)).alloc (.cells (cpuC zeroP) 39)).alloc (.cells (spC 0 0 0 0 0 0 0 0) 138)) b1 ⟨l, pc, ie, eie, epc, tv, cc, cd⟩) := hid (by rw [e1]; exact ((CpuAt.new _ hl.len).alloc _).alloc _)
  have HR1 : Hid (CpuAt (((W.alloc (.cells (cpuC ⟨l, pc, ie, eie, epc, tv, cc, cd⟩) 39)).alloc (.cells (cpuC zeroP) 39)).alloc (.cells (spC 0 0 0 0 0 0 0 0) 138)) b3 zeroP) := hid (by rw [e3, e1]; exact (CpuAt.new2 _ _ rfl).alloc _)
  have HR2 : Hid (RwAt (((W.alloc (.cells (cpuC ⟨l, pc, ie, eie, epc, tv, cc, cd⟩) 39)).alloc (.cells (cpuC zeroP) 39)).alloc (.cells (spC 0 0 0 0 0 0 0 0) 138)) b4 138 (spC 0 0 0 0 0 0 0 0)) := hid (by
    rw [e4, e3, e1]
    have := RwAt.new2 (W.alloc (.cells (cpuC ⟨l, pc, ie, eie, epc, tv, cc, cd⟩) 39)) (.cells (cpuC zeroP) 39) 138 (spC 0 0 0 0 0 0 0 0)
    simp only [World.size_alloc] at this
    exact this)
  have HG : Hid (W.grownBy (((W.alloc (.cells (cpuC ⟨l, pc, ie, eie, epc, tv, cc, cd⟩) 39)).alloc (.cells (cpuC zeroP) 39)).alloc (.cells (spC 0 0 0 0 0 0 0 0) 138)) none) := hid (grown_alloc (grown_alloc (grown_alloc (grown_refl _ _) _) _) _)
  have HM := hid (h.kept0 HG.out)
  have Hm := hid h.mlt
  have Hbm := hid h.blt
  have HL := hid hl
  have Hu := hid hu
  have HS := hid hs
  clear h hl hu hs
  go_enter Tryz.func72, Tryz.ntmps72
  go_upto_region 1 with (fail)
  generalize (((W.alloc (.cells (cpuC ⟨l, pc, ie, eie, epc, tv, cc, cd⟩) 39)).alloc (.cells (cpuC zeroP) 39)).alloc (.cells (spC 0 0 0 0 0 0 0 0) 138)) = w3 at HC HR1 HR2 HM HG ⊢
  rw [← e1, ← e3, ← e4]
  clear e1 e3 e4
  have hg : w3.grownBy ((w3.alloc (.cells zeroView 168)).setRow w3.heap.size #[.pointer (some ⟨m, 0, none⟩), .int .i64 root, .bool user]) none := grown_setRow (grown_alloc (grown_refl _ _) _) (Nat.le_refl _) _
  have HV := hid ((RwAt.new w3 168 zeroView).row #[.pointer (some ⟨m, 0, none⟩), .int .i64 root, .bool user])
  replace HC := hid (HC.out.kept0 hg)
  replace HR1 := hid (HR1.out.kept0 hg)
  replace HR2 := hid (HR2.out.kept0 hg)
  replace HM := hid (HM.out.kept0 hg)
  replace HG := hid (grown_trans HG.out hg)
  clear hg
  go_upto_region 2 with (first
    | (refine wpList_build_view rfl _ _ _ rfl rfl rfl rfl ?_)
    | (refine wpList_store_rw rfl 168 _ _ rfl rfl rfl (RwAt.new _ _ _) (by kernel_rfl) rfl (view_one _ _ _) ?_)
    | fail)
  generalize ((w3.alloc (.cells zeroView 168)).setRow w3.heap.size #[.pointer (some ⟨m, 0, none⟩), .int .i64 root, .bool user]) = w4 at HC HR1 HR2 HM HG HV ⊢
  generalize w3.heap.size = b0 at HV ⊢
  have kp := HC.out.pc
  go_wp2_with (first
    | (refine wpList_load_rw rfl 168 _ rfl rfl HV.out rfl Tryz.underlying168 (by kernel_rfl) ?_)
    | fail)
  refine (fetch_of HM.out Hu.out root pc p0 p1 user 0 0 op a b c im ln HS.out).mono ?_; rintro e w5 ⟨rfl, hg⟩
  clear kp
  replace HC := hid (HC.out.kept0 hg)
  replace HR1 := hid (HR1.out.kept0 hg)
  replace HR2 := hid (HR2.out.kept0 hg)
  replace HM := hid (HM.out.kept0 hg)
  replace HV := hid (HV.out.kept0 hg)
  replace HG := hid (grown_trans HG.out hg)
  clear hg
  have hg : w5.grownBy ((((w5.alloc (.cells (inC 0 0 0 0 0) 112)).alloc (.cells (spC 0 0 0 0 0 0 0 0) 138)).setRow w5.heap.size (inC op a b c im)).setRow (w5.heap.size + 1) (spC 0 0 op a b c im ln)) none := grown_setRow (grown_setRow (grown_alloc (grown_alloc (grown_refl _ _) _) _) (Nat.le_refl _) _) (Nat.le_succ _) _
  have HI := hid ((((RwAt.new w5 112 (inC 0 0 0 0 0)).alloc (.cells (spC 0 0 0 0 0 0 0 0) 138)).row (inC op a b c im)).rowOther (w5.heap.size + 1) (spC 0 0 op a b c im ln) (by omega))
  have HSt := hid (((RwAt.new2 w5 (.cells (inC 0 0 0 0 0) 112) 138 (spC 0 0 0 0 0 0 0 0)).rowOther w5.heap.size (inC op a b c im) (by omega)).row (spC 0 0 op a b c im ln))
  have NW : Hid (b1 < w5.heap.size ∧ b3 < w5.heap.size ∧ b4 < w5.heap.size ∧ W.heap.size ≤ w5.heap.size ∧ b0 < w5.heap.size) := hid ⟨HC.out.lt, HR1.out.lt, HR2.out.lt, HG.out.size, HV.out.lt⟩
  replace HC := hid (HC.out.kept0 hg)
  replace HR1 := hid (HR1.out.kept0 hg)
  replace HR2 := hid (HR2.out.kept0 hg)
  replace HM := hid (HM.out.kept0 hg)
  replace HV := hid (HV.out.kept0 hg)
  replace HG := hid (grown_trans HG.out hg)
  clear hg
  go_upto_region 3 with (first
    | (refine wpList_store_rw rfl 112 _ _ rfl rfl rfl ((RwAt.new _ _ _).alloc _) (by kernel_rfl) rfl (in_one _ _ _ _ _) ?_)
    | (refine wpList_store_rw rfl 138 _ _ rfl rfl rfl ((RwAt.new2 _ _ _ _).rowOther _ _ (by omega)) (by kernel_rfl) rfl (sp_one _ _ _ _ _ _ _ _) ?_)
    | fail)
  generalize ((((w5.alloc (.cells (inC 0 0 0 0 0) 112)).alloc (.cells (spC 0 0 0 0 0 0 0 0) 138)).setRow w5.heap.size (inC op a b c im)).setRow (w5.heap.size + 1) (spC 0 0 op a b c im ln)) = w6 at HC HR1 HR2 HM HG HV HI HSt ⊢
  obtain ⟨b2, e2⟩ : ∃ b2, b2 = w5.heap.size + 1 := ⟨_, rfl⟩
  have HO : Hid (Ord4 b1 b2 b3 b4) := hid (by unfold Ord4; have := NW.out; have := B13.out; omega)
  have HB : Hid (∀ i ∈ [b1, b2, b3, b4], W.heap.size ≤ i) := hid (by have := NW.out; have := B13.out; simp only [List.mem_cons, List.not_mem_nil, or_false]; omega)
  have N5 : Hid (w5.heap.size ≠ b2) := hid (by omega)
  rw [← e2] at HSt ⊢
  clear e2
  generalize w5.heap.size = b5 at HI N5 ⊢
  have HF : Hid (FAt w6 138 b1 b2 b3 b4 ⟨l, pc, ie, eie, epc, tv, cc, cd⟩ (spC 0 0 op a b c im ln) w6) := hid ⟨HC.out, HSt.out, HR1.out, HR2.out, Lv.refl _ _⟩
  clear HC HSt HR1 HR2 NW B13
  have k0 : w6.cell? ⟨b2, 0, none⟩ = some (.int .i64 0) := HF.out.hs.cell 0 rfl
  have kop : w6.cell? ⟨b5, 0, none⟩ = some (.int .i64 op) := HI.out.cell 0 rfl
  have hz : b5 < w6.heap.size := HI.out.lt
  go_upto_region 5 with (fail)
  go_region_with (first
    | (go_at_call 104; refine (tables_any _).mono ?_; rintro e w' ⟨rfl, rfl⟩)
    | (go_at_call 105; refine (class_any _ _).mono ?_; rw [HK.out]; rintro e w' ⟨rfl, rfl⟩))
  all_goals
    clear kop hz k0 HI
    have hg : w6.grownBy ((w6.alloc (.cells #[] 171)).alloc (.cells #[] 171)).drew none := grown_drew (grown_alloc (grown_alloc (grown_refl _ _) _) _)
    replace HF := hid (HF.out.kept hg)
    replace HV := hid (HV.out.kept0 hg)
    replace HM := hid (HM.out.kept0 hg)
    replace HG := hid (grown_trans HG.out hg)
    clear hg
    generalize ((w6.alloc (.cells #[] 171)).alloc (.cells #[] 171)).drew = w7 at HF HM HV HG ⊢
    have k0 : w7.cell? ⟨b2, 0, none⟩ = some (.int .i64 0) := HF.out.hs.cell 0 rfl
    have kf := fun k => HF.out.hs.free k
    have HF2 := hid (HF.out.sCa HO.out 6)
    go_upto_region 13 with (fail)
    refine region_ret2 HF2.out HO.out rfl (sp_one _ _ _ _ _ _ _ _) rfl rfl rfl rfl rfl rfl rfl rfl rfl rfl rfl rfl rfl (by kernel_rfl) (by kernel_rfl) (by kernel_rfl) (by kernel_rfl) rfl Tryz.underlying138 (by kernel_rfl) rfl rfl rfl rfl rfl rfl (fun _ _ _ h => h) (fun _ _ _ h => h) ?_
    intro w9 hE
    have HE := hid hE
    clear hE
    go_wp2
    refine bodyPost_ret (HE.out.results Tryz.results72 _ rfl rfl rfl rfl Tryz.underlying39 Tryz.underlying138 (cpu_size_info HE.out.r1.len) (by kernel_rfl)) rfl ?_
    exact ⟨rfl, Lv.after HG.out HE.out.lv HB.out⟩
set_option maxRecDepth 100000 in
set_option maxHeartbeats 4000000 in
theorem once_inn (h : MemAt W m bm n cap xs) (hu : U32s xs) (hl : Regs l) (p0 : 0 ≤ pc) (p1 : pc < 4294967296) (root : Int) (user : Bool) (hs : fetchP xs n root pc user = ⟨0, 0, op, a, b, c, im, ln⟩) (hk : clsI op = 1) (hi : insB op a b c im = true) (i0 : 0 ≤ im) (i1 : im < 4294967296) (y : Cp) (ca ad op' a' b' c' im' ln' : Int) (ms : List Int) (hY : y.l.length = 16) (hm : innP xs n root ⟨l, pc, ie, eie, epc, tv, cc, cd⟩ user op a b c im ln = ⟨y, ⟨ca, ad, op', a', b', c', im', ln'⟩, ms⟩) :
    Calls Tryz.prog 72 #[.pointer (some ⟨m, 0, none⟩), .int .i64 root, .agg (cpuC ⟨l, pc, ie, eie, epc, tv, cc, cd⟩), .bool user] W (OutAt W m bm n cap y ca ad op' a' b' c' im' ln' ms) := by
  have HK := hid hk
  have HIn := hid hi
  have HYl := hid hY
  have HMv := hid hm
  clear hk hi hY hm
  have Hz := zero_cpu
  have Hz2 := zero_stop
  have Hz3 := zero_ins
  have Hz4 := zero_view
  obtain ⟨b1, b3, b4, e1, e3, e4⟩ : ∃ b1 b3 b4, b1 = W.heap.size ∧ b3 = b1 + 1 ∧ b4 = b3 + 1 := ⟨_, _, _, rfl, rfl, rfl⟩
  have B13 : Hid (b1 ≠ b3 ∧ b1 ≠ b4 ∧ b3 ≠ b4 ∧ W.heap.size ≤ b1 ∧ W.heap.size ≤ b3 ∧ W.heap.size ≤ b4) := hid (by omega)
  have HC : Hid (CpuAt (((W.alloc (.cells (cpuC ⟨l, pc, ie, eie, epc, tv, cc, cd⟩) 39)).alloc (.cells (cpuC zeroP) 39)).alloc (.cells (spC 0 0 0 0 0 0 0 0) 138)) b1 ⟨l, pc, ie, eie, epc, tv, cc, cd⟩) := hid (by rw [e1]; exact ((CpuAt.new _ hl.len).alloc _).alloc _)
  have HR1 : Hid (CpuAt (((W.alloc (.cells (cpuC ⟨l, pc, ie, eie, epc, tv, cc, cd⟩) 39)).alloc (.cells (cpuC zeroP) 39)).alloc (.cells (spC 0 0 0 0 0 0 0 0) 138)) b3 zeroP) := hid (by rw [e3, e1]; exact (CpuAt.new2 _ _ rfl).alloc _)
  have HR2 : Hid (RwAt (((W.alloc (.cells (cpuC ⟨l, pc, ie, eie, epc, tv, cc, cd⟩) 39)).alloc (.cells (cpuC zeroP) 39)).alloc (.cells (spC 0 0 0 0 0 0 0 0) 138)) b4 138 (spC 0 0 0 0 0 0 0 0)) := hid (by
    rw [e4, e3, e1]
    have := RwAt.new2 (W.alloc (.cells (cpuC ⟨l, pc, ie, eie, epc, tv, cc, cd⟩) 39)) (.cells (cpuC zeroP) 39) 138 (spC 0 0 0 0 0 0 0 0)
    simp only [World.size_alloc] at this
    exact this)
  have HG : Hid (W.grownBy (((W.alloc (.cells (cpuC ⟨l, pc, ie, eie, epc, tv, cc, cd⟩) 39)).alloc (.cells (cpuC zeroP) 39)).alloc (.cells (spC 0 0 0 0 0 0 0 0) 138)) none) := hid (grown_alloc (grown_alloc (grown_alloc (grown_refl _ _) _) _) _)
  have HM := hid (h.kept0 HG.out)
  have Hm := hid h.mlt
  have Hbm := hid h.blt
  have HL := hid hl
  have Hu := hid hu
  have HS := hid hs
  clear h hl hu hs
  go_enter Tryz.func72, Tryz.ntmps72
  go_upto_region 1 with (fail)
  generalize (((W.alloc (.cells (cpuC ⟨l, pc, ie, eie, epc, tv, cc, cd⟩) 39)).alloc (.cells (cpuC zeroP) 39)).alloc (.cells (spC 0 0 0 0 0 0 0 0) 138)) = w3 at HC HR1 HR2 HM HG ⊢
  rw [← e1, ← e3, ← e4]
  clear e1 e3 e4
  have hg : w3.grownBy ((w3.alloc (.cells zeroView 168)).setRow w3.heap.size #[.pointer (some ⟨m, 0, none⟩), .int .i64 root, .bool user]) none := grown_setRow (grown_alloc (grown_refl _ _) _) (Nat.le_refl _) _
  have HV := hid ((RwAt.new w3 168 zeroView).row #[.pointer (some ⟨m, 0, none⟩), .int .i64 root, .bool user])
  replace HC := hid (HC.out.kept0 hg)
  replace HR1 := hid (HR1.out.kept0 hg)
  replace HR2 := hid (HR2.out.kept0 hg)
  replace HM := hid (HM.out.kept0 hg)
  replace HG := hid (grown_trans HG.out hg)
  clear hg
  go_upto_region 2 with (first
    | (refine wpList_build_view rfl _ _ _ rfl rfl rfl rfl ?_)
    | (refine wpList_store_rw rfl 168 _ _ rfl rfl rfl (RwAt.new _ _ _) (by kernel_rfl) rfl (view_one _ _ _) ?_)
    | fail)
  generalize ((w3.alloc (.cells zeroView 168)).setRow w3.heap.size #[.pointer (some ⟨m, 0, none⟩), .int .i64 root, .bool user]) = w4 at HC HR1 HR2 HM HG HV ⊢
  generalize w3.heap.size = b0 at HV ⊢
  have kp := HC.out.pc
  go_wp2_with (first
    | (refine wpList_load_rw rfl 168 _ rfl rfl HV.out rfl Tryz.underlying168 (by kernel_rfl) ?_)
    | fail)
  refine (fetch_of HM.out Hu.out root pc p0 p1 user 0 0 op a b c im ln HS.out).mono ?_; rintro e w5 ⟨rfl, hg⟩
  clear kp
  replace HC := hid (HC.out.kept0 hg)
  replace HR1 := hid (HR1.out.kept0 hg)
  replace HR2 := hid (HR2.out.kept0 hg)
  replace HM := hid (HM.out.kept0 hg)
  replace HV := hid (HV.out.kept0 hg)
  replace HG := hid (grown_trans HG.out hg)
  clear hg
  have hg : w5.grownBy ((((w5.alloc (.cells (inC 0 0 0 0 0) 112)).alloc (.cells (spC 0 0 0 0 0 0 0 0) 138)).setRow w5.heap.size (inC op a b c im)).setRow (w5.heap.size + 1) (spC 0 0 op a b c im ln)) none := grown_setRow (grown_setRow (grown_alloc (grown_alloc (grown_refl _ _) _) _) (Nat.le_refl _) _) (Nat.le_succ _) _
  have HI := hid ((((RwAt.new w5 112 (inC 0 0 0 0 0)).alloc (.cells (spC 0 0 0 0 0 0 0 0) 138)).row (inC op a b c im)).rowOther (w5.heap.size + 1) (spC 0 0 op a b c im ln) (by omega))
  have HSt := hid (((RwAt.new2 w5 (.cells (inC 0 0 0 0 0) 112) 138 (spC 0 0 0 0 0 0 0 0)).rowOther w5.heap.size (inC op a b c im) (by omega)).row (spC 0 0 op a b c im ln))
  have NW : Hid (b1 < w5.heap.size ∧ b3 < w5.heap.size ∧ b4 < w5.heap.size ∧ W.heap.size ≤ w5.heap.size ∧ b0 < w5.heap.size) := hid ⟨HC.out.lt, HR1.out.lt, HR2.out.lt, HG.out.size, HV.out.lt⟩
  replace HC := hid (HC.out.kept0 hg)
  replace HR1 := hid (HR1.out.kept0 hg)
  replace HR2 := hid (HR2.out.kept0 hg)
  replace HM := hid (HM.out.kept0 hg)
  replace HV := hid (HV.out.kept0 hg)
  replace HG := hid (grown_trans HG.out hg)
  clear hg
  go_upto_region 3 with (first
    | (refine wpList_store_rw rfl 112 _ _ rfl rfl rfl ((RwAt.new _ _ _).alloc _) (by kernel_rfl) rfl (in_one _ _ _ _ _) ?_)
    | (refine wpList_store_rw rfl 138 _ _ rfl rfl rfl ((RwAt.new2 _ _ _ _).rowOther _ _ (by omega)) (by kernel_rfl) rfl (sp_one _ _ _ _ _ _ _ _) ?_)
    | fail)
  generalize ((((w5.alloc (.cells (inC 0 0 0 0 0) 112)).alloc (.cells (spC 0 0 0 0 0 0 0 0) 138)).setRow w5.heap.size (inC op a b c im)).setRow (w5.heap.size + 1) (spC 0 0 op a b c im ln)) = w6 at HC HR1 HR2 HM HG HV HI HSt ⊢
  obtain ⟨b2, e2⟩ : ∃ b2, b2 = w5.heap.size + 1 := ⟨_, rfl⟩
  have HO : Hid (Ord4 b1 b2 b3 b4) := hid (by unfold Ord4; have := NW.out; have := B13.out; omega)
  have HB : Hid (∀ i ∈ [b1, b2, b3, b4], W.heap.size ≤ i) := hid (by have := NW.out; have := B13.out; simp only [List.mem_cons, List.not_mem_nil, or_false]; omega)
  have N5 : Hid (w5.heap.size ≠ b2) := hid (by omega)
  rw [← e2] at HSt ⊢
  clear e2
  generalize w5.heap.size = b5 at HI N5 ⊢
  have HF : Hid (FAt w6 138 b1 b2 b3 b4 ⟨l, pc, ie, eie, epc, tv, cc, cd⟩ (spC 0 0 op a b c im ln) w6) := hid ⟨HC.out, HSt.out, HR1.out, HR2.out, Lv.refl _ _⟩
  clear HC HSt HR1 HR2 NW B13
  have k0 : w6.cell? ⟨b2, 0, none⟩ = some (.int .i64 0) := HF.out.hs.cell 0 rfl
  have kop : w6.cell? ⟨b5, 0, none⟩ = some (.int .i64 op) := HI.out.cell 0 rfl
  have hz : b5 < w6.heap.size := HI.out.lt
  go_upto_region 5 with (fail)
  go_region_with (first
    | (go_at_call 104; refine (tables_any _).mono ?_; rintro e w' ⟨rfl, rfl⟩)
    | (go_at_call 105; refine (class_any _ _).mono ?_; rw [HK.out]; rintro e w' ⟨rfl, rfl⟩))
  all_goals
    clear kop hz k0 HI
    have hg : w6.grownBy ((w6.alloc (.cells #[] 171)).alloc (.cells #[] 171)).drew none := grown_drew (grown_alloc (grown_alloc (grown_refl _ _) _) _)
    replace HF := hid (HF.out.kept hg)
    replace HV := hid (HV.out.kept0 hg)
    replace HM := hid (HM.out.kept0 hg)
    replace HG := hid (grown_trans HG.out hg)
    clear hg
    generalize ((w6.alloc (.cells #[] 171)).alloc (.cells #[] 171)).drew = w7 at HF HM HV HG ⊢
    go_wp2_with (first
      | (refine wpList_load_rw rfl 168 _ rfl rfl HV.out rfl Tryz.underlying168 (by kernel_rfl) ?_)
      | (refine wpList_load_cpu rfl _ rfl rfl HF.out.hc ?_)
      | (refine wpList_load_rw rfl 138 _ rfl rfl HF.out.hs rfl Tryz.underlying138 (by kernel_rfl) ?_)
      | fail)
    refine (inn_of HM.out Hu.out HL.out root user HIn.out i0 i1 y ca ad op' a' b' c' im' ln' ms HMv.out).mono ?_; rintro e w8 ⟨rfl, hM2, hg⟩
    have HM2 := hid hM2
    have NR : Hid (∀ i ∈ [b1, b2, b3, b4], i ≠ bm ∧ i ≠ m) := hid (fun i hi => by have := HB.out i hi; have := Hm.out; have := Hbm.out; omega)
    have HF2 := hid (HF.out.aside hg (NR.out b1 (by simp)).1 (NR.out b2 (by simp)).1 (NR.out b3 (by simp)).1 (NR.out b4 (by simp)).1)
    have HGR := hid (grown_trans (grown_none (r := some bm) HG.out) hg)
    clear hM2 hg HM HF
    have HE := hid (HF2.out.ends (y := y) (u := spC ca ad op' a' b' c' im' ln') HO.out HYl.out)
    go_wp2_with (first
      | (refine wpList_store_cpu rfl _ _ rfl rfl rfl HF2.out.r1 HYl.out ?_)
      | (refine wpList_store_rw rfl 138 _ _ rfl rfl rfl (HF2.out.r2.rowOther _ _ HO.out.2.2.2.2.2.symm) (by kernel_rfl) rfl (sp_one _ _ _ _ _ _ _ _) ?_)
      | fail)
    refine bodyPost_ret (HE.out.results Tryz.results72 _ rfl rfl rfl rfl Tryz.underlying39 Tryz.underlying138 (cpu_size_info HE.out.r1.len) (by kernel_rfl)) rfl ?_
    exact ⟨rfl, HM2.out.keptL HE.out.lv (fun hi => (NR.out m hi).2 rfl) (fun hi => (NR.out bm hi).1 rfl), Lv.afterR HGR.out HE.out.lv HB.out⟩
set_option maxRecDepth 100000 in
set_option maxHeartbeats 4000000 in
theorem once_sil (h : MemAt W m bm n cap xs) (hu : U32s xs) (hl : Regs l) (p0 : 0 ≤ pc) (p1 : pc < 4294967296) (root : Int) (user : Bool) (hs : fetchP xs n root pc user = ⟨0, 0, op, a, b, c, im, ln⟩) (hk : clsI op = 3) (y : Cp) (v : Int) (hY : y.l.length = 16) (hsil : ∀ w : World, Calls Tryz.prog 107 #[.agg (cpuC ⟨l, pc, ie, eie, epc, tv, cc, cd⟩), .agg (spC 0 0 op a b c im ln), .bool user] w fun e w' => e = .returned (.tuple #[.agg (cpuC y), .agg (spC v 0 op a b c im ln)]) ∧ w.grownBy w' none) :
    Calls Tryz.prog 72 #[.pointer (some ⟨m, 0, none⟩), .int .i64 root, .agg (cpuC ⟨l, pc, ie, eie, epc, tv, cc, cd⟩), .bool user] W fun e w' => e = .returned (.tuple #[.agg (cpuC y), .agg (spC v 0 op a b c im ln)]) ∧ W.grownBy w' none := by
  have HK := hid hk
  have HYl := hid hY
  have HSil := hid hsil
  clear hk hY hsil
  have Hz := zero_cpu
  have Hz2 := zero_stop
  have Hz3 := zero_ins
  have Hz4 := zero_view
  obtain ⟨b1, b3, b4, e1, e3, e4⟩ : ∃ b1 b3 b4, b1 = W.heap.size ∧ b3 = b1 + 1 ∧ b4 = b3 + 1 := ⟨_, _, _, rfl, rfl, rfl⟩
  have B13 : Hid (b1 ≠ b3 ∧ b1 ≠ b4 ∧ b3 ≠ b4 ∧ W.heap.size ≤ b1 ∧ W.heap.size ≤ b3 ∧ W.heap.size ≤ b4) := hid (by omega)
  have HC : Hid (CpuAt (((W.alloc (.cells (cpuC ⟨l, pc, ie, eie, epc, tv, cc, cd⟩) 39)).alloc (.cells (cpuC zeroP) 39)).alloc (.cells (spC 0 0 0 0 0 0 0 0) 138)) b1 ⟨l, pc, ie, eie, epc, tv, cc, cd⟩) := hid (by rw [e1]; exact ((CpuAt.new _ hl.len).alloc _).alloc _)
  have HR1 : Hid (CpuAt (((W.alloc (.cells (cpuC ⟨l, pc, ie, eie, epc, tv, cc, cd⟩) 39)).alloc (.cells (cpuC zeroP) 39)).alloc (.cells (spC 0 0 0 0 0 0 0 0) 138)) b3 zeroP) := hid (by rw [e3, e1]; exact (CpuAt.new2 _ _ rfl).alloc _)
  have HR2 : Hid (RwAt (((W.alloc (.cells (cpuC ⟨l, pc, ie, eie, epc, tv, cc, cd⟩) 39)).alloc (.cells (cpuC zeroP) 39)).alloc (.cells (spC 0 0 0 0 0 0 0 0) 138)) b4 138 (spC 0 0 0 0 0 0 0 0)) := hid (by
    rw [e4, e3, e1]
    have := RwAt.new2 (W.alloc (.cells (cpuC ⟨l, pc, ie, eie, epc, tv, cc, cd⟩) 39)) (.cells (cpuC zeroP) 39) 138 (spC 0 0 0 0 0 0 0 0)
    simp only [World.size_alloc] at this
    exact this)
  have HG : Hid (W.grownBy (((W.alloc (.cells (cpuC ⟨l, pc, ie, eie, epc, tv, cc, cd⟩) 39)).alloc (.cells (cpuC zeroP) 39)).alloc (.cells (spC 0 0 0 0 0 0 0 0) 138)) none) := hid (grown_alloc (grown_alloc (grown_alloc (grown_refl _ _) _) _) _)
  have HM := hid (h.kept0 HG.out)
  have Hm := hid h.mlt
  have Hbm := hid h.blt
  have HL := hid hl
  have Hu := hid hu
  have HS := hid hs
  clear h hl hu hs
  go_enter Tryz.func72, Tryz.ntmps72
  go_upto_region 1 with (fail)
  generalize (((W.alloc (.cells (cpuC ⟨l, pc, ie, eie, epc, tv, cc, cd⟩) 39)).alloc (.cells (cpuC zeroP) 39)).alloc (.cells (spC 0 0 0 0 0 0 0 0) 138)) = w3 at HC HR1 HR2 HM HG ⊢
  rw [← e1, ← e3, ← e4]
  clear e1 e3 e4
  have hg : w3.grownBy ((w3.alloc (.cells zeroView 168)).setRow w3.heap.size #[.pointer (some ⟨m, 0, none⟩), .int .i64 root, .bool user]) none := grown_setRow (grown_alloc (grown_refl _ _) _) (Nat.le_refl _) _
  have HV := hid ((RwAt.new w3 168 zeroView).row #[.pointer (some ⟨m, 0, none⟩), .int .i64 root, .bool user])
  replace HC := hid (HC.out.kept0 hg)
  replace HR1 := hid (HR1.out.kept0 hg)
  replace HR2 := hid (HR2.out.kept0 hg)
  replace HM := hid (HM.out.kept0 hg)
  replace HG := hid (grown_trans HG.out hg)
  clear hg
  go_upto_region 2 with (first
    | (refine wpList_build_view rfl _ _ _ rfl rfl rfl rfl ?_)
    | (refine wpList_store_rw rfl 168 _ _ rfl rfl rfl (RwAt.new _ _ _) (by kernel_rfl) rfl (view_one _ _ _) ?_)
    | fail)
  generalize ((w3.alloc (.cells zeroView 168)).setRow w3.heap.size #[.pointer (some ⟨m, 0, none⟩), .int .i64 root, .bool user]) = w4 at HC HR1 HR2 HM HG HV ⊢
  generalize w3.heap.size = b0 at HV ⊢
  have kp := HC.out.pc
  go_wp2_with (first
    | (refine wpList_load_rw rfl 168 _ rfl rfl HV.out rfl Tryz.underlying168 (by kernel_rfl) ?_)
    | fail)
  refine (fetch_of HM.out Hu.out root pc p0 p1 user 0 0 op a b c im ln HS.out).mono ?_; rintro e w5 ⟨rfl, hg⟩
  clear kp
  replace HC := hid (HC.out.kept0 hg)
  replace HR1 := hid (HR1.out.kept0 hg)
  replace HR2 := hid (HR2.out.kept0 hg)
  replace HM := hid (HM.out.kept0 hg)
  replace HV := hid (HV.out.kept0 hg)
  replace HG := hid (grown_trans HG.out hg)
  clear hg
  have hg : w5.grownBy ((((w5.alloc (.cells (inC 0 0 0 0 0) 112)).alloc (.cells (spC 0 0 0 0 0 0 0 0) 138)).setRow w5.heap.size (inC op a b c im)).setRow (w5.heap.size + 1) (spC 0 0 op a b c im ln)) none := grown_setRow (grown_setRow (grown_alloc (grown_alloc (grown_refl _ _) _) _) (Nat.le_refl _) _) (Nat.le_succ _) _
  have HI := hid ((((RwAt.new w5 112 (inC 0 0 0 0 0)).alloc (.cells (spC 0 0 0 0 0 0 0 0) 138)).row (inC op a b c im)).rowOther (w5.heap.size + 1) (spC 0 0 op a b c im ln) (by omega))
  have HSt := hid (((RwAt.new2 w5 (.cells (inC 0 0 0 0 0) 112) 138 (spC 0 0 0 0 0 0 0 0)).rowOther w5.heap.size (inC op a b c im) (by omega)).row (spC 0 0 op a b c im ln))
  have NW : Hid (b1 < w5.heap.size ∧ b3 < w5.heap.size ∧ b4 < w5.heap.size ∧ W.heap.size ≤ w5.heap.size ∧ b0 < w5.heap.size) := hid ⟨HC.out.lt, HR1.out.lt, HR2.out.lt, HG.out.size, HV.out.lt⟩
  replace HC := hid (HC.out.kept0 hg)
  replace HR1 := hid (HR1.out.kept0 hg)
  replace HR2 := hid (HR2.out.kept0 hg)
  replace HM := hid (HM.out.kept0 hg)
  replace HV := hid (HV.out.kept0 hg)
  replace HG := hid (grown_trans HG.out hg)
  clear hg
  go_upto_region 3 with (first
    | (refine wpList_store_rw rfl 112 _ _ rfl rfl rfl ((RwAt.new _ _ _).alloc _) (by kernel_rfl) rfl (in_one _ _ _ _ _) ?_)
    | (refine wpList_store_rw rfl 138 _ _ rfl rfl rfl ((RwAt.new2 _ _ _ _).rowOther _ _ (by omega)) (by kernel_rfl) rfl (sp_one _ _ _ _ _ _ _ _) ?_)
    | fail)
  generalize ((((w5.alloc (.cells (inC 0 0 0 0 0) 112)).alloc (.cells (spC 0 0 0 0 0 0 0 0) 138)).setRow w5.heap.size (inC op a b c im)).setRow (w5.heap.size + 1) (spC 0 0 op a b c im ln)) = w6 at HC HR1 HR2 HM HG HV HI HSt ⊢
  obtain ⟨b2, e2⟩ : ∃ b2, b2 = w5.heap.size + 1 := ⟨_, rfl⟩
  have HO : Hid (Ord4 b1 b2 b3 b4) := hid (by unfold Ord4; have := NW.out; have := B13.out; omega)
  have HB : Hid (∀ i ∈ [b1, b2, b3, b4], W.heap.size ≤ i) := hid (by have := NW.out; have := B13.out; simp only [List.mem_cons, List.not_mem_nil, or_false]; omega)
  have N5 : Hid (w5.heap.size ≠ b2) := hid (by omega)
  rw [← e2] at HSt ⊢
  clear e2
  generalize w5.heap.size = b5 at HI N5 ⊢
  have HF : Hid (FAt w6 138 b1 b2 b3 b4 ⟨l, pc, ie, eie, epc, tv, cc, cd⟩ (spC 0 0 op a b c im ln) w6) := hid ⟨HC.out, HSt.out, HR1.out, HR2.out, Lv.refl _ _⟩
  clear HC HSt HR1 HR2 NW B13
  have k0 : w6.cell? ⟨b2, 0, none⟩ = some (.int .i64 0) := HF.out.hs.cell 0 rfl
  have kop : w6.cell? ⟨b5, 0, none⟩ = some (.int .i64 op) := HI.out.cell 0 rfl
  have hz : b5 < w6.heap.size := HI.out.lt
  go_upto_region 5 with (fail)
  go_region_with (first
    | (go_at_call 104; refine (tables_any _).mono ?_; rintro e w' ⟨rfl, rfl⟩)
    | (go_at_call 105; refine (class_any _ _).mono ?_; rw [HK.out]; rintro e w' ⟨rfl, rfl⟩))
  all_goals
    clear kop hz k0 HI
    have hg : w6.grownBy ((w6.alloc (.cells #[] 171)).alloc (.cells #[] 171)).drew none := grown_drew (grown_alloc (grown_alloc (grown_refl _ _) _) _)
    replace HF := hid (HF.out.kept hg)
    replace HV := hid (HV.out.kept0 hg)
    replace HM := hid (HM.out.kept0 hg)
    replace HG := hid (grown_trans HG.out hg)
    clear hg
    generalize ((w6.alloc (.cells #[] 171)).alloc (.cells #[] 171)).drew = w7 at HF HM HV HG ⊢
    go_wp2_with (first
      | (refine wpList_load_rw rfl 168 _ rfl rfl HV.out rfl Tryz.underlying168 (by kernel_rfl) ?_)
      | (refine wpList_load_cpu rfl _ rfl rfl HF.out.hc ?_)
      | (refine wpList_load_rw rfl 138 _ rfl rfl HF.out.hs rfl Tryz.underlying138 (by kernel_rfl) ?_)
      | fail)
    refine (HSil.out _).mono ?_; rintro e w8 ⟨rfl, hg⟩
    have HF2 := hid (HF.out.kept hg)
    have HGR := hid (grown_trans HG.out hg)
    clear hg HM HF
    have HE := hid (HF2.out.ends (y := y) (u := spC v 0 op a b c im ln) HO.out HYl.out)
    go_wp2_with (first
      | (refine wpList_store_cpu rfl _ _ rfl rfl rfl HF2.out.r1 HYl.out ?_)
      | (refine wpList_store_rw rfl 138 _ _ rfl rfl rfl (HF2.out.r2.rowOther _ _ HO.out.2.2.2.2.2.symm) (by kernel_rfl) rfl (sp_one _ _ _ _ _ _ _ _) ?_)
      | fail)
    refine bodyPost_ret (HE.out.results Tryz.results72 _ rfl rfl rfl rfl Tryz.underlying39 Tryz.underlying138 (cpu_size_info HE.out.r1.len) (by kernel_rfl)) rfl ?_
    exact ⟨rfl, Lv.after HGR.out HE.out.lv HB.out⟩
end
end Go.Proofs.YtkkbhifplbleiaaGreatDoor
