/- core's move as a function; core's innocuous: contracts. (Made by a program.) -/
import Derived.Test.YtkkbhifplbleiaaGreatDoorZCore7
import Derived.Test.YtkkbhifplbleiaaGreatDoorZGAluB
import Derived.Deep.RegionHeld
namespace Go.Proofs.YtkkbhifplbleiaaGreatDoor
open Go.RowKit
theorem ins_ldst {op a b c im : Int} (h : insB op a b c im = true) (ho : op = 12 ∨ op = 13) : (0 ≤ a ∧ a < 16) ∧ (0 ≤ b ∧ b < 16) ∧ 0 ≤ c ∧ c ≤ 255 := by
  obtain ⟨_, h1, h2, h3, _⟩ := ins_parts h
  rcases ho with rfl | rfl
  all_goals
    have e1 : hasA 12 = 1 := by decide
    have e2 : hasB 12 = 1 := by decide
    have e3 : hasC 12 = 2 := by decide
    have e4 : hasA 13 = 1 := by decide
    have e5 : hasB 13 = 1 := by decide
    have e6 : hasC 13 = 2 := by decide
    simp only [e1, e2, e3, e4, e5, e6, alwB, if_true, Int.reduceEq, if_false, decide_eq_true_eq] at h1 h2 h3
    omega
theorem ins_jr {a b c im : Int} (h : insB 23 a b c im = true) : 0 ≤ a ∧ a < 16 := by
  obtain ⟨_, h1, _⟩ := ins_parts h
  have e1 : hasA 23 = 1 := by decide
  simp only [e1, alwB, if_true, decide_eq_true_eq] at h1
  exact h1
theorem ins_gst {a b c im : Int} (h : insB 66 a b c im = true) : 0 ≤ a ∧ a < 16 := by
  obtain ⟨_, h1, _⟩ := ins_parts h
  have e1 : hasA 66 = 1 := by decide
  simp only [e1, alwB, if_true, decide_eq_true_eq] at h1
  exact h1
theorem setMany_all {l L : List Int} (hl : l.length = 16) (hL : L.length = 16) : setMany l 0 L = L := by
  apply List.ext_getElem?
  intro k
  rw [setMany_get L l 0 k (by omega)]
  by_cases hk : k < 16
  · rw [if_pos ⟨Nat.zero_le _, by omega⟩, Nat.sub_zero]
  · rw [if_neg (by omega), List.getElem?_eq_none (by omega), List.getElem?_eq_none (by omega)]
section
variable {V : World} {t : TypeId} {b1 b2 b3 b4 : Nat} {pc : Int} {ie eie : Bool} {epc tv ca ad : Int} {s : Array Value}
theorem FAt.sMany (o4 : Ord4 b1 b2 b3 b4) : ∀ (vs : List Int) (o : Nat) (l : List Int) (w : World), FAt V t b1 b2 b3 b4 ⟨l, pc, ie, eie, epc, tv, ca, ad⟩ s w → o + vs.length ≤ 16 →
    FAt V t b1 b2 b3 b4 ⟨setMany l o vs, pc, ie, eie, epc, tv, ca, ad⟩ s (w.setCells b1 o (vs.map (Value.int .u32)))
  | [], _, _, _, h, _ => h
  | x :: r, o, l, w, h, hl => by
    simp only [List.length_cons] at hl
    exact FAt.sMany o4 r (o + 1) _ _ (h.sReg o4 o (by omega) x) (by omega)
theorem FAt.sRegs {l L : List Int} {w : World} (h : FAt V t b1 b2 b3 b4 ⟨l, pc, ie, eie, epc, tv, ca, ad⟩ s w) (o4 : Ord4 b1 b2 b3 b4) (hL : L.length = 16) :
    FAt V t b1 b2 b3 b4 ⟨L, pc, ie, eie, epc, tv, ca, ad⟩ s (w.setCells b1 0 (wA L).toList) := by
  have := FAt.sMany o4 L 0 l w h (by omega)
  rw [setMany_all h.hc.len hL] at this
  exact this
end
theorem CpuAt.there {w : World} {B : Nat} {x : Cp} (h : CpuAt w B x) : w.there B 0 16 := fun j hj => by
  refine ⟨?_, h.free _⟩
  rw [Nat.zero_add, h.regc (List.getElem?_eq_getElem (by rw [h.len]; exact hj))]
  rfl
section
variable {m bm n cap : Nat} {xs : List Int} {l : List Int} {pc : Int} {ie eie : Bool} {epc tv cc cd im ln c : Int} {W : World}
/-- what is answered, and memory then -/
def OutAt (W : World) (m bm n cap : Nat) (y : Cp) (ca ad op a b c im ln : Int) (ms : List Int) (e : Ending) (w' : World) : Prop :=
  e = .returned (.tuple #[.agg (cpuC y), .agg (spC ca ad op a b c im ln)]) ∧ MemAt w' m bm n cap ms ∧ W.grownBy w' (some bm)
theorem move_of (h : MemAt W m bm n cap xs) (hu : U32s xs) (hl : Regs l) (root : Int) (user : Bool) {op a b : Int} (hi : insB op a b c im = true) (ho : op = 12 ∨ op = 13) (y : Cp) (ca ad op' a' b' c' im' ln' : Int) (ms : List Int)
    (hm : moveP xs n root ⟨l, pc, ie, eie, epc, tv, cc, cd⟩ user op a b c im ln = ⟨y, ⟨ca, ad, op', a', b', c', im', ln'⟩, ms⟩) :
    Calls Tryz.prog 124 #[.agg #[.pointer (some ⟨m, 0, none⟩), .int .i64 root, .bool user], .agg (cpuC ⟨l, pc, ie, eie, epc, tv, cc, cd⟩), .agg (spC 0 0 op a b c im ln)] W (OutAt W m bm n cap y ca ad op' a' b' c' im' ln' ms) := by
  obtain ⟨⟨a0, a1⟩, ⟨b0, b1⟩, c0, c1⟩ := ins_ldst hi ho
  obtain ⟨ka, rfl⟩ := Int.eq_ofNat_of_zero_le a0
  obtain ⟨kb, rfl⟩ := Int.eq_ofNat_of_zero_le b0
  have keepM : ∀ w', W.grownBy w' none → MemAt w' m bm n cap xs ∧ W.grownBy w' (some bm) := fun w' g => ⟨h.kept0 g, grown_none g⟩
  unfold moveP at hm
  rcases ho with rfl | rfl
  · have e13 : ((12 : Int) == 13) = false := by decide
    rw [e13] at hm
    cases hp : atB xs n root (addrI ⟨l, pc, ie, eie, epc, tv, cc, cd⟩ kb c) false user
    · rw [if_neg (by simp [hp])] at hm
      injection hm with q1 q2 q3
      injection q2 with e1 e2 e3 e4 e5 e6 e7 e8
      subst q1 q3 e1 e2 e3 e4 e5 e6 e7 e8
      exact (move_no12 h hu hl root user ka kb (by omega) (by omega) c0 c1 _ rfl hp).mono fun e w' ⟨he, hg⟩ => ⟨he, keepM w' hg⟩
    · rw [if_pos hp, if_neg (by decide)] at hm
      injection hm with q1 q2 q3
      injection q2 with e1 e2 e3 e4 e5 e6 e7 e8
      subst q1 q3 e1 e2 e3 e4 e5 e6 e7 e8
      exact (move_ld h hu hl root user ka kb (by omega) (by omega) c0 c1 _ rfl hp _ rfl).mono fun e w' ⟨he, hg⟩ => ⟨he, keepM w' hg⟩
  · have e13 : ((13 : Int) == 13) = true := by decide
    rw [e13] at hm
    cases hp : atB xs n root (addrI ⟨l, pc, ie, eie, epc, tv, cc, cd⟩ kb c) true user
    · rw [if_neg (by simp [hp])] at hm
      injection hm with q1 q2 q3
      injection q2 with e1 e2 e3 e4 e5 e6 e7 e8
      subst q1 q3 e1 e2 e3 e4 e5 e6 e7 e8
      exact (move_no13 h hu hl root user ka kb (by omega) (by omega) c0 c1 _ rfl hp).mono fun e w' ⟨he, hg⟩ => ⟨he, keepM w' hg⟩
    · obtain ⟨k, hk, hk2⟩ := at_in hp
      rw [if_pos hp, if_pos rfl, hk, Int.toNat_natCast] at hm
      injection hm with q1 q2 q3
      injection q2 with e1 e2 e3 e4 e5 e6 e7 e8
      subst q1 q3 e1 e2 e3 e4 e5 e6 e7 e8
      exact move_st h hu hl root user ka kb (by omega) (by omega) c0 c1 _ rfl hp k hk hk2
theorem move_regs (hu : U32s xs) (hl : Regs l) {root : Int} {user : Bool} {op a b : Int} {y : Cp} {s : Sp} {ms : List Int} (hm : moveP xs n root ⟨l, pc, ie, eie, epc, tv, cc, cd⟩ user op a b c im ln = ⟨y, s, ms⟩) : Regs y.l := by
  unfold moveP at hm
  split at hm
  · split at hm
    · injection hm with q1; subst q1; exact hl
    · injection hm with q1; subst q1; exact hl.set _ (rdV_bd hu _ _ _ _).1 (rdV_bd hu _ _ _ _).2
  · injection hm with q1; subst q1; exact hl
set_option maxRecDepth 100000 in
set_option maxHeartbeats 4000000 in
theorem inn_move (h : MemAt W m bm n cap xs) (hu : U32s xs) (hl : Regs l) (root : Int) (user : Bool) {op a b : Int} (hi : insB op a b c im = true) (ho : op = 12 ∨ op = 13) (y : Cp) (ca ad op' a' b' c' im' ln' : Int) (ms : List Int) (hm : moveP xs n root ⟨l, pc, ie, eie, epc, tv, cc, cd⟩ user op a b c im ln = ⟨y, ⟨ca, ad, op', a', b', c', im', ln'⟩, ms⟩) :
    Calls Tryz.prog 106 #[.agg #[.pointer (some ⟨m, 0, none⟩), .int .i64 root, .bool user], .agg (cpuC ⟨l, pc, ie, eie, epc, tv, cc, cd⟩), .agg (spC 0 0 op a b c im ln)] W (OutAt W m bm n cap y ca ad op' a' b' c' im' ln' ms) := by
  have HI := hid hi
  have HO2 := hid ho
  have HMv := hid hm
  have HY := hid (move_regs hu hl hm)
  have Hm := hid h.mlt
  have Hbm := hid h.blt
  clear hm hi
  have Hz := zero_cpu
  have Hz2 := zero_stop
  obtain ⟨b0, b1, b2, b3, b4, e0, e1, e2, e3, e4⟩ : ∃ b0 b1 b2 b3 b4, b0 = W.heap.size ∧ b1 = b0 + 1 ∧ b2 = b1 + 1 ∧ b3 = b2 + 1 ∧ b4 = b3 + 1 := ⟨_, _, _, _, _, rfl, rfl, rfl, rfl, rfl⟩
  have HO : Hid (Ord4 b1 b2 b3 b4) := hid (by unfold Ord4; omega)
  have NV : Hid (b0 ∉ [b1, b2, b3, b4]) := hid (by simp only [List.mem_cons, List.not_mem_nil, or_false]; omega)
  have HB : Hid (∀ i ∈ [b1, b2, b3, b4], W.heap.size ≤ i) := hid (by simp only [List.mem_cons, List.not_mem_nil, or_false]; omega)
  have HF := hid (FAt.init (W.alloc (.cells #[.pointer (some ⟨m, 0, none⟩), .int .i64 root, .bool user] 168)) 138 (x := ⟨l, pc, ie, eie, epc, tv, cc, cd⟩) hl.len (spC 0 0 op a b c im ln))
  have HV : Hid (RwAt (((((W.alloc (.cells #[.pointer (some ⟨m, 0, none⟩), .int .i64 root, .bool user] 168)).alloc (.cells (cpuC ⟨l, pc, ie, eie, epc, tv, cc, cd⟩) 39)).alloc (.cells (spC 0 0 op a b c im ln) 138)).alloc (.cells (cpuC zeroP) 39)).alloc (.cells (spC 0 0 0 0 0 0 0 0) 138)) b0 168 #[.pointer (some ⟨m, 0, none⟩), .int .i64 root, .bool user]) := hid (by rw [e0]; exact ((((RwAt.new _ _ _).alloc _).alloc _).alloc _).alloc _)
  have HG : Hid (W.grownBy (((((W.alloc (.cells #[.pointer (some ⟨m, 0, none⟩), .int .i64 root, .bool user] 168)).alloc (.cells (cpuC ⟨l, pc, ie, eie, epc, tv, cc, cd⟩) 39)).alloc (.cells (spC 0 0 op a b c im ln) 138)).alloc (.cells (cpuC zeroP) 39)).alloc (.cells (spC 0 0 0 0 0 0 0 0) 138)) none) := hid (grown_alloc (grown_alloc (grown_alloc (grown_alloc (grown_alloc (grown_refl _ _) _) _) _) _) _)
  have HM := hid (h.kept0 HG.out)
  simp only [World.size_alloc] at HF
  rw [← e0, ← e1, ← e2, ← e3, ← e4] at HF
  have HL := hid hl
  have Hu := hid hu
  clear h hl hu
  clear ho
  have ho := HO2.out
  have hq : (op == 12) = true ∨ ((op == 12) = false ∧ (op == 13) = true) := by rcases ho with rfl | rfl <;> simp
  clear ho
  go_enter Tryz.func106, Tryz.ntmps106
  go_upto_region 1 with (fail)
  generalize (((((W.alloc (.cells #[.pointer (some ⟨m, 0, none⟩), .int .i64 root, .bool user] 168)).alloc (.cells (cpuC ⟨l, pc, ie, eie, epc, tv, cc, cd⟩) 39)).alloc (.cells (spC 0 0 op a b c im ln) 138)).alloc (.cells (cpuC zeroP) 39)).alloc (.cells (spC 0 0 0 0 0 0 0 0) 138)) = w4 at HF HV HM HG ⊢
  rw [← e0, ← e1, ← e2, ← e3, ← e4]
  clear e0 e1 e2 e3 e4
  have k2 : w4.cell? ⟨b2, 2, none⟩ = some (.int .i64 op) := HF.out.hs.cell 2 rfl
  have NR : Hid (∀ i ∈ [b1, b2, b3, b4], i ≠ bm ∧ i ≠ m) := hid (fun i hi => by have := HB.out i hi; have := Hm.out; have := Hbm.out; omega)
  rcases hq with hq | ⟨hq, hq2⟩
  all_goals
    go_upto_region 2 with (fail)
    clear k2
    go_wp2_with (first
      | (refine wpList_load_rw rfl 168 _ rfl rfl HV.out rfl Tryz.underlying168 (by kernel_rfl) ?_)
      | (refine wpList_load_cpu rfl _ rfl rfl HF.out.hc ?_)
      | (refine wpList_load_rw rfl 138 _ rfl rfl HF.out.hs rfl Tryz.underlying138 (by kernel_rfl) ?_)
      | fail)
    refine (move_of HM.out Hu.out HL.out root user HI.out HO2.out y ca ad op' a' b' c' im' ln' ms HMv.out).mono ?_; rintro e w8 ⟨rfl, hM2, hg⟩
    have HM2 := hid hM2
    have HF2 := hid (HF.out.aside hg (NR.out b1 (by simp)).1 (NR.out b2 (by simp)).1 (NR.out b3 (by simp)).1 (NR.out b4 (by simp)).1)
    have HGR := hid (grown_trans (grown_none (r := some bm) HG.out) hg)
    clear hM2 hg HM HF
    have HE := hid (HF2.out.ends (y := y) (u := spC ca ad op' a' b' c' im' ln') HO.out HY.out.len)
    go_wp2_with (first
      | (refine wpList_store_cpu rfl _ _ rfl rfl rfl HF2.out.r1 HY.out.len ?_)
      | (refine wpList_store_rw rfl 138 _ _ rfl rfl rfl (HF2.out.r2.rowOther _ _ HO.out.2.2.2.2.2.symm) (by kernel_rfl) rfl (sp_one _ _ _ _ _ _ _ _) ?_)
      | fail)
    refine bodyPost_ret (HE.out.results Tryz.results106 _ rfl rfl rfl rfl Tryz.underlying39 Tryz.underlying138 (cpu_size_info HE.out.r1.len) (by kernel_rfl)) rfl ?_
    exact ⟨rfl, HM2.out.keptL HE.out.lv (fun hi => (NR.out m hi).2 rfl) (fun hi => (NR.out bm hi).1 rfl), Lv.afterR HGR.out HE.out.lv HB.out⟩
set_option maxRecDepth 100000 in
set_option maxHeartbeats 4000000 in
theorem inn_alu (h : MemAt W m bm n cap xs) (hu : U32s xs) (hl : Regs l) (root : Int) (user : Bool) {op a b : Int} (_hi : insB op a b c im = true) (i0 : 0 ≤ im) (i1 : im < 4294967296) (ho1 : op ≠ 12) (ho2 : op ≠ 13) (hj : jmpB op = false) :
    Calls Tryz.prog 106 #[.agg #[.pointer (some ⟨m, 0, none⟩), .int .i64 root, .bool user], .agg (cpuC ⟨l, pc, ie, eie, epc, tv, cc, cd⟩), .agg (spC 0 0 op a b c im ln)] W fun e w' => e = .returned (.tuple #[.agg (cpuC ⟨aluL op a b c im l, (pc + ln) % 4294967296, ie, eie, epc, tv, cc, cd⟩), .agg (spC 0 0 op a b c im ln)]) ∧ W.grownBy w' none := by
  have HJ := hid hj
  have HAL := hid (aluL_regs (op := op) (a := a) (b := b) (c := c) hl i0 i1)
  obtain ⟨L, hLe⟩ : ∃ L, aluL op a b c im l = L := ⟨_, rfl⟩
  obtain ⟨B, hBe⟩ : ∃ B, aluB op a b c im = B := ⟨_, rfl⟩
  have HLe := hid hLe
  have HBe := hid hBe
  rw [hLe] at HAL ⊢
  clear hj _hi hLe hBe
  have hq1 : (op == 12) = false := by simpa using ho1
  have hq2 : (op == 13) = false := by simpa using ho2
  clear ho1 ho2
  have Hz := zero_cpu
  have Hz2 := zero_stop
  obtain ⟨b0, b1, b2, b3, b4, e0, e1, e2, e3, e4⟩ : ∃ b0 b1 b2 b3 b4, b0 = W.heap.size ∧ b1 = b0 + 1 ∧ b2 = b1 + 1 ∧ b3 = b2 + 1 ∧ b4 = b3 + 1 := ⟨_, _, _, _, _, rfl, rfl, rfl, rfl, rfl⟩
  have HO : Hid (Ord4 b1 b2 b3 b4) := hid (by unfold Ord4; omega)
  have NV : Hid (b0 ∉ [b1, b2, b3, b4]) := hid (by simp only [List.mem_cons, List.not_mem_nil, or_false]; omega)
  have HB : Hid (∀ i ∈ [b1, b2, b3, b4], W.heap.size ≤ i) := hid (by simp only [List.mem_cons, List.not_mem_nil, or_false]; omega)
  have HF := hid (FAt.init (W.alloc (.cells #[.pointer (some ⟨m, 0, none⟩), .int .i64 root, .bool user] 168)) 138 (x := ⟨l, pc, ie, eie, epc, tv, cc, cd⟩) hl.len (spC 0 0 op a b c im ln))
  have HV : Hid (RwAt (((((W.alloc (.cells #[.pointer (some ⟨m, 0, none⟩), .int .i64 root, .bool user] 168)).alloc (.cells (cpuC ⟨l, pc, ie, eie, epc, tv, cc, cd⟩) 39)).alloc (.cells (spC 0 0 op a b c im ln) 138)).alloc (.cells (cpuC zeroP) 39)).alloc (.cells (spC 0 0 0 0 0 0 0 0) 138)) b0 168 #[.pointer (some ⟨m, 0, none⟩), .int .i64 root, .bool user]) := hid (by rw [e0]; exact ((((RwAt.new _ _ _).alloc _).alloc _).alloc _).alloc _)
  have HG : Hid (W.grownBy (((((W.alloc (.cells #[.pointer (some ⟨m, 0, none⟩), .int .i64 root, .bool user] 168)).alloc (.cells (cpuC ⟨l, pc, ie, eie, epc, tv, cc, cd⟩) 39)).alloc (.cells (spC 0 0 op a b c im ln) 138)).alloc (.cells (cpuC zeroP) 39)).alloc (.cells (spC 0 0 0 0 0 0 0 0) 138)) none) := hid (grown_alloc (grown_alloc (grown_alloc (grown_alloc (grown_alloc (grown_refl _ _) _) _) _) _) _)
  have HM := hid (h.kept0 HG.out)
  simp only [World.size_alloc] at HF
  rw [← e0, ← e1, ← e2, ← e3, ← e4] at HF
  have HL := hid hl
  have Hu := hid hu
  clear h hl hu
  go_enter Tryz.func106, Tryz.ntmps106
  go_upto_region 1 with (fail)
  generalize (((((W.alloc (.cells #[.pointer (some ⟨m, 0, none⟩), .int .i64 root, .bool user] 168)).alloc (.cells (cpuC ⟨l, pc, ie, eie, epc, tv, cc, cd⟩) 39)).alloc (.cells (spC 0 0 op a b c im ln) 138)).alloc (.cells (cpuC zeroP) 39)).alloc (.cells (spC 0 0 0 0 0 0 0 0) 138)) = w4 at HF HV HM HG ⊢
  rw [← e0, ← e1, ← e2, ← e3, ← e4]
  clear e0 e1 e2 e3 e4
  have k2 : w4.cell? ⟨b2, 2, none⟩ = some (.int .i64 op) := HF.out.hs.cell 2 rfl
  have hz : b2 < w4.heap.size := HF.out.hs.lt
  go_upto_region 3 with (fail)
  go_region_with (first
    | (go_at_call 104; refine (tables_any _).mono ?_; rintro e w' ⟨rfl, rfl⟩)
    | (go_at_call 125; refine (jumps_any _ _).mono ?_; rw [HJ.out]; rintro e w' ⟨rfl, rfl⟩))
  all_goals
    clear k2 hz
    have hg : w4.grownBy ((w4.alloc (.cells #[] 171)).alloc (.cells #[] 171)).drew none := grown_drew (grown_alloc (grown_alloc (grown_refl _ _) _) _)
    replace HF := hid (HF.out.kept hg)
    replace HG := hid (grown_trans HG.out hg)
    clear hg HV HM
    generalize ((w4.alloc (.cells #[] 171)).alloc (.cells #[] 171)).drew = w5 at HF HG ⊢
    have kth := HF.out.hc.there
    have HF2 := fun (g : World) (hg : w5.grownBy g none) => hid ((HF.out.kept hg).sRegs HO.out (L := L) HAL.out.len)
    go_wp2_with (first
      | (refine wpList_load_mid rfl 112 _ rfl b2 2 rfl _ _ HF.out.hs.ins Tryz.underlying112 rfl (by kernel_rfl) ?_)
      | (refine wpList_load_mid rfl 37 _ rfl b1 0 rfl _ _ HF.out.hc.regs Tryz.underlying37 rfl (regs16_size HL.out.len) ?_)
      | fail)
    refine (do_of op a b c im HL.out L B HLe.out HBe.out _).mono ?_; rintro e w6 ⟨rfl, hg⟩
    clear kth
    replace HF2 := HF2 w6 hg
    replace HF := hid (HF.out.kept hg)
    replace HG := hid (grown_trans HG.out hg)
    clear hg
    go_upto_region 6 with (first
      | (refine wpList_store_mid rfl 37 _ _ rfl b1 0 (wA L) rfl rfl (by rw [wA_size, HAL.out.len]; exact HF.out.hc.there) (regs_len_info L HAL.out.len) (wA_one L) ?_)
      | fail)
    clear HF
    generalize w6.setCells b1 0 (wA L).toList = w7 at HF2 ⊢
    have HF3 := hid (HF2.out.sPc HO.out ((pc + ln) % 4294967296))
    have k7 : w7.cell? ⟨b2, 7, none⟩ = some (.int .u32 ln) := HF2.out.hs.cell 7 rfl
    have kp := HF2.out.hc.pc
    have kf := fun k => HF2.out.hc.free k
    go_upto_region 7 with (fail)
    refine region_ret2 HF3.out HO.out rfl (sp_one _ _ _ _ _ _ _ _) rfl rfl rfl rfl rfl rfl rfl rfl rfl rfl rfl rfl rfl (by kernel_rfl) (by kernel_rfl) (by kernel_rfl) (by kernel_rfl) rfl Tryz.underlying138 (by kernel_rfl) rfl rfl rfl rfl rfl rfl (fun _ _ _ h => h) (fun _ _ _ h => h) ?_
    intro w9 hE
    have HE := hid hE
    clear hE
    go_wp2
    refine bodyPost_ret (HE.out.results Tryz.results106 _ rfl rfl rfl rfl Tryz.underlying39 Tryz.underlying138 (cpu_size_info HE.out.r1.len) (by kernel_rfl)) rfl ?_
    exact ⟨rfl, Lv.after HG.out HE.out.lv HB.out⟩
end
end Go.Proofs.YtkkbhifplbleiaaGreatDoor
/- core's innocuous: jumps; as a function. (Made by a program.) -/
namespace Go.Proofs.YtkkbhifplbleiaaGreatDoor
open Go.RowKit
section
variable {m bm n cap : Nat} {xs : List Int} {l : List Int} {pc : Int} {ie eie : Bool} {epc tv cc cd im ln c : Int} {W : World}
set_option maxRecDepth 100000 in
set_option maxHeartbeats 4000000 in
theorem inn_jump (h : MemAt W m bm n cap xs) (hu : U32s xs) (hl : Regs l) (root : Int) (user : Bool) {op a b : Int} (hi : insB op a b c im = true) (Y : Cp) (hY : jumpX ⟨l, pc, ie, eie, epc, tv, cc, cd⟩ op a b c im ln = Y) (hYl : Y.l.length = 16) (ho1 : op ≠ 12) (ho2 : op ≠ 13) (hj : jmpB op = true) :
    Calls Tryz.prog 106 #[.agg #[.pointer (some ⟨m, 0, none⟩), .int .i64 root, .bool user], .agg (cpuC ⟨l, pc, ie, eie, epc, tv, cc, cd⟩), .agg (spC 0 0 op a b c im ln)] W fun e w' => e = .returned (.tuple #[.agg (cpuC Y), .agg (spC 0 0 op a b c im ln)]) ∧ W.grownBy w' none := by
  have HJ := hid hj
  have HA : Hid (askB op a b c im = true) := hid (by unfold askB; rw [hi, hj]; rfl)
  have HR : Hid (jrB op a) := hid (by unfold jrB; rintro rfl; exact ins_jr hi)
  have HY := hid hY
  have HYl := hid hYl
  clear hj hi hY hYl
  have hq1 : (op == 12) = false := by simpa using ho1
  have hq2 : (op == 13) = false := by simpa using ho2
  clear ho1 ho2
  have Hz := zero_cpu
  have Hz2 := zero_stop
  obtain ⟨b0, b1, b2, b3, b4, e0, e1, e2, e3, e4⟩ : ∃ b0 b1 b2 b3 b4, b0 = W.heap.size ∧ b1 = b0 + 1 ∧ b2 = b1 + 1 ∧ b3 = b2 + 1 ∧ b4 = b3 + 1 := ⟨_, _, _, _, _, rfl, rfl, rfl, rfl, rfl⟩
  have HO : Hid (Ord4 b1 b2 b3 b4) := hid (by unfold Ord4; omega)
  have NV : Hid (b0 ∉ [b1, b2, b3, b4]) := hid (by simp only [List.mem_cons, List.not_mem_nil, or_false]; omega)
  have HB : Hid (∀ i ∈ [b1, b2, b3, b4], W.heap.size ≤ i) := hid (by simp only [List.mem_cons, List.not_mem_nil, or_false]; omega)
  have HF := hid (FAt.init (W.alloc (.cells #[.pointer (some ⟨m, 0, none⟩), .int .i64 root, .bool user] 168)) 138 (x := ⟨l, pc, ie, eie, epc, tv, cc, cd⟩) hl.len (spC 0 0 op a b c im ln))
  have HV : Hid (RwAt (((((W.alloc (.cells #[.pointer (some ⟨m, 0, none⟩), .int .i64 root, .bool user] 168)).alloc (.cells (cpuC ⟨l, pc, ie, eie, epc, tv, cc, cd⟩) 39)).alloc (.cells (spC 0 0 op a b c im ln) 138)).alloc (.cells (cpuC zeroP) 39)).alloc (.cells (spC 0 0 0 0 0 0 0 0) 138)) b0 168 #[.pointer (some ⟨m, 0, none⟩), .int .i64 root, .bool user]) := hid (by rw [e0]; exact ((((RwAt.new _ _ _).alloc _).alloc _).alloc _).alloc _)
  have HG : Hid (W.grownBy (((((W.alloc (.cells #[.pointer (some ⟨m, 0, none⟩), .int .i64 root, .bool user] 168)).alloc (.cells (cpuC ⟨l, pc, ie, eie, epc, tv, cc, cd⟩) 39)).alloc (.cells (spC 0 0 op a b c im ln) 138)).alloc (.cells (cpuC zeroP) 39)).alloc (.cells (spC 0 0 0 0 0 0 0 0) 138)) none) := hid (grown_alloc (grown_alloc (grown_alloc (grown_alloc (grown_alloc (grown_refl _ _) _) _) _) _) _)
  have HM := hid (h.kept0 HG.out)
  simp only [World.size_alloc] at HF
  rw [← e0, ← e1, ← e2, ← e3, ← e4] at HF
  have HL := hid hl
  have Hu := hid hu
  clear h hl hu
  go_enter Tryz.func106, Tryz.ntmps106
  go_upto_region 1 with (fail)
  generalize (((((W.alloc (.cells #[.pointer (some ⟨m, 0, none⟩), .int .i64 root, .bool user] 168)).alloc (.cells (cpuC ⟨l, pc, ie, eie, epc, tv, cc, cd⟩) 39)).alloc (.cells (spC 0 0 op a b c im ln) 138)).alloc (.cells (cpuC zeroP) 39)).alloc (.cells (spC 0 0 0 0 0 0 0 0) 138)) = w4 at HF HV HM HG ⊢
  rw [← e0, ← e1, ← e2, ← e3, ← e4]
  clear e0 e1 e2 e3 e4
  have k2 : w4.cell? ⟨b2, 2, none⟩ = some (.int .i64 op) := HF.out.hs.cell 2 rfl
  have hz : b2 < w4.heap.size := HF.out.hs.lt
  go_upto_region 3 with (fail)
  go_region_with (first
    | (go_at_call 104; refine (tables_any _).mono ?_; rintro e w' ⟨rfl, rfl⟩)
    | (go_at_call 125; refine (jumps_any _ _).mono ?_; rw [HJ.out]; rintro e w' ⟨rfl, rfl⟩))
  all_goals
    clear k2 hz
    have hg : w4.grownBy ((w4.alloc (.cells #[] 171)).alloc (.cells #[] 171)).drew none := grown_drew (grown_alloc (grown_alloc (grown_refl _ _) _) _)
    replace HF := hid (HF.out.kept hg)
    replace HG := hid (grown_trans HG.out hg)
    clear hg HV HM
    generalize ((w4.alloc (.cells #[] 171)).alloc (.cells #[] 171)).drew = w5 at HF HG ⊢
    go_upto_region 4 with (fail)
    have D := hid HF.out.drew
    refine wp_region_held_drew (S := fun w => CpuAt w b1 ⟨l, pc, ie, eie, epc, tv, cc, cd⟩ ∧ RwAt w b2 138 (spC 0 0 op a b c im ln)) (by kernel_rfl) ⟨D.out.hc, D.out.hs⟩ (fun hS0 => ?_)
    refine anyH_take_row (i := 0) rfl rfl rfl (by kernel_rfl) (by kernel_rfl) (by kernel_rfl) (fun _ _ _ h => h) rfl rfl Tryz.underlying39 (cpu_size_info D.out.hc.len) (fun w hw => ⟨_, _, hw.1.blk⟩) hS0 ?_
    refine anyH_take_row (i := 1) rfl rfl rfl (by kernel_rfl) (by kernel_rfl) (by kernel_rfl) (fun _ _ _ h => h) rfl rfl Tryz.underlying138 (by kernel_rfl) (fun w hw => ⟨_, _, hw.2.blk⟩) hS0 ?_
    refine anyH_take_row (i := 3) rfl rfl rfl (by kernel_rfl) (by kernel_rfl) (by kernel_rfl) (fun _ _ _ h => h) rfl rfl Tryz.underlying138 (by kernel_rfl) (fun w hw => ⟨_, _, hw.2.blk⟩) hS0 ?_
    simp only [Act.put, List.setIfInBounds_toArray, List.set_cons_zero, List.set_cons_succ, List.getElem_toArray, List.getElem_cons_succ, List.getElem_cons_zero]
    refine wpAnyH_ready (rs := [2]) (by kernel_rfl) (by simp) ?_
    refine AllReadyH.cons rfl (fun KK hKK => ?_) AllReadyH.nil
    go_simp
    refine (jump_of (b := b) HL.out HA.out HR.out _).mono ?_
    rw [HY.out]
    rintro e w' ⟨rfl, hg⟩
    refine hKK.out _ _ ?_ (fun hHeld => ?_)
    · exact ⟨D.out.hc.kept0 hg, D.out.hs.kept0 hg⟩
    clear hKK KK
    have D2 := hid (D.out.on hg)
    have HG2 := hid (grown_trans (grown_drew HG.out) hg)
    clear hg
    refine anyH_store_row (i := 4) (by kernel_rfl) rfl rfl rfl rfl rfl D2.out.r1.blk (cpu_size_info HYl.out) (by rw [cpu_size HYl.out, cpu_size D2.out.r1.len]) (cpu_one _) ⟨D2.out.hc.rowOther _ _ HO.out.2.1, D2.out.hs.rowOther _ _ HO.out.2.2.2.1⟩ ?_
    refine anyH_store_row (i := 5) (by kernel_rfl) rfl rfl rfl rfl rfl (D2.out.r2.rowOther _ _ HO.out.2.2.2.2.2.symm).blk (by kernel_rfl) rfl (sp_one _ _ _ _ _ _ _ _) ⟨(D2.out.hc.rowOther _ _ HO.out.2.1).rowOther _ _ HO.out.2.2.1, (D2.out.hs.rowOther _ _ HO.out.2.2.2.1).rowOther _ _ HO.out.2.2.2.2.1⟩ ?_
    refine wpAnyH_done (by kernel_rfl) ?_ _
    have HE := hid ((D2.out.kept (grown_refl _ none)).ends (y := Y) (u := spC 0 0 op a b c im ln) HO.out HYl.out)
    go_wp2
    refine bodyPost_ret (HE.out.results Tryz.results106 _ rfl rfl rfl rfl Tryz.underlying39 Tryz.underlying138 (cpu_size_info HE.out.r1.len) (by kernel_rfl)) rfl ?_
    exact ⟨rfl, Lv.after HG2.out HE.out.lv HB.out⟩
theorem jump_regs (hl : Regs l) {op a b : Int} (p0 : 0 ≤ (pc + ln) % 4294967296) : Regs (jumpX ⟨l, pc, ie, eie, epc, tv, cc, cd⟩ op a b c im ln).l := by
  unfold jumpX behI
  show Regs (if op = 22 then l.set 15 ((pc + ln) % 4294967296) else l)
  split
  · exact hl.set _ p0 (by omega)
  · exact hl
theorem inn_of (h : MemAt W m bm n cap xs) (hu : U32s xs) (hl : Regs l) (root : Int) (user : Bool) {op a b : Int} (hi : insB op a b c im = true) (i0 : 0 ≤ im) (i1 : im < 4294967296) (y : Cp) (ca ad op' a' b' c' im' ln' : Int) (ms : List Int)
    (hm : innP xs n root ⟨l, pc, ie, eie, epc, tv, cc, cd⟩ user op a b c im ln = ⟨y, ⟨ca, ad, op', a', b', c', im', ln'⟩, ms⟩) :
    Calls Tryz.prog 106 #[.agg #[.pointer (some ⟨m, 0, none⟩), .int .i64 root, .bool user], .agg (cpuC ⟨l, pc, ie, eie, epc, tv, cc, cd⟩), .agg (spC 0 0 op a b c im ln)] W (OutAt W m bm n cap y ca ad op' a' b' c' im' ln' ms) := by
  have keepM : ∀ w', W.grownBy w' none → MemAt w' m bm n cap xs ∧ W.grownBy w' (some bm) := fun w' g => ⟨h.kept0 g, grown_none g⟩
  unfold innP at hm
  by_cases ho : op = 12 ∨ op = 13
  · rw [if_pos ho] at hm
    exact inn_move h hu hl root user hi ho y ca ad op' a' b' c' im' ln' ms hm
  · rw [if_neg ho] at hm
    cases hj : jmpB op
    · rw [if_neg (by simp [hj])] at hm
      injection hm with q1 q2 q3
      injection q2 with e1 e2 e3 e4 e5 e6 e7 e8
      subst q1 q3 e1 e2 e3 e4 e5 e6 e7 e8
      exact (inn_alu h hu hl root user hi i0 i1 (fun e => ho (.inl e)) (fun e => ho (.inr e)) hj).mono fun e w' ⟨he, hg⟩ => ⟨he, keepM w' hg⟩
    · rw [if_pos hj] at hm
      injection hm with q1 q2 q3
      injection q2 with e1 e2 e3 e4 e5 e6 e7 e8
      subst q1 q3 e1 e2 e3 e4 e5 e6 e7 e8
      exact (inn_jump h hu hl root user hi _ rfl (jump_regs hl (by omega)).len (fun e => ho (.inl e)) (fun e => ho (.inr e)) hj).mono fun e w' ⟨he, hg⟩ => ⟨he, keepM w' hg⟩
end
end Go.Proofs.YtkkbhifplbleiaaGreatDoor
