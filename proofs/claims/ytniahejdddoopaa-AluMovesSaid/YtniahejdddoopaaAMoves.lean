/- The walk of the law AluMoves. (Made by genAMoves.py.) -/
import Derived.Test.YtniahejdddoopaaALaw0
import Derived.Test.YtniahejdddoopaaALow
import Derived.Test.YtniahejdddoopaaAlu7
import Derived.Deep.RegionHeld3
namespace Go.Proofs.Ytniahejdddoopaa
open Go.RowKit
theorem one_ins {k a : Int} (a0 : 0 ≤ a) (a1 : a < 16) (n : Int) (hk : k = 14 ∨ k = 15) : aluB k a 0 0 n = true := by
  have e : alwB 1 a = true := by unfold alwB; simp; omega
  rcases hk with rfl | rfl
  all_goals
    unfold aluB insB
    rw [show hasA _ = 1 by decide, e]
    simp [show clsI 14 = 1 by decide, show clsI 15 = 1 by decide, show hasB 14 = 0 by decide, show hasB 15 = 0 by decide, show hasC 14 = 0 by decide, show hasC 15 = 0 by decide, show twoB 14 = true by decide, show twoB 15 = true by decide, show reckB 14 = true by decide, show reckB 15 = true by decide, alwB]
theorem mov_ins {a b : Int} (a0 : 0 ≤ a) (a1 : a < 16) (b0 : 0 ≤ b) (b1 : b < 16) : aluB 2 a b 0 0 = true := by
  have e {x : Int} (h0 : 0 ≤ x) (h1 : x < 16) : alwB 1 x = true := by unfold alwB; simp; omega
  unfold aluB insB
  rw [show hasA _ = 1 by decide, show hasB _ = 1 by decide, e a0 a1, e b0 b1]
  decide
theorem mov_bad (a : Int) : aluB 2 a 16 0 0 = false := by
  unfold aluB insB
  rw [show hasB _ = 1 by decide, show alwB 1 16 = false by decide]
  simp
/-- a whole row of registers, loaded in a world of which it is known -/
theorem row_yields {o : Oper} {a : Act} {w : World} (x : Operand) (ho : o.op = .load 24 x) {g : Nat} {l : List Int} (hx : a.eval x = .pointer (some ⟨g, 0, none⟩)) (hr : RegAt w g l) (hl : Regs l) :
    (execOp a.eval o).run Try.prog w = .ok (.value (.agg (wA l))) w := by
  have hv := run_loadVar_row (P := Try.prog) _ _ _ 24 _ _ _ hr Try.underlying24 rfl hl.info
  unfold execOp
  simp only [ho, hx, Instr.loadAt, Instr.sureAddr, Sem.run_bind, Sem.run_pure, Result.andThen_ok, hv]
/-- what the last region holds fast -/
structure MAt (W : World) (R M I P Z T : Nat) (l L1 L2 : List Int) (w : World) : Prop where
  hr : RegAt w R l
  hm : RegAt w M L1
  hi : RegAt w I L2
  hp : RegAt w P L2
  hz : RegAt w Z l
  ht : RegAt w T L2
  hg : W.grownBy w none
theorem MAt.kept {W w w1 : World} {R M I P Z T : Nat} {l L1 L2 : List Int} (h : MAt W R M I P Z T l L1 L2 w) (hg : w.grownBy w1 none) : MAt W R M I P Z T l L1 L2 w1 :=
  ⟨h.hr.kept0 hg, h.hm.kept0 hg, h.hi.kept0 hg, h.hp.kept0 hg, h.hz.kept0 hg, h.ht.kept0 hg, grown_trans h.hg hg⟩
set_option maxRecDepth 100000 in
set_option maxHeartbeats 80000000 in
theorem amoves_walk (l : List Int) (a' b' n : Int) (W : World) (hl : Regs l) (_ : -9223372036854775808 ≤ a') (_ : a' ≤ 9223372036854775807) (_ : -9223372036854775808 ≤ b') (_ : b' ≤ 9223372036854775807) (n0 : 0 ≤ n) (n1 : n ≤ 4294967295) :
    Calls Try.prog 7 #[.agg (wA l), .int .i64 a', .int .i64 b', .int .u32 n] W fun e w' => e = .returned (.bool true) ∧ Below W.heap.size W w' := by
  have Ea := i64_low a'
  have Eb := i64_low b'
  obtain ⟨a, ha, a0, a1⟩ : ∃ a, a' % 16 = a ∧ 0 ≤ a ∧ a < 16 := ⟨_, rfl, by omega, by omega⟩
  obtain ⟨b, hb, b0, b1⟩ : ∃ b, b' % 16 = b ∧ 0 ≤ b ∧ b < 16 := ⟨_, rfl, by omega, by omega⟩
  rw [ha] at Ea
  rw [hb] at Eb
  clear ha hb
  have gx := hl.get b0 b1
  have xb := hl.reg b
  have hn := hl.len
  obtain ⟨L1, HL1, e1⟩ : ∃ L, Hid (aluL 2 a b 0 0 l = L) ∧ L = l.set a.toNat (regI l b) := ⟨_, hid rfl, by unfold aluL; rw [if_pos (mov_ins a0 a1 b0 b1)]; rfl⟩
  obtain ⟨L2, HL2, e2⟩ : ∃ L, Hid (aluL 14 a 0 0 n l = L) ∧ L = l.set a.toNat n := ⟨_, hid rfl, by unfold aluL; rw [if_pos (one_ins a0 a1 n (.inl rfl))]; rfl⟩
  have HL3 : Hid (aluL 15 a 0 0 n l = L2) := hid (by rw [e2]; unfold aluL; rw [if_pos (one_ins a0 a1 n (.inr rfl))]; rfl)
  have HL4 : Hid (aluL 1 0 0 0 0 l = l) := hid (by unfold aluL; rw [if_pos (by decide)]; exact set_same hl (by decide) (by decide))
  have HL5 : Hid (aluL 14 a 0 0 n L2 = L2) := hid (by unfold aluL; rw [if_pos (one_ins a0 a1 n (.inl rfl)), e2]; show (l.set a.toNat n).set a.toNat n = _; rw [List.set_set])
  obtain ⟨L6, HL6⟩ : ∃ L, Hid (aluL 2 a 16 0 0 l = L) := ⟨_, hid rfl⟩
  have HB1 := hid (mov_ins a0 a1 b0 b1)
  have HB2 := hid (one_ins a0 a1 n (.inl rfl))
  have HB3 := hid (one_ins a0 a1 n (.inr rfl))
  have HB4 : Hid (aluB 1 0 0 0 0 = true) := hid (by decide)
  have HB6 := hid (mov_bad a)
  have R1 : Regs L1 := by rw [e1]; exact hl.set _ xb.1 xb.2
  have R2 : Regs L2 := by rw [e2]; exact hl.set _ n0 (by omega)
  have R6 : Regs L6 := by rw [← HL6.out]; unfold aluL; rw [if_neg (by rw [mov_bad]; decide)]; exact ⟨rfl, by decide⟩
  obtain ⟨X, HX⟩ : ∃ X, Hid (regI l b = X) := ⟨_, hid rfl⟩
  rw [HX.out] at gx e1
  have G1 : Hid (L1[a.toNat]? = some X) := hid (by rw [e1, List.getElem?_set_self (by omega)])
  have G2 : Hid (L2[a.toNat]? = some n) := hid (by rw [e2, List.getElem?_set_self (by omega)])
  have Gx := hid gx
  have HRl := hid hl
  have HR1 := hid R1
  have HR2 := hid R2
  have HR6 := hid R6
  have Hs := hid hl.info
  have Hs1 := hid R1.info
  have Hs2 := hid R2.info
  have Hs6 := hid R6.info
  have Hz0 : Hid (16 = (wA l).size) := hid (by rw [wA_size, hn])
  have Hz1 : Hid (16 = (wA L1).size) := hid (by rw [wA_size, R1.len])
  have Hz2 : Hid (16 = (wA L2).size) := hid (by rw [wA_size, R2.len])
  have Hz6 : Hid (16 = (wA L6).size) := hid (by rw [wA_size, R6.len])
  clear gx xb hn e1 e2 R1 R2 R6 hl
  go_enter Try.func7, Try.ntmps7
  go_wp2_with fail
  refine (first4_any _).mono ?_
  rintro e w1 ⟨rfl, hg⟩
  have HA1 : Hid (RegAt w1 W.heap.size l ∧ W.grownBy w1 none) := hid ⟨RegAt.kept0 (RegAt.new W l) hg, grown_trans (World.grownBy_alloc W _ none) hg⟩
  clear hg
  go_wp2_with (refine wpList_load_row rfl 24 _ rfl W.heap.size rfl _ _ _ _ HA1.out.1 Try.underlying24 rfl Hs.out ?_)
  refine (do_of 2 a b 0 0 HRl.out L1 true HL1.out HB1.out _).mono ?_
  rintro e w2 ⟨rfl, hg⟩
  have HA2 : Hid (RegAt (w2.alloc (.cells (wA L1) 24)) W.heap.size l ∧ RegAt (w2.alloc (.cells (wA L1) 24)) w2.heap.size L1 ∧ W.grownBy (w2.alloc (.cells (wA L1) 24)) none) := hid ⟨((HA1.out.1).kept0 hg).kept0 (World.grownBy_alloc _ _ _), RegAt.new _ _, grown_alloc (grown_trans HA1.out.2 hg) _⟩
  clear hg HA1
  go_wp2_with (first
    | (refine wpList_store_row rfl 24 _ _ rfl w2.heap.size _ rfl rfl _ _ (heap_alloc_last w2 _) Hs1.out Hz1.out (wA_one _) ?_; rw [World.setRow_alloc_new])
    | (refine wpList_load_row rfl 24 _ rfl W.heap.size rfl _ _ _ _ HA2.out.1 Try.underlying24 rfl Hs.out ?_))
  refine (do_of 14 a 0 0 n HRl.out L2 true HL2.out HB2.out _).mono ?_
  rintro e w3 ⟨rfl, hg⟩
  have HA3 : Hid (RegAt (w3.alloc (.cells (wA L2) 24)) W.heap.size l ∧ RegAt (w3.alloc (.cells (wA L2) 24)) w2.heap.size L1 ∧ RegAt (w3.alloc (.cells (wA L2) 24)) w3.heap.size L2 ∧ W.grownBy (w3.alloc (.cells (wA L2) 24)) none) := hid ⟨((HA2.out.1).kept0 hg).kept0 (World.grownBy_alloc _ _ _), ((HA2.out.2.1).kept0 hg).kept0 (World.grownBy_alloc _ _ _), RegAt.new _ _, grown_alloc (grown_trans HA2.out.2.2 hg) _⟩
  clear hg HA2
  go_wp2_with (first
    | (refine wpList_store_row rfl 24 _ _ rfl w3.heap.size _ rfl rfl _ _ (heap_alloc_last w3 _) Hs2.out Hz2.out (wA_one _) ?_; rw [World.setRow_alloc_new])
    | (refine wpList_load_row rfl 24 _ rfl W.heap.size rfl _ _ _ _ HA3.out.1 Try.underlying24 rfl Hs.out ?_))
  refine (do_of 15 a 0 0 n HRl.out L2 true HL3.out HB3.out _).mono ?_
  rintro e w4 ⟨rfl, hg⟩
  have HA4 : Hid (RegAt (w4.alloc (.cells (wA L2) 24)) W.heap.size l ∧ RegAt (w4.alloc (.cells (wA L2) 24)) w2.heap.size L1 ∧ RegAt (w4.alloc (.cells (wA L2) 24)) w3.heap.size L2 ∧ RegAt (w4.alloc (.cells (wA L2) 24)) w4.heap.size L2 ∧ W.grownBy (w4.alloc (.cells (wA L2) 24)) none) := hid ⟨((HA3.out.1).kept0 hg).kept0 (World.grownBy_alloc _ _ _), ((HA3.out.2.1).kept0 hg).kept0 (World.grownBy_alloc _ _ _), ((HA3.out.2.2.1).kept0 hg).kept0 (World.grownBy_alloc _ _ _), RegAt.new _ _, grown_alloc (grown_trans HA3.out.2.2.2 hg) _⟩
  clear hg HA3
  go_wp2_with (first
    | (refine wpList_store_row rfl 24 _ _ rfl w4.heap.size _ rfl rfl _ _ (heap_alloc_last w4 _) Hs2.out Hz2.out (wA_one _) ?_; rw [World.setRow_alloc_new])
    | (refine wpList_load_row rfl 24 _ rfl W.heap.size rfl _ _ _ _ HA4.out.1 Try.underlying24 rfl Hs.out ?_))
  refine (do_of 1 0 0 0 0 HRl.out l true HL4.out HB4.out _).mono ?_
  rintro e w5 ⟨rfl, hg⟩
  have HA5 : Hid (RegAt (w5.alloc (.cells (wA l) 24)) W.heap.size l ∧ RegAt (w5.alloc (.cells (wA l) 24)) w2.heap.size L1 ∧ RegAt (w5.alloc (.cells (wA l) 24)) w3.heap.size L2 ∧ RegAt (w5.alloc (.cells (wA l) 24)) w4.heap.size L2 ∧ RegAt (w5.alloc (.cells (wA l) 24)) w5.heap.size l ∧ W.grownBy (w5.alloc (.cells (wA l) 24)) none) := hid ⟨((HA4.out.1).kept0 hg).kept0 (World.grownBy_alloc _ _ _), ((HA4.out.2.1).kept0 hg).kept0 (World.grownBy_alloc _ _ _), ((HA4.out.2.2.1).kept0 hg).kept0 (World.grownBy_alloc _ _ _), ((HA4.out.2.2.2.1).kept0 hg).kept0 (World.grownBy_alloc _ _ _), RegAt.new _ _, grown_alloc (grown_trans HA4.out.2.2.2.2 hg) _⟩
  clear hg HA4
  go_wp2_with (first
    | (refine wpList_store_row rfl 24 _ _ rfl w5.heap.size _ rfl rfl _ _ (heap_alloc_last w5 _) Hs.out Hz0.out (wA_one _) ?_; rw [World.setRow_alloc_new])
    | (refine wpList_load_row rfl 24 _ rfl w3.heap.size rfl _ _ _ _ HA5.out.2.2.1 Try.underlying24 rfl Hs2.out ?_))
  refine (do_of 14 a 0 0 n HR2.out L2 true HL5.out HB2.out _).mono ?_
  rintro e w6 ⟨rfl, hg⟩
  have HA6 : Hid (RegAt (w6.alloc (.cells (wA L2) 24)) W.heap.size l ∧ RegAt (w6.alloc (.cells (wA L2) 24)) w2.heap.size L1 ∧ RegAt (w6.alloc (.cells (wA L2) 24)) w3.heap.size L2 ∧ RegAt (w6.alloc (.cells (wA L2) 24)) w4.heap.size L2 ∧ RegAt (w6.alloc (.cells (wA L2) 24)) w5.heap.size l ∧ RegAt (w6.alloc (.cells (wA L2) 24)) w6.heap.size L2 ∧ W.grownBy (w6.alloc (.cells (wA L2) 24)) none) := hid ⟨((HA5.out.1).kept0 hg).kept0 (World.grownBy_alloc _ _ _), ((HA5.out.2.1).kept0 hg).kept0 (World.grownBy_alloc _ _ _), ((HA5.out.2.2.1).kept0 hg).kept0 (World.grownBy_alloc _ _ _), ((HA5.out.2.2.2.1).kept0 hg).kept0 (World.grownBy_alloc _ _ _), ((HA5.out.2.2.2.2.1).kept0 hg).kept0 (World.grownBy_alloc _ _ _), RegAt.new _ _, grown_alloc (grown_trans HA5.out.2.2.2.2.2 hg) _⟩
  clear hg HA5
  go_wp2_with (first
    | (refine wpList_store_row rfl 24 _ _ rfl w6.heap.size _ rfl rfl _ _ (heap_alloc_last w6 _) Hs2.out Hz2.out (wA_one _) ?_; rw [World.setRow_alloc_new])
    | (refine wpList_load_row rfl 24 _ rfl W.heap.size rfl _ _ _ _ HA6.out.1 Try.underlying24 rfl Hs.out ?_))
  refine (do_of 2 a 16 0 0 HRl.out L6 false HL6.out HB6.out _).mono ?_
  rintro e w7 ⟨rfl, hg⟩
  have HA7 : Hid (RegAt (w7.alloc (.cells (wA L6) 24)) W.heap.size l ∧ RegAt (w7.alloc (.cells (wA L6) 24)) w2.heap.size L1 ∧ RegAt (w7.alloc (.cells (wA L6) 24)) w3.heap.size L2 ∧ RegAt (w7.alloc (.cells (wA L6) 24)) w4.heap.size L2 ∧ RegAt (w7.alloc (.cells (wA L6) 24)) w5.heap.size l ∧ RegAt (w7.alloc (.cells (wA L6) 24)) w6.heap.size L2 ∧ RegAt (w7.alloc (.cells (wA L6) 24)) w7.heap.size L6 ∧ W.grownBy (w7.alloc (.cells (wA L6) 24)) none) := hid ⟨((HA6.out.1).kept0 hg).kept0 (World.grownBy_alloc _ _ _), ((HA6.out.2.1).kept0 hg).kept0 (World.grownBy_alloc _ _ _), ((HA6.out.2.2.1).kept0 hg).kept0 (World.grownBy_alloc _ _ _), ((HA6.out.2.2.2.1).kept0 hg).kept0 (World.grownBy_alloc _ _ _), ((HA6.out.2.2.2.2.1).kept0 hg).kept0 (World.grownBy_alloc _ _ _), ((HA6.out.2.2.2.2.2.1).kept0 hg).kept0 (World.grownBy_alloc _ _ _), RegAt.new _ _, grown_alloc (grown_trans HA6.out.2.2.2.2.2.2 hg) _⟩
  clear hg HA6
  go_wp2_with (refine wpList_store_row rfl 24 _ _ rfl w7.heap.size _ rfl rfl _ _ (heap_alloc_last w7 _) Hs6.out Hz6.out (wA_one _) ?_; rw [World.setRow_alloc_new])
  have HM : MAt W W.heap.size w2.heap.size w3.heap.size w4.heap.size w5.heap.size w6.heap.size l L1 L2 (w7.alloc (.cells (wA L6) 24)) := ⟨HA7.out.1, HA7.out.2.1, HA7.out.2.2.1, HA7.out.2.2.2.1, HA7.out.2.2.2.2.1, HA7.out.2.2.2.2.2.1, HA7.out.2.2.2.2.2.2.2⟩
  clear HA7
  generalize w7.alloc (.cells (wA L6) 24) = w8 at HM ⊢
  refine wp_region_held_drew (S := MAt W W.heap.size w2.heap.size w3.heap.size w4.heap.size w5.heap.size w6.heap.size l L1 L2) (by kernel_rfl) ?_ (fun hS0 => ?_)
  · exact HM.kept (grown_drew (grown_refl _ none))
  refine wpAnyH_take (i := 0) (v := ?_) rfl (by kernel_rfl) (by kernel_rfl) (by kernel_rfl) (fun _ _ _ h => h) (Or.inl ⟨by kernel_rfl, ?_⟩) (by assumption) ?_
  rotate_left
  · (intro w hSw; clear hSw; go_simp; try with_reducible rfl)
  try simp only [Act.put, List.setIfInBounds_toArray, List.set_cons_zero, List.set_cons_succ, List.getElem_toArray, List.getElem_cons_succ, List.getElem_cons_zero]
  refine wpAnyH_take (i := 1) (v := ?_) rfl (by kernel_rfl) (by kernel_rfl) (by kernel_rfl) (fun _ _ _ h => h) (Or.inl ⟨by kernel_rfl, ?_⟩) (by assumption) ?_
  rotate_left
  · (intro w hSw; clear hSw; go_simp; try with_reducible rfl)
  try simp only [Act.put, List.setIfInBounds_toArray, List.set_cons_zero, List.set_cons_succ, List.getElem_toArray, List.getElem_cons_succ, List.getElem_cons_zero]
  refine wpAnyH_take (i := 2) (v := ?_) rfl (by kernel_rfl) (by kernel_rfl) (by kernel_rfl) (fun _ _ _ h => h) (Or.inl ⟨by kernel_rfl, ?_⟩) (by assumption) ?_
  rotate_left
  · (intro w hSw; clear hSw; go_simp; try with_reducible rfl)
  try simp only [Act.put, List.setIfInBounds_toArray, List.set_cons_zero, List.set_cons_succ, List.getElem_toArray, List.getElem_cons_succ, List.getElem_cons_zero]
  refine wpAnyH_take (i := 3) (v := ?_) rfl (by kernel_rfl) (by kernel_rfl) (by kernel_rfl) (fun _ _ _ h => h) (Or.inl ⟨by kernel_rfl, ?_⟩) (by assumption) ?_
  rotate_left
  · (intro w hSw; clear hSw; go_simp; try with_reducible rfl)
  try simp only [Act.put, List.setIfInBounds_toArray, List.set_cons_zero, List.set_cons_succ, List.getElem_toArray, List.getElem_cons_succ, List.getElem_cons_zero]
  refine wpAnyH_take (i := 4) (v := ?_) rfl (by kernel_rfl) (by kernel_rfl) (by kernel_rfl) (fun _ _ _ h => h) (Or.inl ⟨by kernel_rfl, ?_⟩) (by assumption) ?_
  rotate_left
  · (intro w hSw; clear hSw; go_simp; try with_reducible rfl)
  try simp only [Act.put, List.setIfInBounds_toArray, List.set_cons_zero, List.set_cons_succ, List.getElem_toArray, List.getElem_cons_succ, List.getElem_cons_zero]
  refine wpAnyH_take (i := 5) (v := ?_) rfl (by kernel_rfl) (by kernel_rfl) (by kernel_rfl) (fun _ _ _ h => h) (Or.inl ⟨by kernel_rfl, ?_⟩) (by assumption) ?_
  rotate_left
  · (intro w hSw; clear hSw; go_simp; try with_reducible rfl)
  try simp only [Act.put, List.setIfInBounds_toArray, List.set_cons_zero, List.set_cons_succ, List.getElem_toArray, List.getElem_cons_succ, List.getElem_cons_zero]
  refine wpAnyH_take (i := 6) (v := ?_) rfl (by kernel_rfl) (by kernel_rfl) (by kernel_rfl) (fun _ _ _ h => h) (Or.inl ⟨by kernel_rfl, ?_⟩) (by assumption) ?_
  rotate_left
  · (intro w hSw; clear hSw; go_simp; try with_reducible rfl)
  try simp only [Act.put, List.setIfInBounds_toArray, List.set_cons_zero, List.set_cons_succ, List.getElem_toArray, List.getElem_cons_succ, List.getElem_cons_zero]
  refine wpAnyH_take (i := 7) (v := ?_) rfl (by kernel_rfl) (by kernel_rfl) (by kernel_rfl) (fun _ _ _ h => h) (Or.inl ⟨by kernel_rfl, ?_⟩) (by assumption) ?_
  rotate_left
  · (intro w hSw; clear hSw; go_simp; try with_reducible rfl)
  try simp only [Act.put, List.setIfInBounds_toArray, List.set_cons_zero, List.set_cons_succ, List.getElem_toArray, List.getElem_cons_succ, List.getElem_cons_zero]
  refine wpAnyH_take (i := 8) (v := ?_) rfl (by kernel_rfl) (by kernel_rfl) (by kernel_rfl) (fun _ _ _ h => h) (Or.inl ⟨by kernel_rfl, ?_⟩) (by assumption) ?_
  rotate_left
  · (intro w hSw; clear hSw; go_simp; try with_reducible rfl)
  try simp only [Act.put, List.setIfInBounds_toArray, List.set_cons_zero, List.set_cons_succ, List.getElem_toArray, List.getElem_cons_succ, List.getElem_cons_zero]
  refine wpAnyH_take (i := 9) (v := ?_) rfl (by kernel_rfl) (by kernel_rfl) (by kernel_rfl) (fun _ _ _ h => h) (Or.inl ⟨by kernel_rfl, ?_⟩) (by assumption) ?_
  rotate_left
  · (intro w hSw; clear hSw; go_simp; try with_reducible rfl)
  try simp only [Act.put, List.setIfInBounds_toArray, List.set_cons_zero, List.set_cons_succ, List.getElem_toArray, List.getElem_cons_succ, List.getElem_cons_zero]
  refine wpAnyH_take (i := 10) (v := ?_) rfl (by kernel_rfl) (by kernel_rfl) (by kernel_rfl) (fun _ _ _ h => h) (Or.inl ⟨by kernel_rfl, ?_⟩) (by assumption) ?_
  rotate_left
  · (intro w hSw; clear hSw; go_simp; try with_reducible rfl)
  try simp only [Act.put, List.setIfInBounds_toArray, List.set_cons_zero, List.set_cons_succ, List.getElem_toArray, List.getElem_cons_succ, List.getElem_cons_zero]
  refine wpAnyH_take (i := 11) (v := ?_) rfl (by kernel_rfl) (by kernel_rfl) (by kernel_rfl) (fun _ _ _ h => h) (Or.inl ⟨by kernel_rfl, ?_⟩) (by assumption) ?_
  rotate_left
  · (intro w hSw; clear hSw; go_simp; try with_reducible rfl)
  try simp only [Act.put, List.setIfInBounds_toArray, List.set_cons_zero, List.set_cons_succ, List.getElem_toArray, List.getElem_cons_succ, List.getElem_cons_zero]
  refine wpAnyH_take (i := 12) (v := ?_) rfl (by kernel_rfl) (by kernel_rfl) (by kernel_rfl) (fun _ _ _ h => h) (Or.inl ⟨by kernel_rfl, ?_⟩) (by assumption) ?_
  rotate_left
  · (intro w hSw; clear hSw; go_simp; try with_reducible rfl)
  try simp only [Act.put, List.setIfInBounds_toArray, List.set_cons_zero, List.set_cons_succ, List.getElem_toArray, List.getElem_cons_succ, List.getElem_cons_zero]
  refine wpAnyH_take (i := 13) (v := ?_) rfl (by kernel_rfl) (by kernel_rfl) (by kernel_rfl) (fun _ _ _ h => h) (Or.inl ⟨by kernel_rfl, ?_⟩) (by assumption) ?_
  rotate_left
  · (intro w hSw; clear hSw; go_simp; try with_reducible rfl)
  try simp only [Act.put, List.setIfInBounds_toArray, List.set_cons_zero, List.set_cons_succ, List.getElem_toArray, List.getElem_cons_succ, List.getElem_cons_zero]
  refine wpAnyH_take (i := 14) (v := ?_) rfl (by kernel_rfl) (by kernel_rfl) (by kernel_rfl) (fun _ _ _ h => h) (Or.inl ⟨by kernel_rfl, ?_⟩) (by assumption) ?_
  rotate_left
  · (intro w hSw; clear hSw; go_simp; try with_reducible rfl)
  try simp only [Act.put, List.setIfInBounds_toArray, List.set_cons_zero, List.set_cons_succ, List.getElem_toArray, List.getElem_cons_succ, List.getElem_cons_zero]
  refine wpAnyH_take (i := 15) (v := ?_) rfl (by kernel_rfl) (by kernel_rfl) (by kernel_rfl) (fun _ _ _ h => h) (Or.inl ⟨by kernel_rfl, ?_⟩) (by assumption) ?_
  rotate_left
  · (intro w hSw; clear hSw; go_simp; try with_reducible rfl)
  try simp only [Act.put, List.setIfInBounds_toArray, List.set_cons_zero, List.set_cons_succ, List.getElem_toArray, List.getElem_cons_succ, List.getElem_cons_zero]
  refine wpAnyH_take (i := 16) (v := ?_) rfl (by kernel_rfl) (by kernel_rfl) (by kernel_rfl) (fun _ _ _ h => h) (Or.inl ⟨by kernel_rfl, ?_⟩) (by assumption) ?_
  rotate_left
  · (intro w hSw; clear hSw; go_simp; try with_reducible rfl)
  try simp only [Act.put, List.setIfInBounds_toArray, List.set_cons_zero, List.set_cons_succ, List.getElem_toArray, List.getElem_cons_succ, List.getElem_cons_zero]
  refine wpAnyH_take (i := 17) (v := ?_) rfl (by kernel_rfl) (by kernel_rfl) (by kernel_rfl) (fun _ _ _ h => h) (Or.inl ⟨by kernel_rfl, ?_⟩) (by assumption) ?_
  rotate_left
  · (intro w hSw; clear hSw; go_simp; try with_reducible rfl)
  try simp only [Act.put, List.setIfInBounds_toArray, List.set_cons_zero, List.set_cons_succ, List.getElem_toArray, List.getElem_cons_succ, List.getElem_cons_zero]
  refine wpAnyH_take (i := 18) (v := ?_) rfl (by kernel_rfl) (by kernel_rfl) (by kernel_rfl) (fun _ _ _ h => h) (Or.inl ⟨by kernel_rfl, ?_⟩) (by assumption) ?_
  rotate_left
  · (intro w hSw; clear hSw; go_simp; try with_reducible rfl)
  try simp only [Act.put, List.setIfInBounds_toArray, List.set_cons_zero, List.set_cons_succ, List.getElem_toArray, List.getElem_cons_succ, List.getElem_cons_zero]
  refine wpAnyH_take (i := 19) (v := ?_) rfl (by kernel_rfl) (by kernel_rfl) (by kernel_rfl) (fun _ _ _ h => h) (Or.inl ⟨by kernel_rfl, ?_⟩) (by assumption) ?_
  rotate_left
  · (intro w hSw; have k := hSw.hm.cell G1.out; clear hSw; go_simp; try with_reducible rfl)
  try simp only [Act.put, List.setIfInBounds_toArray, List.set_cons_zero, List.set_cons_succ, List.getElem_toArray, List.getElem_cons_succ, List.getElem_cons_zero]
  refine wpAnyH_take (i := 20) (v := ?_) rfl (by kernel_rfl) (by kernel_rfl) (by kernel_rfl) (fun _ _ _ h => h) (Or.inl ⟨by kernel_rfl, ?_⟩) (by assumption) ?_
  rotate_left
  · (intro w hSw; have k := hSw.hm.cell G1.out; clear hSw; go_simp; try with_reducible rfl)
  try simp only [Act.put, List.setIfInBounds_toArray, List.set_cons_zero, List.set_cons_succ, List.getElem_toArray, List.getElem_cons_succ, List.getElem_cons_zero]
  refine wpAnyH_take (i := 21) (v := ?_) rfl (by kernel_rfl) (by kernel_rfl) (by kernel_rfl) (fun _ _ _ h => h) (Or.inl ⟨by kernel_rfl, ?_⟩) (by assumption) ?_
  rotate_left
  · (intro w hSw; clear hSw; go_simp; try with_reducible rfl)
  try simp only [Act.put, List.setIfInBounds_toArray, List.set_cons_zero, List.set_cons_succ, List.getElem_toArray, List.getElem_cons_succ, List.getElem_cons_zero]
  refine wpAnyH_take (i := 22) (v := ?_) rfl (by kernel_rfl) (by kernel_rfl) (by kernel_rfl) (fun _ _ _ h => h) (Or.inl ⟨by kernel_rfl, ?_⟩) (by assumption) ?_
  rotate_left
  · (intro w hSw; have k := hSw.hr.cell Gx.out; clear hSw; go_simp; try with_reducible rfl)
  try simp only [Act.put, List.setIfInBounds_toArray, List.set_cons_zero, List.set_cons_succ, List.getElem_toArray, List.getElem_cons_succ, List.getElem_cons_zero]
  refine wpAnyH_take (i := 23) (v := ?_) rfl (by kernel_rfl) (by kernel_rfl) (by kernel_rfl) (fun _ _ _ h => h) (Or.inl ⟨by kernel_rfl, ?_⟩) (by assumption) ?_
  rotate_left
  · (intro w hSw; have k := hSw.hr.cell Gx.out; clear hSw; go_simp; try with_reducible rfl)
  try simp only [Act.put, List.setIfInBounds_toArray, List.set_cons_zero, List.set_cons_succ, List.getElem_toArray, List.getElem_cons_succ, List.getElem_cons_zero]
  refine wpAnyH_take (i := 24) (v := ?_) rfl (by kernel_rfl) (by kernel_rfl) (by kernel_rfl) (fun _ _ _ h => h) (Or.inl ⟨by kernel_rfl, ?_⟩) (by assumption) ?_
  rotate_left
  · (intro w hSw; clear hSw; go_simp; try with_reducible rfl)
  try simp only [Act.put, List.setIfInBounds_toArray, List.set_cons_zero, List.set_cons_succ, List.getElem_toArray, List.getElem_cons_succ, List.getElem_cons_zero]
  refine wpAnyH_take (i := 25) (v := ?_) rfl (by kernel_rfl) (by kernel_rfl) (by kernel_rfl) (fun _ _ _ h => h) (Or.inl ⟨by kernel_rfl, ?_⟩) (by assumption) ?_
  rotate_left
  · (intro w hSw; clear hSw; go_simp; try with_reducible rfl)
  try simp only [Act.put, List.setIfInBounds_toArray, List.set_cons_zero, List.set_cons_succ, List.getElem_toArray, List.getElem_cons_succ, List.getElem_cons_zero]
  refine wpAnyH_take (i := 26) (v := ?_) rfl (by kernel_rfl) (by kernel_rfl) (by kernel_rfl) (fun _ _ _ h => h) (Or.inl ⟨by kernel_rfl, ?_⟩) (by assumption) ?_
  rotate_left
  · (intro w hSw; clear hSw; go_simp; try with_reducible rfl)
  try simp only [Act.put, List.setIfInBounds_toArray, List.set_cons_zero, List.set_cons_succ, List.getElem_toArray, List.getElem_cons_succ, List.getElem_cons_zero]
  refine wpAnyH_take (i := 27) (v := ?_) rfl (by kernel_rfl) (by kernel_rfl) (by kernel_rfl) (fun _ _ _ h => h) (Or.inl ⟨by kernel_rfl, ?_⟩) (by assumption) ?_
  rotate_left
  · (intro w hSw; clear hSw; go_simp; try with_reducible rfl)
  try simp only [Act.put, List.setIfInBounds_toArray, List.set_cons_zero, List.set_cons_succ, List.getElem_toArray, List.getElem_cons_succ, List.getElem_cons_zero]
  refine wpAnyH_take (i := 28) (v := ?_) rfl (by kernel_rfl) (by kernel_rfl) (by kernel_rfl) (fun _ _ _ h => h) (Or.inl ⟨by kernel_rfl, ?_⟩) (by assumption) ?_
  rotate_left
  · (intro w hSw; have k := hSw.hi.cell G2.out; clear hSw; go_simp; try with_reducible rfl)
  try simp only [Act.put, List.setIfInBounds_toArray, List.set_cons_zero, List.set_cons_succ, List.getElem_toArray, List.getElem_cons_succ, List.getElem_cons_zero]
  refine wpAnyH_take (i := 29) (v := ?_) rfl (by kernel_rfl) (by kernel_rfl) (by kernel_rfl) (fun _ _ _ h => h) (Or.inl ⟨by kernel_rfl, ?_⟩) (by assumption) ?_
  rotate_left
  · (intro w hSw; have k := hSw.hi.cell G2.out; clear hSw; go_simp; try with_reducible rfl)
  try simp only [Act.put, List.setIfInBounds_toArray, List.set_cons_zero, List.set_cons_succ, List.getElem_toArray, List.getElem_cons_succ, List.getElem_cons_zero]
  refine wpAnyH_take (i := 30) (v := ?_) rfl (by kernel_rfl) (by kernel_rfl) (by kernel_rfl) (fun _ _ _ h => h) (Or.inl ⟨by kernel_rfl, ?_⟩) (by assumption) ?_
  rotate_left
  · (intro w hSw; clear hSw; go_simp; try with_reducible rfl)
  try simp only [Act.put, List.setIfInBounds_toArray, List.set_cons_zero, List.set_cons_succ, List.getElem_toArray, List.getElem_cons_succ, List.getElem_cons_zero]
  refine wpAnyH_take (i := 31) (v := ?_) rfl (by kernel_rfl) (by kernel_rfl) (by kernel_rfl) (fun _ _ _ h => h) (Or.inl ⟨by kernel_rfl, ?_⟩) (by assumption) ?_
  rotate_left
  · (intro w hSw; clear hSw; go_simp; try with_reducible rfl)
  try simp only [Act.put, List.setIfInBounds_toArray, List.set_cons_zero, List.set_cons_succ, List.getElem_toArray, List.getElem_cons_succ, List.getElem_cons_zero]
  refine wpAnyH_take (i := 32) (v := ?_) rfl (by kernel_rfl) (by kernel_rfl) (by kernel_rfl) (fun _ _ _ h => h) (Or.inl ⟨by kernel_rfl, ?_⟩) (by assumption) ?_
  rotate_left
  · (intro w hSw; clear hSw; go_simp; try with_reducible rfl)
  try simp only [Act.put, List.setIfInBounds_toArray, List.set_cons_zero, List.set_cons_succ, List.getElem_toArray, List.getElem_cons_succ, List.getElem_cons_zero]
  refine wpAnyH_take (i := 33) (v := ?_) rfl (by kernel_rfl) (by kernel_rfl) (by kernel_rfl) (fun _ _ _ h => h) (Or.inl ⟨by kernel_rfl, ?_⟩) (by assumption) ?_
  rotate_left
  · (intro w hSw; clear hSw; go_simp; try with_reducible rfl)
  try simp only [Act.put, List.setIfInBounds_toArray, List.set_cons_zero, List.set_cons_succ, List.getElem_toArray, List.getElem_cons_succ, List.getElem_cons_zero]
  refine wpAnyH_take (i := 34) (v := .agg (wA L2)) rfl (by kernel_rfl) (by kernel_rfl) (by kernel_rfl) (fun _ _ _ h => h) (Or.inl ⟨by kernel_rfl, fun w hSw => row_yields _ rfl rfl hSw.hi HR2.out⟩) (by assumption) ?_
  try simp only [Act.put, List.setIfInBounds_toArray, List.set_cons_zero, List.set_cons_succ, List.getElem_toArray, List.getElem_cons_succ, List.getElem_cons_zero]
  refine wpAnyH_take (i := 35) (v := .agg (wA L2)) rfl (by kernel_rfl) (by kernel_rfl) (by kernel_rfl) (fun _ _ _ h => h) (Or.inl ⟨by kernel_rfl, fun w hSw => row_yields _ rfl rfl hSw.hp HR2.out⟩) (by assumption) ?_
  try simp only [Act.put, List.setIfInBounds_toArray, List.set_cons_zero, List.set_cons_succ, List.getElem_toArray, List.getElem_cons_succ, List.getElem_cons_zero]
  refine wpAnyH_ready (rs := [36]) (by kernel_rfl) (by simp) ?_
  refine AllReadyH.cons rfl (fun KK hKK => ?_) AllReadyH.nil
  go_simp
  refine (same_regs HR2.out HR2.out true (by simp) _).mono ?_
  rintro e w' ⟨rfl, hg⟩
  refine hKK.out _ _ ?_ (fun hHeld => ?_)
  · exact MAt.kept (by assumption) hg
  clear hKK KK hg
  try simp only [Act.put, List.setIfInBounds_toArray, List.set_cons_zero, List.set_cons_succ, List.getElem_toArray, List.getElem_cons_succ, List.getElem_cons_zero]
  refine wpAnyH_take (i := 37) (v := ?_) rfl (by kernel_rfl) (by kernel_rfl) (by kernel_rfl) (fun _ _ _ h => h) (Or.inl ⟨by kernel_rfl, ?_⟩) (by assumption) ?_
  rotate_left
  · (intro w hSw; clear hSw; go_simp; try with_reducible rfl)
  try simp only [Act.put, List.setIfInBounds_toArray, List.set_cons_zero, List.set_cons_succ, List.getElem_toArray, List.getElem_cons_succ, List.getElem_cons_zero]
  refine wpAnyH_take (i := 38) (v := ?_) rfl (by kernel_rfl) (by kernel_rfl) (by kernel_rfl) (fun _ _ _ h => h) (Or.inl ⟨by kernel_rfl, ?_⟩) (by assumption) ?_
  rotate_left
  · (intro w hSw; clear hSw; go_simp; try with_reducible rfl)
  try simp only [Act.put, List.setIfInBounds_toArray, List.set_cons_zero, List.set_cons_succ, List.getElem_toArray, List.getElem_cons_succ, List.getElem_cons_zero]
  refine wpAnyH_take (i := 39) (v := .agg (wA l)) rfl (by kernel_rfl) (by kernel_rfl) (by kernel_rfl) (fun _ _ _ h => h) (Or.inl ⟨by kernel_rfl, fun w hSw => row_yields _ rfl rfl hSw.hz HRl.out⟩) (by assumption) ?_
  try simp only [Act.put, List.setIfInBounds_toArray, List.set_cons_zero, List.set_cons_succ, List.getElem_toArray, List.getElem_cons_succ, List.getElem_cons_zero]
  refine wpAnyH_take (i := 40) (v := .agg (wA l)) rfl (by kernel_rfl) (by kernel_rfl) (by kernel_rfl) (fun _ _ _ h => h) (Or.inl ⟨by kernel_rfl, fun w hSw => row_yields _ rfl rfl hSw.hr HRl.out⟩) (by assumption) ?_
  try simp only [Act.put, List.setIfInBounds_toArray, List.set_cons_zero, List.set_cons_succ, List.getElem_toArray, List.getElem_cons_succ, List.getElem_cons_zero]
  refine wpAnyH_ready (rs := [41]) (by kernel_rfl) (by simp) ?_
  refine AllReadyH.cons rfl (fun KK hKK => ?_) AllReadyH.nil
  go_simp
  refine (same_regs HRl.out HRl.out true (by simp) _).mono ?_
  rintro e w' ⟨rfl, hg⟩
  refine hKK.out _ _ ?_ (fun hHeld => ?_)
  · exact MAt.kept (by assumption) hg
  clear hKK KK hg
  try simp only [Act.put, List.setIfInBounds_toArray, List.set_cons_zero, List.set_cons_succ, List.getElem_toArray, List.getElem_cons_succ, List.getElem_cons_zero]
  refine wpAnyH_take (i := 42) (v := ?_) rfl (by kernel_rfl) (by kernel_rfl) (by kernel_rfl) (fun _ _ _ h => h) (Or.inl ⟨by kernel_rfl, ?_⟩) (by assumption) ?_
  rotate_left
  · (intro w hSw; clear hSw; go_simp; try with_reducible rfl)
  try simp only [Act.put, List.setIfInBounds_toArray, List.set_cons_zero, List.set_cons_succ, List.getElem_toArray, List.getElem_cons_succ, List.getElem_cons_zero]
  refine wpAnyH_take (i := 43) (v := ?_) rfl (by kernel_rfl) (by kernel_rfl) (by kernel_rfl) (fun _ _ _ h => h) (Or.inl ⟨by kernel_rfl, ?_⟩) (by assumption) ?_
  rotate_left
  · (intro w hSw; clear hSw; go_simp; try with_reducible rfl)
  try simp only [Act.put, List.setIfInBounds_toArray, List.set_cons_zero, List.set_cons_succ, List.getElem_toArray, List.getElem_cons_succ, List.getElem_cons_zero]
  refine wpAnyH_take (i := 44) (v := .agg (wA L2)) rfl (by kernel_rfl) (by kernel_rfl) (by kernel_rfl) (fun _ _ _ h => h) (Or.inl ⟨by kernel_rfl, fun w hSw => row_yields _ rfl rfl hSw.ht HR2.out⟩) (by assumption) ?_
  try simp only [Act.put, List.setIfInBounds_toArray, List.set_cons_zero, List.set_cons_succ, List.getElem_toArray, List.getElem_cons_succ, List.getElem_cons_zero]
  refine wpAnyH_take (i := 45) (v := .agg (wA L2)) rfl (by kernel_rfl) (by kernel_rfl) (by kernel_rfl) (fun _ _ _ h => h) (Or.inl ⟨by kernel_rfl, fun w hSw => row_yields _ rfl rfl hSw.hi HR2.out⟩) (by assumption) ?_
  try simp only [Act.put, List.setIfInBounds_toArray, List.set_cons_zero, List.set_cons_succ, List.getElem_toArray, List.getElem_cons_succ, List.getElem_cons_zero]
  refine wpAnyH_ready (rs := [46]) (by kernel_rfl) (by simp) ?_
  refine AllReadyH.cons rfl (fun KK hKK => ?_) AllReadyH.nil
  go_simp
  refine (same_regs HR2.out HR2.out true (by simp) _).mono ?_
  rintro e w' ⟨rfl, hg⟩
  refine hKK.out _ _ ?_ (fun hHeld => ?_)
  · exact MAt.kept (by assumption) hg
  clear hKK KK hg
  try simp only [Act.put, List.setIfInBounds_toArray, List.set_cons_zero, List.set_cons_succ, List.getElem_toArray, List.getElem_cons_succ, List.getElem_cons_zero]
  refine wpAnyH_take (i := 47) (v := ?_) rfl (by kernel_rfl) (by kernel_rfl) (by kernel_rfl) (fun _ _ _ h => h) (Or.inl ⟨by kernel_rfl, ?_⟩) (by assumption) ?_
  rotate_left
  · (intro w hSw; clear hSw; go_simp; try with_reducible rfl)
  try simp only [Act.put, List.setIfInBounds_toArray, List.set_cons_zero, List.set_cons_succ, List.getElem_toArray, List.getElem_cons_succ, List.getElem_cons_zero]
  refine wpAnyH_take (i := 48) (v := ?_) rfl (by kernel_rfl) (by kernel_rfl) (by kernel_rfl) (fun _ _ _ h => h) (Or.inl ⟨by kernel_rfl, ?_⟩) (by assumption) ?_
  rotate_left
  · (intro w hSw; clear hSw; go_simp; try with_reducible rfl)
  try simp only [Act.put, List.setIfInBounds_toArray, List.set_cons_zero, List.set_cons_succ, List.getElem_toArray, List.getElem_cons_succ, List.getElem_cons_zero]
  refine wpAnyH_done (by kernel_rfl) ?_ _
  go_wp2
  go_ret
  exact ⟨rfl, grown_below (MAt.hg (by assumption))⟩
end Go.Proofs.Ytniahejdddoopaa
