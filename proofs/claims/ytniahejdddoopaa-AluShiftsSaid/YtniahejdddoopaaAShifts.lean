/- The walk of the law AluShifts. -/
import Derived.Test.YtniahejdddoopaaALaw0
import Derived.Test.YtniahejdddoopaaABits
namespace Go.Proofs.Ytniahejdddoopaa
open Go.RowKit
/-- the registers that a shift is asked of -/
def shiftL (w by' : Int) : List Int := [0, w, by', 0, 0, 0, 0, 0, 0, 0, 0, 0, 0, 0, 0, 0]
theorem shift_regs {w b : Int} (w0 : 0 ≤ w) (w1 : w < 4294967296) (b0 : 0 ≤ b) (b1 : b < 4294967296) : Regs (shiftL w b) := ⟨rfl, fun x hx => by
  simp only [shiftL, List.mem_cons, List.mem_nil_iff, or_false] at hx
  rcases hx with rfl | rfl | rfl | rfl | rfl | rfl | rfl | rfl | rfl | rfl | rfl | rfl | rfl | rfl | rfl | rfl <;> omega⟩
theorem shiftB : aluB 8 3 1 2 0 = true ∧ aluB 9 3 1 2 0 = true := by decide
theorem shift_got (op w b : Int) (hB : aluB op 3 1 2 0 = true) : (aluL op 3 1 2 0 (shiftL w b))[3]? = some (reckV op (shiftL w b) 3 1 2 0) := by
  unfold aluL; rw [if_pos hB]; rfl
/-- a shift of either kind, with a name for what it answers -/
def shiftV (op w b : Int) : Int := if op = 8 then w * 2 ^ (b % 32).toNat % 4294967296 else w / 2 ^ (b % 32).toNat
theorem shift_V {op : Int} (h : op = 8 ∨ op = 9) (w b : Int) : reckV op (shiftL w b) 3 1 2 0 = shiftV op w b := by
  rcases h with rfl | rfl <;> rfl
set_option maxHeartbeats 1000000 in
theorem shift_any (op w b V : Int) (ho : op = 8 ∨ op = 9) (w0 : 0 ≤ w) (w1 : w < 4294967296) (b0 : 0 ≤ b) (b1 : b < 4294967296) (hV : shiftV op w b = V) (W : World) :
    Calls Try.prog 9 #[.int .i64 op, .int .u32 w, .int .u32 b] W fun e w' => e = .returned (.int .u32 V) ∧ W.grownBy w' none := by
  have hR := shift_regs w0 w1 b0 b1
  have hB : aluB op 3 1 2 0 = true := by rcases ho with rfl | rfl <;> decide
  obtain ⟨L, HL, hL⟩ : ∃ L, Hid (aluL op 3 1 2 0 (shiftL w b) = L) ∧ L[3]? = some V := ⟨_, hid rfl, by rw [shift_got op w b hB, shift_V ho, hV]⟩
  have HB := hid hB
  have HR := hid hR
  have Hs : Hid ((Try.prog.info? 24).map (·.size) = some 16) := hid regs_info
  have Hl : Hid (L.length = 16) := hid (by rw [← HL.out]; exact aluL_length hR)
  have Hs5 := hid (regs_len_info L Hl.out)
  have Hz : Hid (16 = (wA L).size) := hid (by rw [wA_size, Hl.out])
  have hLx := hid hL
  clear hL hV ho hB hR w0 w1 b0 b1
  go_enter Try.func9, Try.ntmps9
  go_wp2_with (refine wpList_load_row rfl 24 _ rfl W.heap.size rfl _ _ _ _ (heap_alloc_last W _) Try.underlying24 rfl Hs.out ?_)
  refine (do_of op 3 1 2 0 HR.out L true HL.out HB.out _).mono ?_
  rintro e w1 ⟨rfl, hg⟩
  have HG := hid (grown_trans (World.grownBy_alloc W _ none) hg)
  have c1 := (RegAt.new w1 L).cell hLx.out
  clear hg
  go_wp2_with (refine wpList_store_row rfl 24 _ _ rfl w1.heap.size _ rfl rfl _ _ (heap_alloc_last w1 _) Hs5.out Hz.out (wA_one _) ?_; rw [World.setRow_alloc_new])
  go_ret
  exact ⟨rfl, grown_alloc HG.out _⟩
theorem shiftV_bd {op w b : Int} (w0 : 0 ≤ w) (w1 : w < 4294967296) : 0 ≤ shiftV op w b ∧ shiftV op w b < 4294967296 := by
  unfold shiftV; split
  · exact ⟨Int.emod_nonneg _ (by decide), Int.emod_lt_of_pos _ (by decide)⟩
  · exact shr_bd _ w0 w1
/-- the facts of the law -/
theorem shifts_facts (w : Int) {n m : Int} (n0 : 0 ≤ n) (n1 : n < 16) (m0 : 0 ≤ m) (m1 : m < 16) :
    shiftV 8 (shiftV 8 w n) m = shiftV 8 w (n + m) ∧ shiftV 9 (shiftV 9 w n) m = shiftV 9 w (n + m) ∧ shiftV 8 w (32 + n) = shiftV 8 w n ∧ shiftV 9 w (64 + m) = shiftV 9 w m ∧
    shiftV 8 w 1 = (w + w) % 4294967296 ∧ shiftV 9 w 0 = w := by
  have a (x b : Int) : shiftV 8 x b = x * 2 ^ (b % 32).toNat % 4294967296 := rfl
  have r (x b : Int) : shiftV 9 x b = x / 2 ^ (b % 32).toNat := rfl
  have e : ((n + m) % 32).toNat = (n % 32).toNat + (m % 32).toNat := by omega
  refine ⟨?_, ?_, ?_, ?_, ?_, ?_⟩
  · rw [a, a, a, shl_shl, e]
  · rw [r, r, r, shr_shr, e]
  · rw [a, a, show (32 + n) % 32 = n % 32 by omega]
  · rw [r, r, show (64 + m) % 32 = m % 32 by omega]
  · rw [a]; exact shl_one w
  · rw [r]; simp
set_option maxRecDepth 100000 in
set_option maxHeartbeats 8000000 in
theorem ashifts_walk (l : List Int) (n' m' : Int) (W : World) (hl : Regs l) (n0' : 0 ≤ n') (n1' : n' ≤ 4294967295) (m0' : 0 ≤ m') (m1' : m' ≤ 4294967295) :
    Calls Try.prog 3 #[.agg (wA l), .int .u32 n', .int .u32 m'] W fun e w' => e = .returned (.bool true) ∧ Below W.heap.size W w' := by
  obtain ⟨n, hn, n0, n1⟩ : ∃ n, n' % 16 = n ∧ 0 ≤ n ∧ n < 16 := ⟨_, rfl, by omega, by omega⟩
  obtain ⟨m, hm, m0, m1⟩ : ∃ m, m' % 16 = m ∧ 0 ≤ m ∧ m < 16 := ⟨_, rfl, by omega, by omega⟩
  obtain ⟨x, Hx⟩ : ∃ x, Hid (regI l 1 = x) := ⟨_, hid rfl⟩
  have gx : l[1]? = some (regI l 1) := hl.get (k := 1) (by decide) (by decide)
  have hb := hl.reg 1
  rw [Hx.out] at gx hb
  obtain ⟨x0, x1⟩ := hb
  obtain ⟨f1, f2, f3, f4, f5, f6⟩ := shifts_facts x n0 n1 m0 m1
  obtain ⟨A1, HA1⟩ : ∃ V, Hid (shiftV 8 x n = V) := ⟨_, hid rfl⟩
  have A1b := shiftV_bd (op := 8) (b := n) x0 x1
  obtain ⟨B1, HB1⟩ : ∃ V, Hid (shiftV 9 x n = V) := ⟨_, hid rfl⟩
  have B1b := shiftV_bd (op := 9) (b := n) x0 x1
  rw [HA1.out] at f1 A1b f3
  rw [HB1.out] at f2 B1b
  obtain ⟨A2, HA2⟩ : ∃ V, Hid (shiftV 8 A1 m = V) := ⟨_, hid rfl⟩
  obtain ⟨B2, HB2⟩ : ∃ V, Hid (shiftV 9 B1 m = V) := ⟨_, hid rfl⟩
  rw [HA2.out] at f1
  rw [HB2.out] at f2
  obtain ⟨C1, HC1⟩ : ∃ V, Hid (shiftV 9 x m = V) := ⟨_, hid rfl⟩
  rw [HC1.out] at f4
  have F1 := hid f1.symm
  have F2 := hid f2.symm
  have F3 := hid f3
  have F4 := hid f4
  have F5 := hid f5
  have F6 := hid f6
  obtain ⟨A10, A11⟩ := A1b
  obtain ⟨B10, B11⟩ := B1b
  have HRl := hid hl
  have Gx := hid gx
  clear f1 f2 f3 f4 f5 f6 hl gx
  go_enter Try.func3, Try.ntmps3
  go_wp2_with fail
  refine (first4_any _).mono ?_
  rintro e w1 ⟨rfl, hg⟩
  have HR1 : Hid (RegAt w1 W.heap.size l) := hid (RegAt.kept0 (RegAt.new W l) hg)
  have HG1 := hid (grown_trans (World.grownBy_alloc W _ none) hg)
  have px := HR1.out.cell Gx.out
  clear hg HR1
  go_wp2_with fail
  refine (shift_any 8 x n A1 (.inl rfl) x0 x1 (by omega) (by omega) HA1.out _).mono ?_
  rintro e w2 ⟨rfl, hg⟩
  have HG2 := hid (grown_trans HG1.out hg)
  clear hg HG1 px
  go_wp2_with fail
  refine (shift_any 8 A1 m A2 (.inl rfl) A10 A11 (by omega) (by omega) HA2.out _).mono ?_
  rintro e w3 ⟨rfl, hg⟩
  have HG3 := hid (grown_trans HG2.out hg)
  clear hg HG2
  go_wp2_with fail
  refine (shift_any 9 x n B1 (.inr rfl) x0 x1 (by omega) (by omega) HB1.out _).mono ?_
  rintro e w4 ⟨rfl, hg⟩
  have HG4 := hid (grown_trans HG3.out hg)
  clear hg HG3
  go_wp2_with fail
  refine (shift_any 9 B1 m B2 (.inr rfl) B10 B11 (by omega) (by omega) HB2.out _).mono ?_
  rintro e w5 ⟨rfl, hg⟩
  have HG5 := hid (grown_trans HG4.out hg)
  clear hg HG4
  go_wp2_with fail
  refine (shift_any 8 x _ A2 (.inl rfl) x0 x1 (by omega) (by omega) F1.out _).mono ?_
  rintro e w6 ⟨rfl, hg⟩
  have HG6 := hid (grown_trans HG5.out hg)
  clear hg HG5
  go_wp2_with fail
  refine (shift_any 9 x _ B2 (.inr rfl) x0 x1 (by omega) (by omega) F2.out _).mono ?_
  rintro e w7 ⟨rfl, hg⟩
  have HG7 := hid (grown_trans HG6.out hg)
  clear hg HG6
  go_wp2_with fail
  refine (shift_any 8 x _ A1 (.inl rfl) x0 x1 (by omega) (by omega) F3.out _).mono ?_
  rintro e w8 ⟨rfl, hg⟩
  have HG8 := hid (grown_trans HG7.out hg)
  clear hg HG7
  go_wp2_with fail
  refine (shift_any 8 x n A1 (.inl rfl) x0 x1 (by omega) (by omega) HA1.out _).mono ?_
  rintro e w9 ⟨rfl, hg⟩
  have HG9 := hid (grown_trans HG8.out hg)
  clear hg HG8
  go_wp2_with fail
  refine (shift_any 9 x _ C1 (.inr rfl) x0 x1 (by omega) (by omega) F4.out _).mono ?_
  rintro e w10 ⟨rfl, hg⟩
  have HG10 := hid (grown_trans HG9.out hg)
  clear hg HG9
  go_wp2_with fail
  refine (shift_any 9 x m C1 (.inr rfl) x0 x1 (by omega) (by omega) HC1.out _).mono ?_
  rintro e w11 ⟨rfl, hg⟩
  have HG11 := hid (grown_trans HG10.out hg)
  clear hg HG10
  go_wp2_with fail
  refine (shift_any 8 x 1 _ (.inl rfl) x0 x1 (by omega) (by omega) F5.out _).mono ?_
  rintro e w12 ⟨rfl, hg⟩
  have HG12 := hid (grown_trans HG11.out hg)
  clear hg HG11
  go_wp2_with fail
  refine (shift_any 9 x 0 x (.inr rfl) x0 x1 (by omega) (by omega) F6.out _).mono ?_
  rintro e w13 ⟨rfl, hg⟩
  have HG13 := hid (grown_trans HG12.out hg)
  clear hg HG12
  go_wp2
  go_ret
  exact ⟨rfl, grown_below HG13.out⟩
end Go.Proofs.Ytniahejdddoopaa
