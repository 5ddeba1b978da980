/- The chapter's example: a contract. -/
import Derived.Test.YtniahejdddoopaaAlu4
namespace Go.Proofs.Ytniahejdddoopaa
open Go.RowKit
/-- a whole row, loaded where a guard says yes -/
theorem wpList_load_row_wanted {P : Program} {ops : Array Oper} {rest : List Oper} {o : Oper} {a : Act} {w : World} {Q : Exit → Act → World → Prop} (hgd : Region.wanted o (yielded ops a.tmps) = true) (ty : TypeId) (x : Operand) (ho : o.op = .load ty x)
    (g : Nat) (hx : a.eval x = .pointer (some ⟨g, 0, none⟩)) (t : TypeId) (cs : Array Value) (fr : Nat × Nat) (d : TypeDesc) (hg : w.heap[g]? = some (.cells cs t fr))
    (hu : P.underlying ty = some d) (hd : (match d with | .struct _ | .array _ _ => true | _ => false) = true) (hi : (P.info? ty).map (·.size) = some cs.size)
    (h : wpList P ops Q rest (a.put o.dst (.agg cs)) w) : wpList P ops Q (o :: rest) a w := by
  simp only [wpList, hgd, if_true]
  exact Or.inl (wp_load_row ty x ho g hx t cs fr d hg hu hd hi h)
theorem alu_example : aluL 3 1 2 3 0 [0, 0, 5, 7, 0, 0, 0, 0, 0, 0, 0, 0, 0, 0, 0, 0] = [0, 12, 5, 7, 0, 0, 0, 0, 0, 0, 0, 0, 0, 0, 0, 0] ∧ aluB 3 1 2 3 0 = true := by decide
theorem example_regs : Regs [0, 0, 5, 7, 0, 0, 0, 0, 0, 0, 0, 0, 0, 0, 0, 0] := ⟨rfl, by decide⟩
theorem aluL_length {op a b c imm : Int} {l : List Int} (hl : Regs l) : (aluL op a b c imm l).length = 16 := by
  unfold aluL; split
  · rw [List.length_set]; exact hl.len
  · rfl
theorem bits_bd (o : BinOp) {x y : Int} (h : o = .and ∨ o = .or ∨ o = .xor) (x0 : 0 ≤ x) (x1 : x < 4294967296) (y0 : 0 ≤ y) (y1 : y < 4294967296) : 0 ≤ bits o IntKind.u32 x y ∧ bits o IntKind.u32 x y < 4294967296 := by
  obtain ⟨n, rfl⟩ := Int.eq_ofNat_of_zero_le x0
  obtain ⟨m, rfl⟩ := Int.eq_ofNat_of_zero_le y0
  have hn : n < 2 ^ 32 := by omega
  have hm : m < 2 ^ 32 := by omega
  rcases h with rfl | rfl | rfl
  · rw [u32_and_nat n m (by omega) (by omega)]
    have : n &&& m < 2 ^ 32 := Nat.and_lt_two_pow n hm
    omega
  · rw [u32_or_nat n m (by omega) (by omega)]
    have : n ||| m < 2 ^ 32 := Nat.or_lt_two_pow hn hm
    omega
  · rw [u32_xor n m (by omega) (by omega) (by omega) (by omega)]
    have : (n : Int).toNat ^^^ (m : Int).toNat < 2 ^ 32 := Nat.xor_lt_two_pow (by omega) (by omega)
    omega
theorem oneI_bd (t : Bool) : 0 ≤ oneI t ∧ oneI t < 4294967296 := by cases t <;> decide
theorem shr_bd {x : Int} (n : Nat) (x0 : 0 ≤ x) (x1 : x < 4294967296) : 0 ≤ x / 2 ^ n ∧ x / 2 ^ n < 4294967296 := by
  have hp : (0 : Int) < 2 ^ n := Int.pow_pos (by decide)
  refine ⟨Int.ediv_nonneg x0 (by omega), ?_⟩
  have := Int.ediv_le_self (2 ^ n) x0
  omega
def WordI (x : Int) : Prop := 0 ≤ x ∧ x < 4294967296
theorem wite {p : Prop} [Decidable p] {x y : Int} (hx : WordI x) (hy : WordI y) : WordI (if p then x else y) := by by_cases h : p <;> simp [h, hx, hy]
theorem reckV_bd (op : Int) {l : List Int} (hl : Regs l) (a b c : Int) {imm : Int} (i0 : 0 ≤ imm) (i1 : imm < 4294967296) : 0 ≤ reckV op l a b c imm ∧ reckV op l a b c imm < 4294967296 := by
  obtain ⟨x0, x1⟩ := hl.reg b
  obtain ⟨y0, y1⟩ := hl.reg c
  have z := hl.reg a
  have m (e : Int) : 0 ≤ e % 4294967296 ∧ e % 4294967296 < 4294967296 := ⟨Int.emod_nonneg _ (by decide), Int.emod_lt_of_pos _ (by decide)⟩
  suffices h : WordI (reckV op l a b c imm) from h
  unfold reckV
  repeat' apply wite
  all_goals show _ ∧ _
  all_goals first | decide | exact z | exact ⟨x0, x1⟩ | exact m _ | exact bits_bd _ (by simp) x0 x1 y0 y1 | exact shr_bd _ x0 x1 | exact oneI_bd _ | exact ⟨i0, i1⟩
theorem aluL_regs {op a b c imm : Int} {l : List Int} (hl : Regs l) (i0 : 0 ≤ imm) (i1 : imm < 4294967296) : Regs (aluL op a b c imm l) := by
  unfold aluL; split
  · exact hl.set _ (reckV_bd op hl a b c i0 i1).1 (reckV_bd op hl a b c i0 i1).2
  · exact ⟨rfl, by decide⟩
set_option maxHeartbeats 1000000 in
theorem first4_any (W : World) : Calls Try.prog 8 #[] W fun e w' => e = .returned (.bool true) ∧ W.grownBy w' none := by
  obtain ⟨L, HL, hL⟩ : ∃ L, Hid (aluL 3 1 2 3 0 [0, 0, 5, 7, 0, 0, 0, 0, 0, 0, 0, 0, 0, 0, 0, 0] = L) ∧ L[1]? = some 12 := ⟨_, hid rfl, by rw [alu_example.1]; rfl⟩
  have HB : Hid (aluB 3 1 2 3 0 = true) := hid alu_example.2
  have Hs : Hid ((Try.prog.info? 24).map (·.size) = some 16) := hid regs_info
  have Hl : Hid (L.length = 16) := hid (by rw [← HL.out]; exact aluL_length example_regs)
  have Hs5 := hid (regs_len_info L Hl.out)
  have Hz : Hid (16 = (wA L).size) := hid (by rw [wA_size, Hl.out])
  have hLx := hid hL
  clear hL
  go_enter Try.func8, Try.ntmps8
  go_wp2_with (refine wpList_load_row rfl 24 _ rfl W.heap.size rfl _ _ _ _ (heap_alloc_last W _) Try.underlying24 rfl Hs.out ?_)
  refine (do_of 3 1 2 3 0 example_regs L true HL.out HB.out _).mono ?_
  rintro e w1 ⟨rfl, hg⟩
  have HG := hid (grown_trans (World.grownBy_alloc W _ none) hg)
  have c1 := (RegAt.new w1 L).cell hLx.out
  clear hg
  go_wp2_with (refine wpList_store_row rfl 24 _ _ rfl w1.heap.size _ rfl rfl _ _ (heap_alloc_last w1 _) Hs5.out Hz.out (wA_one _) ?_; rw [World.setRow_alloc_new])
  go_ret
  exact ⟨rfl, grown_alloc HG.out _⟩
end Go.Proofs.Ytniahejdddoopaa
