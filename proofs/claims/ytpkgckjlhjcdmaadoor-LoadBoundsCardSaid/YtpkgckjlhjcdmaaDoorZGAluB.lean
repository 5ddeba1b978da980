/- Do (package alu) where it answers none: contracts. -/
import Derived.Test.YtpkgckjlhjcdmaaDoorZAlu2
namespace Go.Proofs.YtpkgckjlhjcdmaaDoor
open Go.RowKit

/-- no registers -/
def zeroL : List Int := List.replicate 16 0
end Go.Proofs.YtpkgckjlhjcdmaaDoor
/- Do (package alu) of any instruction and registers: contracts. -/
namespace Go.Proofs.YtpkgckjlhjcdmaaDoor
open Go.RowKit
/-- instructions that only reckon -/
def reckB (op : Int) : Bool := decide ((1 ≤ op ∧ op ≤ 11) ∨ op = 14 ∨ op = 15 ∨ op = 24)
/-- what register A becomes -/
def reckV (op : Int) (l : List Int) (a b c imm : Int) : Int :=
  if op = 1 then regI l a else
  if op = 2 then regI l b else
  if op = 3 then (regI l b + regI l c) % 4294967296 else
  if op = 4 then (regI l b - regI l c) % 4294967296 else
  if op = 5 then bits BinOp.and IntKind.u32 (regI l b) (regI l c) else
  if op = 6 then bits BinOp.or IntKind.u32 (regI l b) (regI l c) else
  if op = 7 then bits BinOp.xor IntKind.u32 (regI l b) (regI l c) else
  if op = 8 then regI l b * 2 ^ (regI l c % 32).toNat % 4294967296 else
  if op = 9 then regI l b / 2 ^ (regI l c % 32).toNat else
  if op = 10 then oneI (decide (regI l b < regI l c)) else
  if op = 11 then oneI (regI l b == regI l c) else
  if op = 24 then regI l b * regI l c % 4294967296 else
  if op = 14 then imm else
  imm
/-- does Do answer registers? -/
def aluB (op a b c imm : Int) : Bool := insB op a b c imm && reckB op
/-- the registers that Do answers -/
def aluL (op a b c imm : Int) (l : List Int) : List Int := if aluB op a b c imm = true then l.set a.toNat (reckV op l a b c imm) else zeroL
theorem alw_reg1 {k n : Int} (hk : k = 1) (h : alwB k n = true) : 0 ≤ n ∧ n < 16 := by subst hk; unfold alwB at h; simpa using h
theorem alw_none {k n : Int} (hk : k = 0) (h : alwB k n = true) : n = 0 := by subst hk; unfold alwB at h; simpa using h
section
variable {W : World} {B : Nat} {op a b c imm : Int} {l : List Int}
end
section
variable {a b c imm : Int} {l : List Int}
end
end Go.Proofs.YtpkgckjlhjcdmaaDoor
/- The chapter's example: a contract. -/
namespace Go.Proofs.YtpkgckjlhjcdmaaDoor
open Go.RowKit
/-- a whole row, loaded where a guard says yes -/
theorem wpList_load_row_wanted {P : Program} {ops : Array Oper} {rest : List Oper} {o : Oper} {a : Act} {w : World} {Q : Exit → Act → World → Prop} (hgd : Region.wanted o (yielded ops a.tmps) = true) (ty : TypeId) (x : Operand) (ho : o.op = .load ty x)
    (g : Nat) (hx : a.eval x = .pointer (some ⟨g, 0, none⟩)) (t : TypeId) (cs : Array Value) (fr : Nat × Nat) (d : TypeDesc) (hg : w.heap[g]? = some (.cells cs t fr))
    (hu : P.underlying ty = some d) (hd : (match d with | .struct _ | .array _ _ => true | _ => false) = true) (hi : (P.info? ty).map (·.size) = some cs.size)
    (h : wpList P ops Q rest (a.put o.dst (.agg cs)) w) : wpList P ops Q (o :: rest) a w := by
  simp only [wpList, hgd, if_true]
  exact Or.inl (wp_load_row ty x ho g hx t cs fr d hg hu hd hi h)
theorem alu_example : aluL 3 1 2 3 0 [0, 0, 5, 7, 0, 0, 0, 0, 0, 0, 0, 0, 0, 0, 0, 0] = [0, 12, 5, 7, 0, 0, 0, 0, 0, 0, 0, 0, 0, 0, 0, 0] ∧ aluB 3 1 2 3 0 = true := by decide
theorem example_regs : Regs [0, 0, 5, 7, 0, 0, 0, 0, 0, 0, 0, 0, 0, 0, 0, 0] := ⟨rfl, by decide⟩
theorem aluL_length {op a b c imm : Int} {l : List Int} (hl : Regs l) : (aluL op a b c imm l).length = 16 := by
  unfold aluL; split
  · rw [List.length_set]; exact hl.len
  · rfl
theorem bits_bd (o : BinOp) {x y : Int} (h : o = .and ∨ o = .or ∨ o = .xor) (x0 : 0 ≤ x) (x1 : x < 4294967296) (y0 : 0 ≤ y) (y1 : y < 4294967296) : 0 ≤ bits o IntKind.u32 x y ∧ bits o IntKind.u32 x y < 4294967296 := by
  obtain ⟨n, rfl⟩ := Int.eq_ofNat_of_zero_le x0
  obtain ⟨m, rfl⟩ := Int.eq_ofNat_of_zero_le y0
  have hn : n < 2 ^ 32 := by omega
  have hm : m < 2 ^ 32 := by omega
  rcases h with rfl | rfl | rfl
  · rw [u32_and_nat n m (by omega) (by omega)]
    have : n &&& m < 2 ^ 32 := Nat.and_lt_two_pow n hm
    omega
  · rw [u32_or_nat n m (by omega) (by omega)]
    have : n ||| m < 2 ^ 32 := Nat.or_lt_two_pow hn hm
    omega
  · rw [u32_xor n m (by omega) (by omega) (by omega) (by omega)]
    have : (n : Int).toNat ^^^ (m : Int).toNat < 2 ^ 32 := Nat.xor_lt_two_pow (by omega) (by omega)
    omega
theorem oneI_bd (t : Bool) : 0 ≤ oneI t ∧ oneI t < 4294967296 := by cases t <;> decide
theorem shr_bd {x : Int} (n : Nat) (x0 : 0 ≤ x) (x1 : x < 4294967296) : 0 ≤ x / 2 ^ n ∧ x / 2 ^ n < 4294967296 := by
  have hp : (0 : Int) < 2 ^ n := Int.pow_pos (by decide)
  refine ⟨Int.ediv_nonneg x0 (by omega), ?_⟩
  have := Int.ediv_le_self (2 ^ n) x0
  omega
def WordI (x : Int) : Prop := 0 ≤ x ∧ x < 4294967296
theorem wite {p : Prop} [Decidable p] {x y : Int} (hx : WordI x) (hy : WordI y) : WordI (if p then x else y) := by by_cases h : p <;> simp [h, hx, hy]
theorem reckV_bd (op : Int) {l : List Int} (hl : Regs l) (a b c : Int) {imm : Int} (i0 : 0 ≤ imm) (i1 : imm < 4294967296) : 0 ≤ reckV op l a b c imm ∧ reckV op l a b c imm < 4294967296 := by
  obtain ⟨x0, x1⟩ := hl.reg b
  obtain ⟨y0, y1⟩ := hl.reg c
  have z := hl.reg a
  have m (e : Int) : 0 ≤ e % 4294967296 ∧ e % 4294967296 < 4294967296 := ⟨Int.emod_nonneg _ (by decide), Int.emod_lt_of_pos _ (by decide)⟩
  suffices h : WordI (reckV op l a b c imm) from h
  unfold reckV
  repeat' apply wite
  all_goals show _ ∧ _
  all_goals first | decide | exact z | exact ⟨x0, x1⟩ | exact m _ | exact bits_bd _ (by simp) x0 x1 y0 y1 | exact shr_bd _ x0 x1 | exact oneI_bd _ | exact ⟨i0, i1⟩
theorem aluL_regs {op a b c imm : Int} {l : List Int} (hl : Regs l) (i0 : 0 ≤ imm) (i1 : imm < 4294967296) : Regs (aluL op a b c imm l) := by
  unfold aluL; split
  · exact hl.set _ (reckV_bd op hl a b c i0 i1).1 (reckV_bd op hl a b c i0 i1).2
  · exact ⟨rfl, by decide⟩
end Go.Proofs.YtpkgckjlhjcdmaaDoor
