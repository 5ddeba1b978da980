/- Do (package alu) of any instruction and registers: contracts. -/
import Derived.Test.YtniahejdddoopaaAlu3
namespace Go.Proofs.Ytniahejdddoopaa
open Go.RowKit
/-- instructions that only reckon -/
def reckB (op : Int) : Bool := decide ((1 ≤ op ∧ op ≤ 11) ∨ op = 14 ∨ op = 15 ∨ op = 24)
/-- what register A becomes -/
def reckV (op : Int) (l : List Int) (a b c imm : Int) : Int :=
  if op = 1 then regI l a else
  if op = 2 then regI l b else
  if op = 3 then (regI l b + regI l c) % 4294967296 else
  if op = 4 then (regI l b - regI l c) % 4294967296 else
  if op = 5 then bits BinOp.and IntKind.u32 (regI l b) (regI l c) else
  if op = 6 then bits BinOp.or IntKind.u32 (regI l b) (regI l c) else
  if op = 7 then bits BinOp.xor IntKind.u32 (regI l b) (regI l c) else
  if op = 8 then regI l b * 2 ^ (regI l c % 32).toNat % 4294967296 else
  if op = 9 then regI l b / 2 ^ (regI l c % 32).toNat else
  if op = 10 then oneI (decide (regI l b < regI l c)) else
  if op = 11 then oneI (regI l b == regI l c) else
  if op = 24 then regI l b * regI l c % 4294967296 else
  if op = 14 then imm else
  imm
/-- does Do answer registers? -/
def aluB (op a b c imm : Int) : Bool := insB op a b c imm && reckB op
/-- the registers that Do answers -/
def aluL (op a b c imm : Int) (l : List Int) : List Int := if aluB op a b c imm = true then l.set a.toNat (reckV op l a b c imm) else zeroL
theorem alw_reg1 {k n : Int} (hk : k = 1) (h : alwB k n = true) : 0 ≤ n ∧ n < 16 := by subst hk; unfold alwB at h; simpa using h
theorem alw_none {k n : Int} (hk : k = 0) (h : alwB k n = true) : n = 0 := by subst hk; unfold alwB at h; simpa using h
section
variable {W : World} {B : Nat} {op a b c imm : Int} {l : List Int}
theorem reck_1 (W : World) (B : Nat) (h : StepAt W B 1 a b c imm l) :
    Calls Try.prog 17 #[.pointer (some ⟨B, 0, none⟩)] W fun e w' => e = .returned (.func (.func 25) #[.pointer (some ⟨B, 0, none⟩)] #[]) ∧ W.grownBy w' none := by
  have k0 := h.c0
  clear h
  go_enter Try.func17, Try.ntmps17
  go_wp2
  go_ret
  exact ⟨rfl, grown_refl _ _⟩
theorem reck_2 (W : World) (B : Nat) (h : StepAt W B 2 a b c imm l) :
    Calls Try.prog 17 #[.pointer (some ⟨B, 0, none⟩)] W fun e w' => e = .returned (.func (.func 26) #[.pointer (some ⟨B, 0, none⟩)] #[]) ∧ W.grownBy w' none := by
  have k0 := h.c0
  clear h
  go_enter Try.func17, Try.ntmps17
  go_wp2
  go_ret
  exact ⟨rfl, grown_refl _ _⟩
theorem reck_3 (W : World) (B : Nat) (h : StepAt W B 3 a b c imm l) :
    Calls Try.prog 17 #[.pointer (some ⟨B, 0, none⟩)] W fun e w' => e = .returned (.func (.func 27) #[.pointer (some ⟨B, 0, none⟩)] #[]) ∧ W.grownBy w' none := by
  have k0 := h.c0
  clear h
  go_enter Try.func17, Try.ntmps17
  go_wp2
  go_ret
  exact ⟨rfl, grown_refl _ _⟩
theorem reck_4 (W : World) (B : Nat) (h : StepAt W B 4 a b c imm l) :
    Calls Try.prog 17 #[.pointer (some ⟨B, 0, none⟩)] W fun e w' => e = .returned (.func (.func 28) #[.pointer (some ⟨B, 0, none⟩)] #[]) ∧ W.grownBy w' none := by
  have k0 := h.c0
  clear h
  go_enter Try.func17, Try.ntmps17
  go_wp2
  go_ret
  exact ⟨rfl, grown_refl _ _⟩
theorem reck_5 (W : World) (B : Nat) (h : StepAt W B 5 a b c imm l) :
    Calls Try.prog 17 #[.pointer (some ⟨B, 0, none⟩)] W fun e w' => e = .returned (.func (.func 29) #[.pointer (some ⟨B, 0, none⟩)] #[]) ∧ W.grownBy w' none := by
  have k0 := h.c0
  clear h
  go_enter Try.func17, Try.ntmps17
  go_wp2
  go_ret
  exact ⟨rfl, grown_refl _ _⟩
theorem reck_6 (W : World) (B : Nat) (h : StepAt W B 6 a b c imm l) :
    Calls Try.prog 17 #[.pointer (some ⟨B, 0, none⟩)] W fun e w' => e = .returned (.func (.func 30) #[.pointer (some ⟨B, 0, none⟩)] #[]) ∧ W.grownBy w' none := by
  have k0 := h.c0
  clear h
  go_enter Try.func17, Try.ntmps17
  go_wp2
  go_ret
  exact ⟨rfl, grown_refl _ _⟩
theorem reck_7 (W : World) (B : Nat) (h : StepAt W B 7 a b c imm l) :
    Calls Try.prog 17 #[.pointer (some ⟨B, 0, none⟩)] W fun e w' => e = .returned (.func (.func 31) #[.pointer (some ⟨B, 0, none⟩)] #[]) ∧ W.grownBy w' none := by
  have k0 := h.c0
  clear h
  go_enter Try.func17, Try.ntmps17
  go_wp2
  go_ret
  exact ⟨rfl, grown_refl _ _⟩
theorem reck_8 (W : World) (B : Nat) (h : StepAt W B 8 a b c imm l) :
    Calls Try.prog 17 #[.pointer (some ⟨B, 0, none⟩)] W fun e w' => e = .returned (.func (.func 32) #[.pointer (some ⟨B, 0, none⟩)] #[]) ∧ W.grownBy w' none := by
  have k0 := h.c0
  clear h
  go_enter Try.func17, Try.ntmps17
  go_wp2
  go_ret
  exact ⟨rfl, grown_refl _ _⟩
theorem reck_9 (W : World) (B : Nat) (h : StepAt W B 9 a b c imm l) :
    Calls Try.prog 17 #[.pointer (some ⟨B, 0, none⟩)] W fun e w' => e = .returned (.func (.func 33) #[.pointer (some ⟨B, 0, none⟩)] #[]) ∧ W.grownBy w' none := by
  have k0 := h.c0
  clear h
  go_enter Try.func17, Try.ntmps17
  go_wp2
  go_ret
  exact ⟨rfl, grown_refl _ _⟩
theorem reck_10 (W : World) (B : Nat) (h : StepAt W B 10 a b c imm l) :
    Calls Try.prog 17 #[.pointer (some ⟨B, 0, none⟩)] W fun e w' => e = .returned (.func (.func 34) #[.pointer (some ⟨B, 0, none⟩)] #[]) ∧ W.grownBy w' none := by
  have k0 := h.c0
  clear h
  go_enter Try.func17, Try.ntmps17
  go_wp2
  go_ret
  exact ⟨rfl, grown_refl _ _⟩
theorem reck_11 (W : World) (B : Nat) (h : StepAt W B 11 a b c imm l) :
    Calls Try.prog 17 #[.pointer (some ⟨B, 0, none⟩)] W fun e w' => e = .returned (.func (.func 35) #[.pointer (some ⟨B, 0, none⟩)] #[]) ∧ W.grownBy w' none := by
  have k0 := h.c0
  clear h
  go_enter Try.func17, Try.ntmps17
  go_wp2
  go_ret
  exact ⟨rfl, grown_refl _ _⟩
theorem reck_24 (W : World) (B : Nat) (h : StepAt W B 24 a b c imm l) :
    Calls Try.prog 17 #[.pointer (some ⟨B, 0, none⟩)] W fun e w' => e = .returned (.func (.func 36) #[.pointer (some ⟨B, 0, none⟩)] #[]) ∧ W.grownBy w' none := by
  have k0 := h.c0
  clear h
  go_enter Try.func17, Try.ntmps17
  go_wp2
  go_ret
  exact ⟨rfl, grown_refl _ _⟩
theorem reck_14 (W : World) (B : Nat) (h : StepAt W B 14 a b c imm l) :
    Calls Try.prog 17 #[.pointer (some ⟨B, 0, none⟩)] W fun e w' => e = .returned (.func (.func 37) #[.pointer (some ⟨B, 0, none⟩)] #[]) ∧ W.grownBy w' none := by
  have k0 := h.c0
  clear h
  go_enter Try.func17, Try.ntmps17
  go_wp2
  go_ret
  exact ⟨rfl, grown_refl _ _⟩
theorem reck_15 (W : World) (B : Nat) (h : StepAt W B 15 a b c imm l) :
    Calls Try.prog 17 #[.pointer (some ⟨B, 0, none⟩)] W fun e w' => e = .returned (.func (.func 37) #[.pointer (some ⟨B, 0, none⟩)] #[]) ∧ W.grownBy w' none := by
  have k0 := h.c0
  clear h
  go_enter Try.func17, Try.ntmps17
  go_wp2
  go_ret
  exact ⟨rfl, grown_refl _ _⟩
theorem reck_no (W : World) (B : Nat) (h : StepAt W B op a b c imm l) (h1 : (op == 1) = false) (h2 : (op == 2) = false) (h3 : (op == 3) = false) (h4 : (op == 4) = false) (h5 : (op == 5) = false) (h6 : (op == 6) = false) (h7 : (op == 7) = false) (h8 : (op == 8) = false) (h9 : (op == 9) = false) (h10 : (op == 10) = false) (h11 : (op == 11) = false) (h24 : (op == 24) = false) (h14 : (op == 14) = false) (h15 : (op == 15) = false) :
    Calls Try.prog 17 #[.pointer (some ⟨B, 0, none⟩)] W fun e w' => e = .returned .nilFunc ∧ W.grownBy w' none := by
  have k0 := h.c0
  clear h
  go_enter Try.func17, Try.ntmps17
  go_wp2
  go_ret
  exact ⟨rfl, grown_refl _ _⟩
end
section
variable {a b c imm : Int} {l : List Int}
theorem do_1 (W : World) (hl : Regs l) (hi : insB 1 a b c imm = true) :
    Calls Try.prog 10 #[.agg #[.int .i64 1, .int .i64 a, .int .i64 b, .int .i64 c, .int .u32 imm], .agg (wA l)] W fun e w' => e = .returned (.tuple #[.agg (wA (l.set a.toNat (regI l a))), .bool true]) ∧ W.grownBy w' none := by
  obtain ⟨_, ha, hb, hc, _⟩ := ins_parts hi
  have ea := alw_none (by decide) ha
  have a0 : 0 ≤ a := by omega
  have a1 : a < 16 := by omega
  exact do_core W hl hi a0 a1 25 _ (fun W B h => reck_1 W B h) (fun xs w => by kernel_rfl) (fun W B h => a_any h hl a0 a1)
theorem do_2 (W : World) (hl : Regs l) (hi : insB 2 a b c imm = true) :
    Calls Try.prog 10 #[.agg #[.int .i64 2, .int .i64 a, .int .i64 b, .int .i64 c, .int .u32 imm], .agg (wA l)] W fun e w' => e = .returned (.tuple #[.agg (wA (l.set a.toNat (regI l b))), .bool true]) ∧ W.grownBy w' none := by
  obtain ⟨_, ha, hb, hc, _⟩ := ins_parts hi
  obtain ⟨a0, a1⟩ := alw_reg1 (by decide) ha
  obtain ⟨b0, b1⟩ := alw_reg1 (by decide) hb
  exact do_core W hl hi a0 a1 26 _ (fun W B h => reck_2 W B h) (fun xs w => by kernel_rfl) (fun W B h => b_any h hl b0 b1)
theorem do_3 (W : World) (hl : Regs l) (hi : insB 3 a b c imm = true) :
    Calls Try.prog 10 #[.agg #[.int .i64 3, .int .i64 a, .int .i64 b, .int .i64 c, .int .u32 imm], .agg (wA l)] W fun e w' => e = .returned (.tuple #[.agg (wA (l.set a.toNat ((regI l b + regI l c) % 4294967296))), .bool true]) ∧ W.grownBy w' none := by
  obtain ⟨_, ha, hb, hc, _⟩ := ins_parts hi
  obtain ⟨a0, a1⟩ := alw_reg1 (by decide) ha
  obtain ⟨b0, b1⟩ := alw_reg1 (by decide) hb
  obtain ⟨c0, c1⟩ := alw_reg1 (by decide) hc
  exact do_core W hl hi a0 a1 27 _ (fun W B h => reck_3 W B h) (fun xs w => by kernel_rfl) (fun W B h => add_any h hl b0 b1 c0 c1)
theorem do_4 (W : World) (hl : Regs l) (hi : insB 4 a b c imm = true) :
    Calls Try.prog 10 #[.agg #[.int .i64 4, .int .i64 a, .int .i64 b, .int .i64 c, .int .u32 imm], .agg (wA l)] W fun e w' => e = .returned (.tuple #[.agg (wA (l.set a.toNat ((regI l b - regI l c) % 4294967296))), .bool true]) ∧ W.grownBy w' none := by
  obtain ⟨_, ha, hb, hc, _⟩ := ins_parts hi
  obtain ⟨a0, a1⟩ := alw_reg1 (by decide) ha
  obtain ⟨b0, b1⟩ := alw_reg1 (by decide) hb
  obtain ⟨c0, c1⟩ := alw_reg1 (by decide) hc
  exact do_core W hl hi a0 a1 28 _ (fun W B h => reck_4 W B h) (fun xs w => by kernel_rfl) (fun W B h => sub_any h hl b0 b1 c0 c1)
theorem do_5 (W : World) (hl : Regs l) (hi : insB 5 a b c imm = true) :
    Calls Try.prog 10 #[.agg #[.int .i64 5, .int .i64 a, .int .i64 b, .int .i64 c, .int .u32 imm], .agg (wA l)] W fun e w' => e = .returned (.tuple #[.agg (wA (l.set a.toNat (bits BinOp.and IntKind.u32 (regI l b) (regI l c)))), .bool true]) ∧ W.grownBy w' none := by
  obtain ⟨_, ha, hb, hc, _⟩ := ins_parts hi
  obtain ⟨a0, a1⟩ := alw_reg1 (by decide) ha
  obtain ⟨b0, b1⟩ := alw_reg1 (by decide) hb
  obtain ⟨c0, c1⟩ := alw_reg1 (by decide) hc
  exact do_core W hl hi a0 a1 29 _ (fun W B h => reck_5 W B h) (fun xs w => by kernel_rfl) (fun W B h => and_any h hl b0 b1 c0 c1)
theorem do_6 (W : World) (hl : Regs l) (hi : insB 6 a b c imm = true) :
    Calls Try.prog 10 #[.agg #[.int .i64 6, .int .i64 a, .int .i64 b, .int .i64 c, .int .u32 imm], .agg (wA l)] W fun e w' => e = .returned (.tuple #[.agg (wA (l.set a.toNat (bits BinOp.or IntKind.u32 (regI l b) (regI l c)))), .bool true]) ∧ W.grownBy w' none := by
  obtain ⟨_, ha, hb, hc, _⟩ := ins_parts hi
  obtain ⟨a0, a1⟩ := alw_reg1 (by decide) ha
  obtain ⟨b0, b1⟩ := alw_reg1 (by decide) hb
  obtain ⟨c0, c1⟩ := alw_reg1 (by decide) hc
  exact do_core W hl hi a0 a1 30 _ (fun W B h => reck_6 W B h) (fun xs w => by kernel_rfl) (fun W B h => or_any h hl b0 b1 c0 c1)
theorem do_7 (W : World) (hl : Regs l) (hi : insB 7 a b c imm = true) :
    Calls Try.prog 10 #[.agg #[.int .i64 7, .int .i64 a, .int .i64 b, .int .i64 c, .int .u32 imm], .agg (wA l)] W fun e w' => e = .returned (.tuple #[.agg (wA (l.set a.toNat (bits BinOp.xor IntKind.u32 (regI l b) (regI l c)))), .bool true]) ∧ W.grownBy w' none := by
  obtain ⟨_, ha, hb, hc, _⟩ := ins_parts hi
  obtain ⟨a0, a1⟩ := alw_reg1 (by decide) ha
  obtain ⟨b0, b1⟩ := alw_reg1 (by decide) hb
  obtain ⟨c0, c1⟩ := alw_reg1 (by decide) hc
  exact do_core W hl hi a0 a1 31 _ (fun W B h => reck_7 W B h) (fun xs w => by kernel_rfl) (fun W B h => xor_any h hl b0 b1 c0 c1)
theorem do_8 (W : World) (hl : Regs l) (hi : insB 8 a b c imm = true) :
    Calls Try.prog 10 #[.agg #[.int .i64 8, .int .i64 a, .int .i64 b, .int .i64 c, .int .u32 imm], .agg (wA l)] W fun e w' => e = .returned (.tuple #[.agg (wA (l.set a.toNat (regI l b * 2 ^ (regI l c % 32).toNat % 4294967296))), .bool true]) ∧ W.grownBy w' none := by
  obtain ⟨_, ha, hb, hc, _⟩ := ins_parts hi
  obtain ⟨a0, a1⟩ := alw_reg1 (by decide) ha
  obtain ⟨b0, b1⟩ := alw_reg1 (by decide) hb
  obtain ⟨c0, c1⟩ := alw_reg1 (by decide) hc
  exact do_core W hl hi a0 a1 32 _ (fun W B h => reck_8 W B h) (fun xs w => by kernel_rfl) (fun W B h => shl_any h hl b0 b1 c0 c1)
theorem do_9 (W : World) (hl : Regs l) (hi : insB 9 a b c imm = true) :
    Calls Try.prog 10 #[.agg #[.int .i64 9, .int .i64 a, .int .i64 b, .int .i64 c, .int .u32 imm], .agg (wA l)] W fun e w' => e = .returned (.tuple #[.agg (wA (l.set a.toNat (regI l b / 2 ^ (regI l c % 32).toNat))), .bool true]) ∧ W.grownBy w' none := by
  obtain ⟨_, ha, hb, hc, _⟩ := ins_parts hi
  obtain ⟨a0, a1⟩ := alw_reg1 (by decide) ha
  obtain ⟨b0, b1⟩ := alw_reg1 (by decide) hb
  obtain ⟨c0, c1⟩ := alw_reg1 (by decide) hc
  exact do_core W hl hi a0 a1 33 _ (fun W B h => reck_9 W B h) (fun xs w => by kernel_rfl) (fun W B h => shr_any h hl b0 b1 c0 c1)
theorem do_10 (W : World) (hl : Regs l) (hi : insB 10 a b c imm = true) :
    Calls Try.prog 10 #[.agg #[.int .i64 10, .int .i64 a, .int .i64 b, .int .i64 c, .int .u32 imm], .agg (wA l)] W fun e w' => e = .returned (.tuple #[.agg (wA (l.set a.toNat (oneI (decide (regI l b < regI l c))))), .bool true]) ∧ W.grownBy w' none := by
  obtain ⟨_, ha, hb, hc, _⟩ := ins_parts hi
  obtain ⟨a0, a1⟩ := alw_reg1 (by decide) ha
  obtain ⟨b0, b1⟩ := alw_reg1 (by decide) hb
  obtain ⟨c0, c1⟩ := alw_reg1 (by decide) hc
  exact do_core W hl hi a0 a1 34 _ (fun W B h => reck_10 W B h) (fun xs w => by kernel_rfl) (fun W B h => lt_any h hl b0 b1 c0 c1)
theorem do_11 (W : World) (hl : Regs l) (hi : insB 11 a b c imm = true) :
    Calls Try.prog 10 #[.agg #[.int .i64 11, .int .i64 a, .int .i64 b, .int .i64 c, .int .u32 imm], .agg (wA l)] W fun e w' => e = .returned (.tuple #[.agg (wA (l.set a.toNat (oneI (regI l b == regI l c)))), .bool true]) ∧ W.grownBy w' none := by
  obtain ⟨_, ha, hb, hc, _⟩ := ins_parts hi
  obtain ⟨a0, a1⟩ := alw_reg1 (by decide) ha
  obtain ⟨b0, b1⟩ := alw_reg1 (by decide) hb
  obtain ⟨c0, c1⟩ := alw_reg1 (by decide) hc
  exact do_core W hl hi a0 a1 35 _ (fun W B h => reck_11 W B h) (fun xs w => by kernel_rfl) (fun W B h => eq_any h hl b0 b1 c0 c1)
theorem do_24 (W : World) (hl : Regs l) (hi : insB 24 a b c imm = true) :
    Calls Try.prog 10 #[.agg #[.int .i64 24, .int .i64 a, .int .i64 b, .int .i64 c, .int .u32 imm], .agg (wA l)] W fun e w' => e = .returned (.tuple #[.agg (wA (l.set a.toNat (regI l b * regI l c % 4294967296))), .bool true]) ∧ W.grownBy w' none := by
  obtain ⟨_, ha, hb, hc, _⟩ := ins_parts hi
  obtain ⟨a0, a1⟩ := alw_reg1 (by decide) ha
  obtain ⟨b0, b1⟩ := alw_reg1 (by decide) hb
  obtain ⟨c0, c1⟩ := alw_reg1 (by decide) hc
  exact do_core W hl hi a0 a1 36 _ (fun W B h => reck_24 W B h) (fun xs w => by kernel_rfl) (fun W B h => mul_any h hl b0 b1 c0 c1)
theorem do_14 (W : World) (hl : Regs l) (hi : insB 14 a b c imm = true) :
    Calls Try.prog 10 #[.agg #[.int .i64 14, .int .i64 a, .int .i64 b, .int .i64 c, .int .u32 imm], .agg (wA l)] W fun e w' => e = .returned (.tuple #[.agg (wA (l.set a.toNat (imm))), .bool true]) ∧ W.grownBy w' none := by
  obtain ⟨_, ha, hb, hc, _⟩ := ins_parts hi
  obtain ⟨a0, a1⟩ := alw_reg1 (by decide) ha
  exact do_core W hl hi a0 a1 37 _ (fun W B h => reck_14 W B h) (fun xs w => by kernel_rfl) (fun W B h => imm_any h)
theorem do_15 (W : World) (hl : Regs l) (hi : insB 15 a b c imm = true) :
    Calls Try.prog 10 #[.agg #[.int .i64 15, .int .i64 a, .int .i64 b, .int .i64 c, .int .u32 imm], .agg (wA l)] W fun e w' => e = .returned (.tuple #[.agg (wA (l.set a.toNat (imm))), .bool true]) ∧ W.grownBy w' none := by
  obtain ⟨_, ha, hb, hc, _⟩ := ins_parts hi
  obtain ⟨a0, a1⟩ := alw_reg1 (by decide) ha
  exact do_core W hl hi a0 a1 37 _ (fun W B h => reck_15 W B h) (fun xs w => by kernel_rfl) (fun W B h => imm_any h)
end
set_option maxRecDepth 10000 in
theorem do_any (op a b c imm : Int) {l : List Int} (hl : Regs l) (W : World) :
    Calls Try.prog 10 #[.agg #[.int .i64 op, .int .i64 a, .int .i64 b, .int .i64 c, .int .u32 imm], .agg (wA l)] W fun e w' => e = .returned (.tuple #[.agg (wA (aluL op a b c imm l)), .bool (aluB op a b c imm)]) ∧ W.grownBy w' none := by
  cases hi : insB op a b c imm
  · have h1 : aluB op a b c imm = false := by unfold aluB; rw [hi]; rfl
    have h2 : aluL op a b c imm l = zeroL := by unfold aluL; rw [if_neg (by simp [h1])]
    rw [h1, h2]
    exact do_no W hi
  · cases hk : reckB op
    · have h1 : aluB op a b c imm = false := by unfold aluB; rw [hi, hk]; rfl
      have h2 : aluL op a b c imm l = zeroL := by unfold aluL; rw [if_neg (by simp [h1])]
      rw [h1, h2]
      have hk' := of_decide_eq_false hk
      have q : ∀ k : Int, ((1 ≤ k ∧ k ≤ 11) ∨ k = 14 ∨ k = 15 ∨ k = 24) → (op == k) = false := fun k h => by
        rw [beq_eq_false_iff_ne]; intro e; exact hk' (by rw [e]; exact h)
      exact do_none W hl hi (fun W B h => reck_no W B h (q 1 (by decide)) (q 2 (by decide)) (q 3 (by decide)) (q 4 (by decide)) (q 5 (by decide)) (q 6 (by decide)) (q 7 (by decide)) (q 8 (by decide)) (q 9 (by decide)) (q 10 (by decide)) (q 11 (by decide)) (q 24 (by decide)) (q 14 (by decide)) (q 15 (by decide)))
    · have h1 : aluB op a b c imm = true := by unfold aluB; rw [hi, hk]; rfl
      have h2 : aluL op a b c imm l = l.set a.toNat (reckV op l a b c imm) := by unfold aluL; rw [if_pos h1]
      rw [h1, h2]
      have hk' : (1 ≤ op ∧ op ≤ 11) ∨ op = 14 ∨ op = 15 ∨ op = 24 := of_decide_eq_true hk
      have : op = 1 ∨ op = 2 ∨ op = 3 ∨ op = 4 ∨ op = 5 ∨ op = 6 ∨ op = 7 ∨ op = 8 ∨ op = 9 ∨ op = 10 ∨ op = 11 ∨ op = 24 ∨ op = 14 ∨ op = 15 := by omega
      clear h1 h2 hk hk'
      rcases this with rfl | rfl | rfl | rfl | rfl | rfl | rfl | rfl | rfl | rfl | rfl | rfl | rfl | rfl
      · exact do_1 W hl hi
      · exact do_2 W hl hi
      · exact do_3 W hl hi
      · exact do_4 W hl hi
      · exact do_5 W hl hi
      · exact do_6 W hl hi
      · exact do_7 W hl hi
      · exact do_8 W hl hi
      · exact do_9 W hl hi
      · exact do_10 W hl hi
      · exact do_11 W hl hi
      · exact do_24 W hl hi
      · exact do_14 W hl hi
      · exact do_15 W hl hi
/-- Do, with names for what it answers -/
theorem do_of (op a b c imm : Int) {l : List Int} (hl : Regs l) (L : List Int) (b1 : Bool) (hL : aluL op a b c imm l = L) (hB : aluB op a b c imm = b1) (W : World) :
    Calls Try.prog 10 #[.agg #[.int .i64 op, .int .i64 a, .int .i64 b, .int .i64 c, .int .u32 imm], .agg (wA l)] W fun e w' => e = .returned (.tuple #[.agg (wA L), .bool b1]) ∧ W.grownBy w' none := by
  subst hL; subst hB
  exact do_any op a b c imm hl W
end Go.Proofs.Ytniahejdddoopaa
