/- Do (package alu) where it answers none: contracts. -/
import Derived.Test.YtkkbhifplbleiaaGreatDoorZAlu2
namespace Go.Proofs.YtkkbhifplbleiaaGreatDoor
open Go.RowKit

/-- no registers -/
def zeroL : List Int := List.replicate 16 0
/-- Do of what may not be -/
theorem do_no {op a b c imm : Int} {l : List Int} (W : World) (hi : insB op a b c imm = false) :
    Calls Tryz.prog 127 #[.agg #[.int .i64 op, .int .i64 a, .int .i64 b, .int .i64 c, .int .u32 imm], .agg (wA l)] W fun e w' => e = .returned (.tuple #[.agg (wA zeroL), .bool false]) ∧ W.grownBy w' none := by
  have Hi := hid hi
  have Hs5 := hid (regs_len_info zeroL rfl)
  clear hi
  go_enter Tryz.func127, Tryz.ntmps127
  go_wp2_with fail
  refine (maybe_any _ _ _ _ _ _).mono ?_
  rintro e w1 ⟨rfl, hg⟩
  have HZ : Hid (RegAt w1 (W.heap.size + 1 + 1) zeroL) := hid ((hg.block _ (by simp) (by simp)).trans (show _ = some (Obj.cells (wA zeroL) 37 (0, 0)) by
    have := heap_alloc2_new (W.alloc (.cells #[.int .i64 op, .int .i64 a, .int .i64 b, .int .i64 c, .int .u32 imm] 112)) (.cells (wA l) 37) (.cells (wA zeroL) 37)
    rw [World.size_alloc] at this; exact this))
  have HG1 := hid (grown_trans (grown_trans (grown_trans (World.grownBy_alloc W _ none) (World.grownBy_alloc _ _ _)) (World.grownBy_alloc _ _ _)) hg)
  clear hg
  rw [Hi.out]
  go_wp2_with (refine wpList_store_row rfl 37 _ _ rfl (W.heap.size + 1 + 1) (wA zeroL) rfl rfl _ _ HZ.out Hs5.out rfl (wA_one _) ?_)
  have HE := hid (setRow_heap _ _ _ (wA zeroL) _ _ HZ.out)
  have HG6 := hid (grown_setRow HG1.out (B := W.heap.size + 1 + 1) (by omega) (wA zeroL))
  have hv := run_loadVar_row (P := Tryz.prog) _ _ _ 37 _ _ _ HE.out Tryz.underlying37 rfl Hs5.out
  refine bodyPost_ret (v := .tuple #[.agg (wA zeroL), .bool false]) (by simp [results, Tryz.results127, asAddr, hv]) rfl ?_
  exact ⟨rfl, HG6.out⟩
/-- Do, where reckons answers none -/
theorem do_none {op a b c imm : Int} {l : List Int} (W : World) (hl : Regs l) (hi : insB op a b c imm = true)
    (hreck : ∀ W B, StepAt W B op a b c imm l → Calls Tryz.prog 146 #[.pointer (some ⟨B, 0, none⟩)] W fun e w' => e = .returned .nilFunc ∧ W.grownBy w' none) :
    Calls Tryz.prog 127 #[.agg #[.int .i64 op, .int .i64 a, .int .i64 b, .int .i64 c, .int .u32 imm], .agg (wA l)] W fun e w' => e = .returned (.tuple #[.agg (wA zeroL), .bool false]) ∧ W.grownBy w' none := by
  have Hreck := hid hreck
  clear hreck
  have Hi := hid hi
  have Hs5 := hid (regs_len_info zeroL rfl)
  have HL := hid hl
  have Hs := hid hl.info
  have Hq : Hid ((Tryz.prog.info? 112).map (·.size) = some 5) := hid (by kernel_rfl)
  clear hi hl
  go_enter Tryz.func127, Tryz.ntmps127
  go_wp2_with fail
  refine (maybe_any _ _ _ _ _ _).mono ?_
  rintro e w1 ⟨rfl, hg⟩
  have HI : Hid (w1.heap[W.heap.size]? = some (.cells #[.int .i64 op, .int .i64 a, .int .i64 b, .int .i64 c, .int .u32 imm] 112 (0, 0))) := hid ((hg.block _ (by simp; omega) (by simp)).trans ((heap_alloc_old _ _ (by simp; try omega)).trans ((heap_alloc_old _ _ (by simp; try omega)).trans (heap_alloc_last W _))))
  have HR : Hid (RegAt w1 (W.heap.size + 1) l) := hid ((hg.block _ (by simp) (by simp)).trans ((heap_alloc_old _ _ (by simp; try omega)).trans (heap_alloc2_new W _ _)))
  have HZ : Hid (RegAt w1 (W.heap.size + 1 + 1) zeroL) := hid ((hg.block _ (by simp) (by simp)).trans (show _ = some (Obj.cells (wA zeroL) 37 (0, 0)) by
    have := heap_alloc2_new (W.alloc (.cells #[.int .i64 op, .int .i64 a, .int .i64 b, .int .i64 c, .int .u32 imm] 112)) (.cells (wA l) 37) (.cells (wA zeroL) 37)
    rw [World.size_alloc] at this; exact this))
  have Hg := hid hg
  clear hg
  rw [Hi.out]
  have Hn := hid HL.out.len
  go_wp2_with (first
    | (refine wpList_build_step rfl _ _ rfl Hn.out rfl rfl ?_)
    | (refine wpList_load_row rfl 112 _ rfl W.heap.size rfl _ _ _ _ HI.out Tryz.underlying112 rfl Hq.out ?_)
    | (refine wpList_load_row rfl 37 _ rfl (W.heap.size + 1) rfl _ _ _ _ HR.out Tryz.underlying37 rfl Hs.out ?_))
  have HS : Hid (StepAt (w1.alloc (.cells (#[.int .i64 op, .int .i64 a, .int .i64 b, .int .i64 c, .int .u32 imm] ++ wA l) 204)) w1.heap.size op a b c imm l) := hid (heap_alloc_last w1 _)
  refine (Hreck.out _ _ HS.out).mono ?_
  rintro e w2 ⟨rfl, hg⟩
  have HG2 := hid (grown_trans (World.grownBy_alloc w1 _ none) hg)
  clear hg HS
  have HZ2 := hid (HZ.out.kept0 HG2.out)
  have HG := hid (grown_trans (grown_trans (grown_trans (World.grownBy_alloc W _ none) (World.grownBy_alloc _ _ _)) (World.grownBy_alloc _ _ _)) (grown_trans Hg.out HG2.out))
  clear HI HR HZ Hg HG2
  have hnf := nil_nil
  go_wp2_with (refine wpList_store_row rfl 37 _ _ rfl (W.heap.size + 1 + 1) (wA zeroL) rfl rfl _ _ HZ2.out Hs5.out rfl (wA_one _) ?_)
  have HE := hid (setRow_heap _ _ _ (wA zeroL) _ _ HZ2.out)
  have HG6 := hid (grown_setRow HG.out (B := W.heap.size + 1 + 1) (by omega) (wA zeroL))
  have hv := run_loadVar_row (P := Tryz.prog) _ _ _ 37 _ _ _ HE.out Tryz.underlying37 rfl Hs5.out
  refine bodyPost_ret (v := .tuple #[.agg (wA zeroL), .bool false]) (by simp [results, Tryz.results127, asAddr, hv]) rfl ?_
  exact ⟨rfl, HG6.out⟩
end Go.Proofs.YtkkbhifplbleiaaGreatDoor
/- Do (package alu) of any instruction and registers: contracts. -/
namespace Go.Proofs.YtkkbhifplbleiaaGreatDoor
open Go.RowKit
/-- instructions that only reckon -/
def reckB (op : Int) : Bool := decide ((1 ≤ op ∧ op ≤ 11) ∨ op = 14 ∨ op = 15 ∨ op = 24)
/-- what register A becomes -/
def reckV (op : Int) (l : List Int) (a b c imm : Int) : Int :=
  if op = 1 then regI l a else
  if op = 2 then regI l b else
  if op = 3 then (regI l b + regI l c) % 4294967296 else
  if op = 4 then (regI l b - regI l c) % 4294967296 else
  if op = 5 then bits BinOp.and IntKind.u32 (regI l b) (regI l c) else
  if op = 6 then bits BinOp.or IntKind.u32 (regI l b) (regI l c) else
  if op = 7 then bits BinOp.xor IntKind.u32 (regI l b) (regI l c) else
  if op = 8 then regI l b * 2 ^ (regI l c % 32).toNat % 4294967296 else
  if op = 9 then regI l b / 2 ^ (regI l c % 32).toNat else
  if op = 10 then oneI (decide (regI l b < regI l c)) else
  if op = 11 then oneI (regI l b == regI l c) else
  if op = 24 then regI l b * regI l c % 4294967296 else
  if op = 14 then imm else
  imm
/-- does Do answer registers? -/
def aluB (op a b c imm : Int) : Bool := insB op a b c imm && reckB op
/-- the registers that Do answers -/
def aluL (op a b c imm : Int) (l : List Int) : List Int := if aluB op a b c imm = true then l.set a.toNat (reckV op l a b c imm) else zeroL
theorem alw_reg1 {k n : Int} (hk : k = 1) (h : alwB k n = true) : 0 ≤ n ∧ n < 16 := by subst hk; unfold alwB at h; simpa using h
theorem alw_none {k n : Int} (hk : k = 0) (h : alwB k n = true) : n = 0 := by subst hk; unfold alwB at h; simpa using h
section
variable {W : World} {B : Nat} {op a b c imm : Int} {l : List Int}
theorem reck_1 (W : World) (B : Nat) (h : StepAt W B 1 a b c imm l) :
    Calls Tryz.prog 146 #[.pointer (some ⟨B, 0, none⟩)] W fun e w' => e = .returned (.func (.func 156) #[.pointer (some ⟨B, 0, none⟩)] #[]) ∧ W.grownBy w' none := by
  have k0 := h.c0
  clear h
  go_enter Tryz.func146, Tryz.ntmps146
  go_wp2
  go_ret
  exact ⟨rfl, grown_refl _ _⟩
theorem reck_2 (W : World) (B : Nat) (h : StepAt W B 2 a b c imm l) :
    Calls Tryz.prog 146 #[.pointer (some ⟨B, 0, none⟩)] W fun e w' => e = .returned (.func (.func 157) #[.pointer (some ⟨B, 0, none⟩)] #[]) ∧ W.grownBy w' none := by
  have k0 := h.c0
  clear h
  go_enter Tryz.func146, Tryz.ntmps146
  go_wp2
  go_ret
  exact ⟨rfl, grown_refl _ _⟩
theorem reck_3 (W : World) (B : Nat) (h : StepAt W B 3 a b c imm l) :
    Calls Tryz.prog 146 #[.pointer (some ⟨B, 0, none⟩)] W fun e w' => e = .returned (.func (.func 158) #[.pointer (some ⟨B, 0, none⟩)] #[]) ∧ W.grownBy w' none := by
  have k0 := h.c0
  clear h
  go_enter Tryz.func146, Tryz.ntmps146
  go_wp2
  go_ret
  exact ⟨rfl, grown_refl _ _⟩
theorem reck_4 (W : World) (B : Nat) (h : StepAt W B 4 a b c imm l) :
    Calls Tryz.prog 146 #[.pointer (some ⟨B, 0, none⟩)] W fun e w' => e = .returned (.func (.func 159) #[.pointer (some ⟨B, 0, none⟩)] #[]) ∧ W.grownBy w' none := by
  have k0 := h.c0
  clear h
  go_enter Tryz.func146, Tryz.ntmps146
  go_wp2
  go_ret
  exact ⟨rfl, grown_refl _ _⟩
theorem reck_5 (W : World) (B : Nat) (h : StepAt W B 5 a b c imm l) :
    Calls Tryz.prog 146 #[.pointer (some ⟨B, 0, none⟩)] W fun e w' => e = .returned (.func (.func 160) #[.pointer (some ⟨B, 0, none⟩)] #[]) ∧ W.grownBy w' none := by
  have k0 := h.c0
  clear h
  go_enter Tryz.func146, Tryz.ntmps146
  go_wp2
  go_ret
  exact ⟨rfl, grown_refl _ _⟩
theorem reck_6 (W : World) (B : Nat) (h : StepAt W B 6 a b c imm l) :
    Calls Tryz.prog 146 #[.pointer (some ⟨B, 0, none⟩)] W fun e w' => e = .returned (.func (.func 161) #[.pointer (some ⟨B, 0, none⟩)] #[]) ∧ W.grownBy w' none := by
  have k0 := h.c0
  clear h
  go_enter Tryz.func146, Tryz.ntmps146
  go_wp2
  go_ret
  exact ⟨rfl, grown_refl _ _⟩
theorem reck_7 (W : World) (B : Nat) (h : StepAt W B 7 a b c imm l) :
    Calls Tryz.prog 146 #[.pointer (some ⟨B, 0, none⟩)] W fun e w' => e = .returned (.func (.func 162) #[.pointer (some ⟨B, 0, none⟩)] #[]) ∧ W.grownBy w' none := by
  have k0 := h.c0
  clear h
  go_enter Tryz.func146, Tryz.ntmps146
  go_wp2
  go_ret
  exact ⟨rfl, grown_refl _ _⟩
theorem reck_8 (W : World) (B : Nat) (h : StepAt W B 8 a b c imm l) :
    Calls Tryz.prog 146 #[.pointer (some ⟨B, 0, none⟩)] W fun e w' => e = .returned (.func (.func 163) #[.pointer (some ⟨B, 0, none⟩)] #[]) ∧ W.grownBy w' none := by
  have k0 := h.c0
  clear h
  go_enter Tryz.func146, Tryz.ntmps146
  go_wp2
  go_ret
  exact ⟨rfl, grown_refl _ _⟩
theorem reck_9 (W : World) (B : Nat) (h : StepAt W B 9 a b c imm l) :
    Calls Tryz.prog 146 #[.pointer (some ⟨B, 0, none⟩)] W fun e w' => e = .returned (.func (.func 164) #[.pointer (some ⟨B, 0, none⟩)] #[]) ∧ W.grownBy w' none := by
  have k0 := h.c0
  clear h
  go_enter Tryz.func146, Tryz.ntmps146
  go_wp2
  go_ret
  exact ⟨rfl, grown_refl _ _⟩
theorem reck_10 (W : World) (B : Nat) (h : StepAt W B 10 a b c imm l) :
    Calls Tryz.prog 146 #[.pointer (some ⟨B, 0, none⟩)] W fun e w' => e = .returned (.func (.func 165) #[.pointer (some ⟨B, 0, none⟩)] #[]) ∧ W.grownBy w' none := by
  have k0 := h.c0
  clear h
  go_enter Tryz.func146, Tryz.ntmps146
  go_wp2
  go_ret
  exact ⟨rfl, grown_refl _ _⟩
theorem reck_11 (W : World) (B : Nat) (h : StepAt W B 11 a b c imm l) :
    Calls Tryz.prog 146 #[.pointer (some ⟨B, 0, none⟩)] W fun e w' => e = .returned (.func (.func 166) #[.pointer (some ⟨B, 0, none⟩)] #[]) ∧ W.grownBy w' none := by
  have k0 := h.c0
  clear h
  go_enter Tryz.func146, Tryz.ntmps146
  go_wp2
  go_ret
  exact ⟨rfl, grown_refl _ _⟩
theorem reck_24 (W : World) (B : Nat) (h : StepAt W B 24 a b c imm l) :
    Calls Tryz.prog 146 #[.pointer (some ⟨B, 0, none⟩)] W fun e w' => e = .returned (.func (.func 167) #[.pointer (some ⟨B, 0, none⟩)] #[]) ∧ W.grownBy w' none := by
  have k0 := h.c0
  clear h
  go_enter Tryz.func146, Tryz.ntmps146
  go_wp2
  go_ret
  exact ⟨rfl, grown_refl _ _⟩
theorem reck_14 (W : World) (B : Nat) (h : StepAt W B 14 a b c imm l) :
    Calls Tryz.prog 146 #[.pointer (some ⟨B, 0, none⟩)] W fun e w' => e = .returned (.func (.func 168) #[.pointer (some ⟨B, 0, none⟩)] #[]) ∧ W.grownBy w' none := by
  have k0 := h.c0
  clear h
  go_enter Tryz.func146, Tryz.ntmps146
  go_wp2
  go_ret
  exact ⟨rfl, grown_refl _ _⟩
theorem reck_15 (W : World) (B : Nat) (h : StepAt W B 15 a b c imm l) :
    Calls Tryz.prog 146 #[.pointer (some ⟨B, 0, none⟩)] W fun e w' => e = .returned (.func (.func 168) #[.pointer (some ⟨B, 0, none⟩)] #[]) ∧ W.grownBy w' none := by
  have k0 := h.c0
  clear h
  go_enter Tryz.func146, Tryz.ntmps146
  go_wp2
  go_ret
  exact ⟨rfl, grown_refl _ _⟩
theorem reck_no (W : World) (B : Nat) (h : StepAt W B op a b c imm l) (h1 : (op == 1) = false) (h2 : (op == 2) = false) (h3 : (op == 3) = false) (h4 : (op == 4) = false) (h5 : (op == 5) = false) (h6 : (op == 6) = false) (h7 : (op == 7) = false) (h8 : (op == 8) = false) (h9 : (op == 9) = false) (h10 : (op == 10) = false) (h11 : (op == 11) = false) (h24 : (op == 24) = false) (h14 : (op == 14) = false) (h15 : (op == 15) = false) :
    Calls Tryz.prog 146 #[.pointer (some ⟨B, 0, none⟩)] W fun e w' => e = .returned .nilFunc ∧ W.grownBy w' none := by
  have k0 := h.c0
  clear h
  go_enter Tryz.func146, Tryz.ntmps146
  go_wp2
  go_ret
  exact ⟨rfl, grown_refl _ _⟩
end
section
variable {a b c imm : Int} {l : List Int}
theorem do_1 (W : World) (hl : Regs l) (hi : insB 1 a b c imm = true) :
    Calls Tryz.prog 127 #[.agg #[.int .i64 1, .int .i64 a, .int .i64 b, .int .i64 c, .int .u32 imm], .agg (wA l)] W fun e w' => e = .returned (.tuple #[.agg (wA (l.set a.toNat (regI l a))), .bool true]) ∧ W.grownBy w' none := by
  obtain ⟨_, ha, hb, hc, _⟩ := ins_parts hi
  have ea := alw_none (by decide) ha
  have a0 : 0 ≤ a := by omega
  have a1 : a < 16 := by omega
  exact do_core W hl hi a0 a1 156 _ (fun W B h => reck_1 W B h) (fun xs w => by kernel_rfl) (fun W B h => a_any h hl a0 a1)
theorem do_2 (W : World) (hl : Regs l) (hi : insB 2 a b c imm = true) :
    Calls Tryz.prog 127 #[.agg #[.int .i64 2, .int .i64 a, .int .i64 b, .int .i64 c, .int .u32 imm], .agg (wA l)] W fun e w' => e = .returned (.tuple #[.agg (wA (l.set a.toNat (regI l b))), .bool true]) ∧ W.grownBy w' none := by
  obtain ⟨_, ha, hb, hc, _⟩ := ins_parts hi
  obtain ⟨a0, a1⟩ := alw_reg1 (by decide) ha
  obtain ⟨b0, b1⟩ := alw_reg1 (by decide) hb
  exact do_core W hl hi a0 a1 157 _ (fun W B h => reck_2 W B h) (fun xs w => by kernel_rfl) (fun W B h => b_any h hl b0 b1)
theorem do_3 (W : World) (hl : Regs l) (hi : insB 3 a b c imm = true) :
    Calls Tryz.prog 127 #[.agg #[.int .i64 3, .int .i64 a, .int .i64 b, .int .i64 c, .int .u32 imm], .agg (wA l)] W fun e w' => e = .returned (.tuple #[.agg (wA (l.set a.toNat ((regI l b + regI l c) % 4294967296))), .bool true]) ∧ W.grownBy w' none := by
  obtain ⟨_, ha, hb, hc, _⟩ := ins_parts hi
  obtain ⟨a0, a1⟩ := alw_reg1 (by decide) ha
  obtain ⟨b0, b1⟩ := alw_reg1 (by decide) hb
  obtain ⟨c0, c1⟩ := alw_reg1 (by decide) hc
  exact do_core W hl hi a0 a1 158 _ (fun W B h => reck_3 W B h) (fun xs w => by kernel_rfl) (fun W B h => add_any h hl b0 b1 c0 c1)
theorem do_4 (W : World) (hl : Regs l) (hi : insB 4 a b c imm = true) :
    Calls Tryz.prog 127 #[.agg #[.int .i64 4, .int .i64 a, .int .i64 b, .int .i64 c, .int .u32 imm], .agg (wA l)] W fun e w' => e = .returned (.tuple #[.agg (wA (l.set a.toNat ((regI l b - regI l c) % 4294967296))), .bool true]) ∧ W.grownBy w' none := by
  obtain ⟨_, ha, hb, hc, _⟩ := ins_parts hi
  obtain ⟨a0, a1⟩ := alw_reg1 (by decide) ha
  obtain ⟨b0, b1⟩ := alw_reg1 (by decide) hb
  obtain ⟨c0, c1⟩ := alw_reg1 (by decide) hc
  exact do_core W hl hi a0 a1 159 _ (fun W B h => reck_4 W B h) (fun xs w => by kernel_rfl) (fun W B h => sub_any h hl b0 b1 c0 c1)
theorem do_5 (W : World) (hl : Regs l) (hi : insB 5 a b c imm = true) :
    Calls Tryz.prog 127 #[.agg #[.int .i64 5, .int .i64 a, .int .i64 b, .int .i64 c, .int .u32 imm], .agg (wA l)] W fun e w' => e = .returned (.tuple #[.agg (wA (l.set a.toNat (bits BinOp.and IntKind.u32 (regI l b) (regI l c)))), .bool true]) ∧ W.grownBy w' none := by
  obtain ⟨_, ha, hb, hc, _⟩ := ins_parts hi
  obtain ⟨a0, a1⟩ := alw_reg1 (by decide) ha
  obtain ⟨b0, b1⟩ := alw_reg1 (by decide) hb
  obtain ⟨c0, c1⟩ := alw_reg1 (by decide) hc
  exact do_core W hl hi a0 a1 160 _ (fun W B h => reck_5 W B h) (fun xs w => by kernel_rfl) (fun W B h => and_any h hl b0 b1 c0 c1)
theorem do_6 (W : World) (hl : Regs l) (hi : insB 6 a b c imm = true) :
    Calls Tryz.prog 127 #[.agg #[.int .i64 6, .int .i64 a, .int .i64 b, .int .i64 c, .int .u32 imm], .agg (wA l)] W fun e w' => e = .returned (.tuple #[.agg (wA (l.set a.toNat (bits BinOp.or IntKind.u32 (regI l b) (regI l c)))), .bool true]) ∧ W.grownBy w' none := by
  obtain ⟨_, ha, hb, hc, _⟩ := ins_parts hi
  obtain ⟨a0, a1⟩ := alw_reg1 (by decide) ha
  obtain ⟨b0, b1⟩ := alw_reg1 (by decide) hb
  obtain ⟨c0, c1⟩ := alw_reg1 (by decide) hc
  exact do_core W hl hi a0 a1 161 _ (fun W B h => reck_6 W B h) (fun xs w => by kernel_rfl) (fun W B h => or_any h hl b0 b1 c0 c1)
theorem do_7 (W : World) (hl : Regs l) (hi : insB 7 a b c imm = true) :
    Calls Tryz.prog 127 #[.agg #[.int .i64 7, .int .i64 a, .int .i64 b, .int .i64 c, .int .u32 imm], .agg (wA l)] W fun e w' => e = .returned (.tuple #[.agg (wA (l.set a.toNat (bits BinOp.xor IntKind.u32 (regI l b) (regI l c)))), .bool true]) ∧ W.grownBy w' none := by
  obtain ⟨_, ha, hb, hc, _⟩ := ins_parts hi
  obtain ⟨a0, a1⟩ := alw_reg1 (by decide) ha
  obtain ⟨b0, b1⟩ := alw_reg1 (by decide) hb
  obtain ⟨c0, c1⟩ := alw_reg1 (by decide) hc
  exact do_core W hl hi a0 a1 162 _ (fun W B h => reck_7 W B h) (fun xs w => by kernel_rfl) (fun W B h => xor_any h hl b0 b1 c0 c1)
theorem do_8 (W : World) (hl : Regs l) (hi : insB 8 a b c imm = true) :
    Calls Tryz.prog 127 #[.agg #[.int .i64 8, .int .i64 a, .int .i64 b, .int .i64 c, .int .u32 imm], .agg (wA l)] W fun e w' => e = .returned (.tuple #[.agg (wA (l.set a.toNat (regI l b * 2 ^ (regI l c % 32).toNat % 4294967296))), .bool true]) ∧ W.grownBy w' none := by
  obtain ⟨_, ha, hb, hc, _⟩ := ins_parts hi
  obtain ⟨a0, a1⟩ := alw_reg1 (by decide) ha
  obtain ⟨b0, b1⟩ := alw_reg1 (by decide) hb
  obtain ⟨c0, c1⟩ := alw_reg1 (by decide) hc
  exact do_core W hl hi a0 a1 163 _ (fun W B h => reck_8 W B h) (fun xs w => by kernel_rfl) (fun W B h => shl_any h hl b0 b1 c0 c1)
theorem do_9 (W : World) (hl : Regs l) (hi : insB 9 a b c imm = true) :
    Calls Tryz.prog 127 #[.agg #[.int .i64 9, .int .i64 a, .int .i64 b, .int .i64 c, .int .u32 imm], .agg (wA l)] W fun e w' => e = .returned (.tuple #[.agg (wA (l.set a.toNat (regI l b / 2 ^ (regI l c % 32).toNat))), .bool true]) ∧ W.grownBy w' none := by
  obtain ⟨_, ha, hb, hc, _⟩ := ins_parts hi
  obtain ⟨a0, a1⟩ := alw_reg1 (by decide) ha
  obtain ⟨b0, b1⟩ := alw_reg1 (by decide) hb
  obtain ⟨c0, c1⟩ := alw_reg1 (by decide) hc
  exact do_core W hl hi a0 a1 164 _ (fun W B h => reck_9 W B h) (fun xs w => by kernel_rfl) (fun W B h => shr_any h hl b0 b1 c0 c1)
theorem do_10 (W : World) (hl : Regs l) (hi : insB 10 a b c imm = true) :
    Calls Tryz.prog 127 #[.agg #[.int .i64 10, .int .i64 a, .int .i64 b, .int .i64 c, .int .u32 imm], .agg (wA l)] W fun e w' => e = .returned (.tuple #[.agg (wA (l.set a.toNat (oneI (decide (regI l b < regI l c))))), .bool true]) ∧ W.grownBy w' none := by
  obtain ⟨_, ha, hb, hc, _⟩ := ins_parts hi
  obtain ⟨a0, a1⟩ := alw_reg1 (by decide) ha
  obtain ⟨b0, b1⟩ := alw_reg1 (by decide) hb
  obtain ⟨c0, c1⟩ := alw_reg1 (by decide) hc
  exact do_core W hl hi a0 a1 165 _ (fun W B h => reck_10 W B h) (fun xs w => by kernel_rfl) (fun W B h => lt_any h hl b0 b1 c0 c1)
theorem do_11 (W : World) (hl : Regs l) (hi : insB 11 a b c imm = true) :
    Calls Tryz.prog 127 #[.agg #[.int .i64 11, .int .i64 a, .int .i64 b, .int .i64 c, .int .u32 imm], .agg (wA l)] W fun e w' => e = .returned (.tuple #[.agg (wA (l.set a.toNat (oneI (regI l b == regI l c)))), .bool true]) ∧ W.grownBy w' none := by
  obtain ⟨_, ha, hb, hc, _⟩ := ins_parts hi
  obtain ⟨a0, a1⟩ := alw_reg1 (by decide) ha
  obtain ⟨b0, b1⟩ := alw_reg1 (by decide) hb
  obtain ⟨c0, c1⟩ := alw_reg1 (by decide) hc
  exact do_core W hl hi a0 a1 166 _ (fun W B h => reck_11 W B h) (fun xs w => by kernel_rfl) (fun W B h => eq_any h hl b0 b1 c0 c1)
theorem do_24 (W : World) (hl : Regs l) (hi : insB 24 a b c imm = true) :
    Calls Tryz.prog 127 #[.agg #[.int .i64 24, .int .i64 a, .int .i64 b, .int .i64 c, .int .u32 imm], .agg (wA l)] W fun e w' => e = .returned (.tuple #[.agg (wA (l.set a.toNat (regI l b * regI l c % 4294967296))), .bool true]) ∧ W.grownBy w' none := by
  obtain ⟨_, ha, hb, hc, _⟩ := ins_parts hi
  obtain ⟨a0, a1⟩ := alw_reg1 (by decide) ha
  obtain ⟨b0, b1⟩ := alw_reg1 (by decide) hb
  obtain ⟨c0, c1⟩ := alw_reg1 (by decide) hc
  exact do_core W hl hi a0 a1 167 _ (fun W B h => reck_24 W B h) (fun xs w => by kernel_rfl) (fun W B h => mul_any h hl b0 b1 c0 c1)
theorem do_14 (W : World) (hl : Regs l) (hi : insB 14 a b c imm = true) :
    Calls Tryz.prog 127 #[.agg #[.int .i64 14, .int .i64 a, .int .i64 b, .int .i64 c, .int .u32 imm], .agg (wA l)] W fun e w' => e = .returned (.tuple #[.agg (wA (l.set a.toNat (imm))), .bool true]) ∧ W.grownBy w' none := by
  obtain ⟨_, ha, hb, hc, _⟩ := ins_parts hi
  obtain ⟨a0, a1⟩ := alw_reg1 (by decide) ha
  exact do_core W hl hi a0 a1 168 _ (fun W B h => reck_14 W B h) (fun xs w => by kernel_rfl) (fun W B h => imm_any h)
theorem do_15 (W : World) (hl : Regs l) (hi : insB 15 a b c imm = true) :
    Calls Tryz.prog 127 #[.agg #[.int .i64 15, .int .i64 a, .int .i64 b, .int .i64 c, .int .u32 imm], .agg (wA l)] W fun e w' => e = .returned (.tuple #[.agg (wA (l.set a.toNat (imm))), .bool true]) ∧ W.grownBy w' none := by
  obtain ⟨_, ha, hb, hc, _⟩ := ins_parts hi
  obtain ⟨a0, a1⟩ := alw_reg1 (by decide) ha
  exact do_core W hl hi a0 a1 168 _ (fun W B h => reck_15 W B h) (fun xs w => by kernel_rfl) (fun W B h => imm_any h)
end
set_option maxRecDepth 10000 in
theorem do_any (op a b c imm : Int) {l : List Int} (hl : Regs l) (W : World) :
    Calls Tryz.prog 127 #[.agg #[.int .i64 op, .int .i64 a, .int .i64 b, .int .i64 c, .int .u32 imm], .agg (wA l)] W fun e w' => e = .returned (.tuple #[.agg (wA (aluL op a b c imm l)), .bool (aluB op a b c imm)]) ∧ W.grownBy w' none := by
  cases hi : insB op a b c imm
  · have h1 : aluB op a b c imm = false := by unfold aluB; rw [hi]; rfl
    have h2 : aluL op a b c imm l = zeroL := by unfold aluL; rw [if_neg (by simp [h1])]
    rw [h1, h2]
    exact do_no W hi
  · cases hk : reckB op
    · have h1 : aluB op a b c imm = false := by unfold aluB; rw [hi, hk]; rfl
      have h2 : aluL op a b c imm l = zeroL := by unfold aluL; rw [if_neg (by simp [h1])]
      rw [h1, h2]
      have hk' := of_decide_eq_false hk
      have q : ∀ k : Int, ((1 ≤ k ∧ k ≤ 11) ∨ k = 14 ∨ k = 15 ∨ k = 24) → (op == k) = false := fun k h => by
        rw [beq_eq_false_iff_ne]; intro e; exact hk' (by rw [e]; exact h)
      exact do_none W hl hi (fun W B h => reck_no W B h (q 1 (by decide)) (q 2 (by decide)) (q 3 (by decide)) (q 4 (by decide)) (q 5 (by decide)) (q 6 (by decide)) (q 7 (by decide)) (q 8 (by decide)) (q 9 (by decide)) (q 10 (by decide)) (q 11 (by decide)) (q 24 (by decide)) (q 14 (by decide)) (q 15 (by decide)))
    · have h1 : aluB op a b c imm = true := by unfold aluB; rw [hi, hk]; rfl
      have h2 : aluL op a b c imm l = l.set a.toNat (reckV op l a b c imm) := by unfold aluL; rw [if_pos h1]
      rw [h1, h2]
      have hk' : (1 ≤ op ∧ op ≤ 11) ∨ op = 14 ∨ op = 15 ∨ op = 24 := of_decide_eq_true hk
      have : op = 1 ∨ op = 2 ∨ op = 3 ∨ op = 4 ∨ op = 5 ∨ op = 6 ∨ op = 7 ∨ op = 8 ∨ op = 9 ∨ op = 10 ∨ op = 11 ∨ op = 24 ∨ op = 14 ∨ op = 15 := by omega
      clear h1 h2 hk hk'
      rcases this with rfl | rfl | rfl | rfl | rfl | rfl | rfl | rfl | rfl | rfl | rfl | rfl | rfl | rfl
      · exact do_1 W hl hi
      · exact do_2 W hl hi
      · exact do_3 W hl hi
      · exact do_4 W hl hi
      · exact do_5 W hl hi
      · exact do_6 W hl hi
      · exact do_7 W hl hi
      · exact do_8 W hl hi
      · exact do_9 W hl hi
      · exact do_10 W hl hi
      · exact do_11 W hl hi
      · exact do_24 W hl hi
      · exact do_14 W hl hi
      · exact do_15 W hl hi
/-- Do, with names for what it answers -/
theorem do_of (op a b c imm : Int) {l : List Int} (hl : Regs l) (L : List Int) (b1 : Bool) (hL : aluL op a b c imm l = L) (hB : aluB op a b c imm = b1) (W : World) :
    Calls Tryz.prog 127 #[.agg #[.int .i64 op, .int .i64 a, .int .i64 b, .int .i64 c, .int .u32 imm], .agg (wA l)] W fun e w' => e = .returned (.tuple #[.agg (wA L), .bool b1]) ∧ W.grownBy w' none := by
  subst hL; subst hB
  exact do_any op a b c imm hl W
end Go.Proofs.YtkkbhifplbleiaaGreatDoor
/- The chapter's example: a contract. -/
namespace Go.Proofs.YtkkbhifplbleiaaGreatDoor
open Go.RowKit
/-- a whole row, loaded where a guard says yes -/
theorem wpList_load_row_wanted {P : Program} {ops : Array Oper} {rest : List Oper} {o : Oper} {a : Act} {w : World} {Q : Exit → Act → World → Prop} (hgd : Region.wanted o (yielded ops a.tmps) = true) (ty : TypeId) (x : Operand) (ho : o.op = .load ty x)
    (g : Nat) (hx : a.eval x = .pointer (some ⟨g, 0, none⟩)) (t : TypeId) (cs : Array Value) (fr : Nat × Nat) (d : TypeDesc) (hg : w.heap[g]? = some (.cells cs t fr))
    (hu : P.underlying ty = some d) (hd : (match d with | .struct _ | .array _ _ => true | _ => false) = true) (hi : (P.info? ty).map (·.size) = some cs.size)
    (h : wpList P ops Q rest (a.put o.dst (.agg cs)) w) : wpList P ops Q (o :: rest) a w := by
  simp only [wpList, hgd, if_true]
  exact Or.inl (wp_load_row ty x ho g hx t cs fr d hg hu hd hi h)
theorem alu_example : aluL 3 1 2 3 0 [0, 0, 5, 7, 0, 0, 0, 0, 0, 0, 0, 0, 0, 0, 0, 0] = [0, 12, 5, 7, 0, 0, 0, 0, 0, 0, 0, 0, 0, 0, 0, 0] ∧ aluB 3 1 2 3 0 = true := by decide
theorem example_regs : Regs [0, 0, 5, 7, 0, 0, 0, 0, 0, 0, 0, 0, 0, 0, 0, 0] := ⟨rfl, by decide⟩
theorem aluL_length {op a b c imm : Int} {l : List Int} (hl : Regs l) : (aluL op a b c imm l).length = 16 := by
  unfold aluL; split
  · rw [List.length_set]; exact hl.len
  · rfl
theorem bits_bd (o : BinOp) {x y : Int} (h : o = .and ∨ o = .or ∨ o = .xor) (x0 : 0 ≤ x) (x1 : x < 4294967296) (y0 : 0 ≤ y) (y1 : y < 4294967296) : 0 ≤ bits o IntKind.u32 x y ∧ bits o IntKind.u32 x y < 4294967296 := by
  obtain ⟨n, rfl⟩ := Int.eq_ofNat_of_zero_le x0
  obtain ⟨m, rfl⟩ := Int.eq_ofNat_of_zero_le y0
  have hn : n < 2 ^ 32 := by omega
  have hm : m < 2 ^ 32 := by omega
  rcases h with rfl | rfl | rfl
  · rw [u32_and_nat n m (by omega) (by omega)]
    have : n &&& m < 2 ^ 32 := Nat.and_lt_two_pow n hm
    omega
  · rw [u32_or_nat n m (by omega) (by omega)]
    have : n ||| m < 2 ^ 32 := Nat.or_lt_two_pow hn hm
    omega
  · rw [u32_xor n m (by omega) (by omega) (by omega) (by omega)]
    have : (n : Int).toNat ^^^ (m : Int).toNat < 2 ^ 32 := Nat.xor_lt_two_pow (by omega) (by omega)
    omega
theorem oneI_bd (t : Bool) : 0 ≤ oneI t ∧ oneI t < 4294967296 := by cases t <;> decide
theorem shr_bd {x : Int} (n : Nat) (x0 : 0 ≤ x) (x1 : x < 4294967296) : 0 ≤ x / 2 ^ n ∧ x / 2 ^ n < 4294967296 := by
  have hp : (0 : Int) < 2 ^ n := Int.pow_pos (by decide)
  refine ⟨Int.ediv_nonneg x0 (by omega), ?_⟩
  have := Int.ediv_le_self (2 ^ n) x0
  omega
def WordI (x : Int) : Prop := 0 ≤ x ∧ x < 4294967296
theorem wite {p : Prop} [Decidable p] {x y : Int} (hx : WordI x) (hy : WordI y) : WordI (if p then x else y) := by by_cases h : p <;> simp [h, hx, hy]
theorem reckV_bd (op : Int) {l : List Int} (hl : Regs l) (a b c : Int) {imm : Int} (i0 : 0 ≤ imm) (i1 : imm < 4294967296) : 0 ≤ reckV op l a b c imm ∧ reckV op l a b c imm < 4294967296 := by
  obtain ⟨x0, x1⟩ := hl.reg b
  obtain ⟨y0, y1⟩ := hl.reg c
  have z := hl.reg a
  have m (e : Int) : 0 ≤ e % 4294967296 ∧ e % 4294967296 < 4294967296 := ⟨Int.emod_nonneg _ (by decide), Int.emod_lt_of_pos _ (by decide)⟩
  suffices h : WordI (reckV op l a b c imm) from h
  unfold reckV
  repeat' apply wite
  all_goals show _ ∧ _
  all_goals first | decide | exact z | exact ⟨x0, x1⟩ | exact m _ | exact bits_bd _ (by simp) x0 x1 y0 y1 | exact shr_bd _ x0 x1 | exact oneI_bd _ | exact ⟨i0, i1⟩
theorem aluL_regs {op a b c imm : Int} {l : List Int} (hl : Regs l) (i0 : 0 ≤ imm) (i1 : imm < 4294967296) : Regs (aluL op a b c imm l) := by
  unfold aluL; split
  · exact hl.set _ (reckV_bd op hl a b c i0 i1).1 (reckV_bd op hl a b c i0 i1).2
  · exact ⟨rfl, by decide⟩
end Go.Proofs.YtkkbhifplbleiaaGreatDoor
