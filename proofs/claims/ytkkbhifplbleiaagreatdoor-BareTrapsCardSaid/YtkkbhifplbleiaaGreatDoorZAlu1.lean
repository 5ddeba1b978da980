/- What a step's small methods do (package alu): contracts. -/
import Derived.Test.YtkkbhifplbleiaaGreatDoorZGAluA
namespace Go.Proofs.YtkkbhifplbleiaaGreatDoor
open Go.RowKit
/-- a word is answered, nothing but draws has been -/
def Reads (W : World) (V : Int) (e : Ending) (w' : World) : Prop := e = .returned (.int .u32 V) ∧ ∃ n, w' = W.drewN n
theorem nat_and31 (n : Nat) : n &&& 31 = n % 32 := Nat.and_two_pow_sub_one_eq_mod n 5
theorem and_31 (x : Int) (h : 0 ≤ x) (h' : x < 4294967296) : bits BinOp.and IntKind.u32 x 31 = x % 32 := by
  obtain ⟨n, rfl⟩ := Int.eq_ofNat_of_zero_le h
  rw [show (31 : Int) = ((31 : Nat) : Int) from rfl, u32_and_nat n 31 (by omega) (by decide), nat_and31]
  omega
/-- a bool is answered, nothing but draws has been -/
def ReadsB (W : World) (V : Bool) (e : Ending) (w' : World) : Prop := e = .returned (.bool V) ∧ ∃ n, w' = W.drewN n
section
variable {W : World} {B : Nat} {op a b c imm : Int} {l : List Int}
theorem a_any (h : StepAt W B op a b c imm l) (hl : Regs l) (h0 : 0 ≤ a) (h1 : a < 16) :
    Calls Tryz.prog 156 #[.pointer (some ⟨B, 0, none⟩)] W (Reads W (regI l a)) := by
  have k1 := h.c1
  have kr := h.reg (hl.get h0 h1)
  clear h hl
  go_enter Tryz.func156, Tryz.ntmps156
  go_wp2
  go_quiet (fail)
  go_wp2
  go_ret
  exact ⟨rfl, _, rfl⟩
theorem b_any (h : StepAt W B op a b c imm l) (hl : Regs l) (h0 : 0 ≤ b) (h1 : b < 16) :
    Calls Tryz.prog 157 #[.pointer (some ⟨B, 0, none⟩)] W (Reads W (regI l b)) := by
  have k1 := h.c2
  have kr := h.reg (hl.get h0 h1)
  clear h hl
  go_enter Tryz.func157, Tryz.ntmps157
  go_wp2
  go_quiet (fail)
  go_wp2
  go_ret
  exact ⟨rfl, _, rfl⟩
theorem c_any (h : StepAt W B op a b c imm l) (hl : Regs l) (h0 : 0 ≤ c) (h1 : c < 16) :
    Calls Tryz.prog 176 #[.pointer (some ⟨B, 0, none⟩)] W (Reads W (regI l c)) := by
  have k1 := h.c3
  have kr := h.reg (hl.get h0 h1)
  clear h hl
  go_enter Tryz.func176, Tryz.ntmps176
  go_wp2
  go_quiet (fail)
  go_wp2
  go_ret
  exact ⟨rfl, _, rfl⟩
theorem imm_any (h : StepAt W B op a b c imm l) :
    Calls Tryz.prog 168 #[.pointer (some ⟨B, 0, none⟩)] W (Reads W imm) := by
  have k1 := h.c4
  clear h
  go_enter Tryz.func168, Tryz.ntmps168
  go_wp2
  go_ret
  exact ⟨rfl, 0, rfl⟩
def oneI (t : Bool) : Int := if t = true then 1 else 0
theorem one_any (t : Bool) (W : World) : Calls Tryz.prog 177 #[.bool t] W fun e w' => e = .returned (.int .u32 (oneI t)) ∧ W = w' := by
  cases t
  all_goals
    go_enter Tryz.func177, Tryz.ntmps177
    go_wp2
    go_ret
    exact ⟨rfl, rfl⟩
theorem add_any (h : StepAt W B op a b c imm l) (hl : Regs l) (b0 : 0 ≤ b) (b1 : b < 16) (c0 : 0 ≤ c) (c1 : c < 16) :
    Calls Tryz.prog 158 #[.pointer (some ⟨B, 0, none⟩)] W (Reads W ((regI l b + regI l c) % 4294967296)) := by
  obtain ⟨X, HX⟩ : ∃ X, Hid (regI l b = X) := ⟨_, hid rfl⟩
  obtain ⟨Y, HY⟩ : ∃ Y, Hid (regI l c = Y) := ⟨_, hid rfl⟩
  have x := hl.reg b
  have y := hl.reg c
  rw [HX.out] at x
  rw [HY.out] at y
  obtain ⟨x0, x1⟩ := x
  obtain ⟨y0, y1⟩ := y
  have H := hid h
  have HL := hid hl
  clear h hl
  go_enter Tryz.func158, Tryz.ntmps158
  go_wp2_with fail
  refine (b_any H.out HL.out b0 b1).mono ?_
  rw [HX.out]
  rintro e w1 ⟨rfl, n, rfl⟩
  go_wp2_with fail
  refine (c_any (H.out.kept0 (grown_drewN (grown_refl _ none) n)) HL.out c0 c1).mono ?_
  rw [HY.out]
  rintro e w2 ⟨rfl, n2, rfl⟩
  go_wp2
  go_ret
  rw [HX.out, HY.out]
  exact ⟨rfl, _, rfl⟩
theorem sub_any (h : StepAt W B op a b c imm l) (hl : Regs l) (b0 : 0 ≤ b) (b1 : b < 16) (c0 : 0 ≤ c) (c1 : c < 16) :
    Calls Tryz.prog 159 #[.pointer (some ⟨B, 0, none⟩)] W (Reads W ((regI l b - regI l c) % 4294967296)) := by
  obtain ⟨X, HX⟩ : ∃ X, Hid (regI l b = X) := ⟨_, hid rfl⟩
  obtain ⟨Y, HY⟩ : ∃ Y, Hid (regI l c = Y) := ⟨_, hid rfl⟩
  have x := hl.reg b
  have y := hl.reg c
  rw [HX.out] at x
  rw [HY.out] at y
  obtain ⟨x0, x1⟩ := x
  obtain ⟨y0, y1⟩ := y
  have H := hid h
  have HL := hid hl
  clear h hl
  go_enter Tryz.func159, Tryz.ntmps159
  go_wp2_with fail
  refine (b_any H.out HL.out b0 b1).mono ?_
  rw [HX.out]
  rintro e w1 ⟨rfl, n, rfl⟩
  go_wp2_with fail
  refine (c_any (H.out.kept0 (grown_drewN (grown_refl _ none) n)) HL.out c0 c1).mono ?_
  rw [HY.out]
  rintro e w2 ⟨rfl, n2, rfl⟩
  go_wp2
  go_ret
  rw [HX.out, HY.out]
  exact ⟨rfl, _, rfl⟩
theorem mul_any (h : StepAt W B op a b c imm l) (hl : Regs l) (b0 : 0 ≤ b) (b1 : b < 16) (c0 : 0 ≤ c) (c1 : c < 16) :
    Calls Tryz.prog 167 #[.pointer (some ⟨B, 0, none⟩)] W (Reads W (regI l b * regI l c % 4294967296)) := by
  obtain ⟨X, HX⟩ : ∃ X, Hid (regI l b = X) := ⟨_, hid rfl⟩
  obtain ⟨Y, HY⟩ : ∃ Y, Hid (regI l c = Y) := ⟨_, hid rfl⟩
  have x := hl.reg b
  have y := hl.reg c
  rw [HX.out] at x
  rw [HY.out] at y
  obtain ⟨x0, x1⟩ := x
  obtain ⟨y0, y1⟩ := y
  have H := hid h
  have HL := hid hl
  clear h hl
  go_enter Tryz.func167, Tryz.ntmps167
  go_wp2_with fail
  refine (b_any H.out HL.out b0 b1).mono ?_
  rw [HX.out]
  rintro e w1 ⟨rfl, n, rfl⟩
  go_wp2_with fail
  refine (c_any (H.out.kept0 (grown_drewN (grown_refl _ none) n)) HL.out c0 c1).mono ?_
  rw [HY.out]
  rintro e w2 ⟨rfl, n2, rfl⟩
  go_wp2
  go_ret
  rw [HX.out, HY.out]
  exact ⟨rfl, _, rfl⟩
theorem and_any (h : StepAt W B op a b c imm l) (hl : Regs l) (b0 : 0 ≤ b) (b1 : b < 16) (c0 : 0 ≤ c) (c1 : c < 16) :
    Calls Tryz.prog 160 #[.pointer (some ⟨B, 0, none⟩)] W (Reads W (bits BinOp.and IntKind.u32 (regI l b) (regI l c))) := by
  obtain ⟨X, HX⟩ : ∃ X, Hid (regI l b = X) := ⟨_, hid rfl⟩
  obtain ⟨Y, HY⟩ : ∃ Y, Hid (regI l c = Y) := ⟨_, hid rfl⟩
  have x := hl.reg b
  have y := hl.reg c
  rw [HX.out] at x
  rw [HY.out] at y
  obtain ⟨x0, x1⟩ := x
  obtain ⟨y0, y1⟩ := y
  have H := hid h
  have HL := hid hl
  clear h hl
  go_enter Tryz.func160, Tryz.ntmps160
  go_wp2_with fail
  refine (b_any H.out HL.out b0 b1).mono ?_
  rw [HX.out]
  rintro e w1 ⟨rfl, n, rfl⟩
  go_wp2_with fail
  refine (c_any (H.out.kept0 (grown_drewN (grown_refl _ none) n)) HL.out c0 c1).mono ?_
  rw [HY.out]
  rintro e w2 ⟨rfl, n2, rfl⟩
  go_wp2
  go_ret
  rw [HX.out, HY.out]
  exact ⟨rfl, _, rfl⟩
theorem or_any (h : StepAt W B op a b c imm l) (hl : Regs l) (b0 : 0 ≤ b) (b1 : b < 16) (c0 : 0 ≤ c) (c1 : c < 16) :
    Calls Tryz.prog 161 #[.pointer (some ⟨B, 0, none⟩)] W (Reads W (bits BinOp.or IntKind.u32 (regI l b) (regI l c))) := by
  obtain ⟨X, HX⟩ : ∃ X, Hid (regI l b = X) := ⟨_, hid rfl⟩
  obtain ⟨Y, HY⟩ : ∃ Y, Hid (regI l c = Y) := ⟨_, hid rfl⟩
  have x := hl.reg b
  have y := hl.reg c
  rw [HX.out] at x
  rw [HY.out] at y
  obtain ⟨x0, x1⟩ := x
  obtain ⟨y0, y1⟩ := y
  have H := hid h
  have HL := hid hl
  clear h hl
  go_enter Tryz.func161, Tryz.ntmps161
  go_wp2_with fail
  refine (b_any H.out HL.out b0 b1).mono ?_
  rw [HX.out]
  rintro e w1 ⟨rfl, n, rfl⟩
  go_wp2_with fail
  refine (c_any (H.out.kept0 (grown_drewN (grown_refl _ none) n)) HL.out c0 c1).mono ?_
  rw [HY.out]
  rintro e w2 ⟨rfl, n2, rfl⟩
  go_wp2
  go_ret
  rw [HX.out, HY.out]
  exact ⟨rfl, _, rfl⟩
theorem xor_any (h : StepAt W B op a b c imm l) (hl : Regs l) (b0 : 0 ≤ b) (b1 : b < 16) (c0 : 0 ≤ c) (c1 : c < 16) :
    Calls Tryz.prog 162 #[.pointer (some ⟨B, 0, none⟩)] W (Reads W (bits BinOp.xor IntKind.u32 (regI l b) (regI l c))) := by
  obtain ⟨X, HX⟩ : ∃ X, Hid (regI l b = X) := ⟨_, hid rfl⟩
  obtain ⟨Y, HY⟩ : ∃ Y, Hid (regI l c = Y) := ⟨_, hid rfl⟩
  have x := hl.reg b
  have y := hl.reg c
  rw [HX.out] at x
  rw [HY.out] at y
  obtain ⟨x0, x1⟩ := x
  obtain ⟨y0, y1⟩ := y
  have H := hid h
  have HL := hid hl
  clear h hl
  go_enter Tryz.func162, Tryz.ntmps162
  go_wp2_with fail
  refine (b_any H.out HL.out b0 b1).mono ?_
  rw [HX.out]
  rintro e w1 ⟨rfl, n, rfl⟩
  go_wp2_with fail
  refine (c_any (H.out.kept0 (grown_drewN (grown_refl _ none) n)) HL.out c0 c1).mono ?_
  rw [HY.out]
  rintro e w2 ⟨rfl, n2, rfl⟩
  go_wp2
  go_ret
  rw [HX.out, HY.out]
  exact ⟨rfl, _, rfl⟩
theorem shl_any (h : StepAt W B op a b c imm l) (hl : Regs l) (b0 : 0 ≤ b) (b1 : b < 16) (c0 : 0 ≤ c) (c1 : c < 16) :
    Calls Tryz.prog 163 #[.pointer (some ⟨B, 0, none⟩)] W (Reads W (regI l b * 2 ^ (regI l c % 32).toNat % 4294967296)) := by
  obtain ⟨X, HX⟩ : ∃ X, Hid (regI l b = X) := ⟨_, hid rfl⟩
  obtain ⟨Y, HY⟩ : ∃ Y, Hid (regI l c = Y) := ⟨_, hid rfl⟩
  have x := hl.reg b
  have y := hl.reg c
  rw [HX.out] at x
  rw [HY.out] at y
  obtain ⟨x0, x1⟩ := x
  obtain ⟨y0, y1⟩ := y
  have E := and_31 Y y0 y1
  have e0 : 0 ≤ Y % 32 := by omega
  have e1 : Y % 32 < 32 := by omega
  have H := hid h
  have HL := hid hl
  clear h hl
  go_enter Tryz.func163, Tryz.ntmps163
  go_wp2_with fail
  refine (b_any H.out HL.out b0 b1).mono ?_
  rw [HX.out]
  rintro e w1 ⟨rfl, n, rfl⟩
  go_wp2_with fail
  refine (c_any (H.out.kept0 (grown_drewN (grown_refl _ none) n)) HL.out c0 c1).mono ?_
  rw [HY.out]
  rintro e w2 ⟨rfl, n2, rfl⟩
  go_wp2
  go_ret
  rw [HX.out, HY.out]
  exact ⟨rfl, _, rfl⟩
theorem shr_any (h : StepAt W B op a b c imm l) (hl : Regs l) (b0 : 0 ≤ b) (b1 : b < 16) (c0 : 0 ≤ c) (c1 : c < 16) :
    Calls Tryz.prog 164 #[.pointer (some ⟨B, 0, none⟩)] W (Reads W (regI l b / 2 ^ (regI l c % 32).toNat)) := by
  obtain ⟨X, HX⟩ : ∃ X, Hid (regI l b = X) := ⟨_, hid rfl⟩
  obtain ⟨Y, HY⟩ : ∃ Y, Hid (regI l c = Y) := ⟨_, hid rfl⟩
  have x := hl.reg b
  have y := hl.reg c
  rw [HX.out] at x
  rw [HY.out] at y
  obtain ⟨x0, x1⟩ := x
  obtain ⟨y0, y1⟩ := y
  have E := and_31 Y y0 y1
  have e0 : 0 ≤ Y % 32 := by omega
  have e1 : Y % 32 < 32 := by omega
  have H := hid h
  have HL := hid hl
  clear h hl
  go_enter Tryz.func164, Tryz.ntmps164
  go_wp2_with fail
  refine (b_any H.out HL.out b0 b1).mono ?_
  rw [HX.out]
  rintro e w1 ⟨rfl, n, rfl⟩
  go_wp2_with fail
  refine (c_any (H.out.kept0 (grown_drewN (grown_refl _ none) n)) HL.out c0 c1).mono ?_
  rw [HY.out]
  rintro e w2 ⟨rfl, n2, rfl⟩
  go_wp2
  go_ret
  rw [HX.out, HY.out]
  exact ⟨rfl, _, rfl⟩
theorem lt_any (h : StepAt W B op a b c imm l) (hl : Regs l) (b0 : 0 ≤ b) (b1 : b < 16) (c0 : 0 ≤ c) (c1 : c < 16) :
    Calls Tryz.prog 165 #[.pointer (some ⟨B, 0, none⟩)] W (Reads W (oneI (decide (regI l b < regI l c)))) := by
  obtain ⟨X, HX⟩ : ∃ X, Hid (regI l b = X) := ⟨_, hid rfl⟩
  obtain ⟨Y, HY⟩ : ∃ Y, Hid (regI l c = Y) := ⟨_, hid rfl⟩
  have x := hl.reg b
  have y := hl.reg c
  rw [HX.out] at x
  rw [HY.out] at y
  obtain ⟨x0, x1⟩ := x
  obtain ⟨y0, y1⟩ := y
  have H := hid h
  have HL := hid hl
  clear h hl
  go_enter Tryz.func165, Tryz.ntmps165
  go_wp2_with fail
  refine (b_any H.out HL.out b0 b1).mono ?_
  rw [HX.out]
  rintro e w1 ⟨rfl, n, rfl⟩
  go_wp2_with fail
  refine (c_any (H.out.kept0 (grown_drewN (grown_refl _ none) n)) HL.out c0 c1).mono ?_
  rw [HY.out]
  rintro e w2 ⟨rfl, n2, rfl⟩
  go_wp2_with fail
  refine (one_any _ _).mono ?_
  rintro e w3 ⟨rfl, rfl⟩
  go_wp2
  go_ret
  rw [HX.out, HY.out]
  exact ⟨rfl, _, rfl⟩
theorem eq_any (h : StepAt W B op a b c imm l) (hl : Regs l) (b0 : 0 ≤ b) (b1 : b < 16) (c0 : 0 ≤ c) (c1 : c < 16) :
    Calls Tryz.prog 166 #[.pointer (some ⟨B, 0, none⟩)] W (Reads W (oneI (regI l b == regI l c))) := by
  obtain ⟨X, HX⟩ : ∃ X, Hid (regI l b = X) := ⟨_, hid rfl⟩
  obtain ⟨Y, HY⟩ : ∃ Y, Hid (regI l c = Y) := ⟨_, hid rfl⟩
  have x := hl.reg b
  have y := hl.reg c
  rw [HX.out] at x
  rw [HY.out] at y
  obtain ⟨x0, x1⟩ := x
  obtain ⟨y0, y1⟩ := y
  have H := hid h
  have HL := hid hl
  clear h hl
  go_enter Tryz.func166, Tryz.ntmps166
  go_wp2_with fail
  refine (b_any H.out HL.out b0 b1).mono ?_
  rw [HX.out]
  rintro e w1 ⟨rfl, n, rfl⟩
  go_wp2_with fail
  refine (c_any (H.out.kept0 (grown_drewN (grown_refl _ none) n)) HL.out c0 c1).mono ?_
  rw [HY.out]
  rintro e w2 ⟨rfl, n2, rfl⟩
  go_wp2_with fail
  refine (one_any _ _).mono ?_
  rintro e w3 ⟨rfl, rfl⟩
  go_wp2
  go_ret
  rw [HX.out, HY.out]
  exact ⟨rfl, _, rfl⟩
theorem zero_any (h : StepAt W B op a b c imm l) (hl : Regs l) (h0 : 0 ≤ a) (h1 : a < 16) :
    Calls Tryz.prog 173 #[.pointer (some ⟨B, 0, none⟩)] W (ReadsB W ((regI l a == 0))) := by
  obtain ⟨X, HX⟩ : ∃ X, Hid (regI l a = X) := ⟨_, hid rfl⟩
  have H := hid h
  have HL := hid hl
  clear h hl
  go_enter Tryz.func173, Tryz.ntmps173
  go_wp2_with fail
  refine (a_any H.out HL.out h0 h1).mono ?_
  rw [HX.out]
  rintro e w1 ⟨rfl, n, rfl⟩
  go_wp2
  go_ret
  rw [HX.out]
  exact ⟨rfl, _, rfl⟩
theorem notZero_any (h : StepAt W B op a b c imm l) (hl : Regs l) (h0 : 0 ≤ a) (h1 : a < 16) :
    Calls Tryz.prog 174 #[.pointer (some ⟨B, 0, none⟩)] W (ReadsB W (!(regI l a == 0))) := by
  obtain ⟨X, HX⟩ : ∃ X, Hid (regI l a = X) := ⟨_, hid rfl⟩
  have H := hid h
  have HL := hid hl
  clear h hl
  go_enter Tryz.func174, Tryz.ntmps174
  go_wp2_with fail
  refine (a_any H.out HL.out h0 h1).mono ?_
  rw [HX.out]
  rintro e w1 ⟨rfl, n, rfl⟩
  go_wp2
  go_ret
  rw [HX.out]
  exact ⟨rfl, _, rfl⟩
theorem always_any : Calls Tryz.prog 175 #[.pointer (some ⟨B, 0, none⟩)] W (ReadsB W true) := by
  go_enter Tryz.func175, Tryz.ntmps175
  go_wp2
  go_ret
  exact ⟨rfl, 0, rfl⟩
end
end Go.Proofs.YtkkbhifplbleiaaGreatDoor
