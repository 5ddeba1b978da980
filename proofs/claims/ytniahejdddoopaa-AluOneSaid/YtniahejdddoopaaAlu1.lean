/- What a step's small methods do (package alu): contracts. -/
import Derived.Test.YtniahejdddoopaaAlu0
namespace Go.Proofs.Ytniahejdddoopaa
open Go.RowKit
/-- a word is answered, nothing but draws has been -/
def Reads (W : World) (V : Int) (e : Ending) (w' : World) : Prop := e = .returned (.int .u32 V) ∧ ∃ n, w' = W.drewN n
theorem nat_and31 (n : Nat) : n &&& 31 = n % 32 := Nat.and_two_pow_sub_one_eq_mod n 5
theorem and_31 (x : Int) (h : 0 ≤ x) (h' : x < 4294967296) : bits BinOp.and IntKind.u32 x 31 = x % 32 := by
  obtain ⟨n, rfl⟩ := Int.eq_ofNat_of_zero_le h
  rw [show (31 : Int) = ((31 : Nat) : Int) from rfl, u32_and_nat n 31 (by omega) (by decide), nat_and31]
  omega
/-- a bool is answered, nothing but draws has been -/
def ReadsB (W : World) (V : Bool) (e : Ending) (w' : World) : Prop := e = .returned (.bool V) ∧ ∃ n, w' = W.drewN n
section
variable {W : World} {B : Nat} {op a b c imm : Int} {l : List Int}
theorem a_any (h : StepAt W B op a b c imm l) (hl : Regs l) (h0 : 0 ≤ a) (h1 : a < 16) :
    Calls Try.prog 25 #[.pointer (some ⟨B, 0, none⟩)] W (Reads W (regI l a)) := by
  have k1 := h.c1
  have kr := h.reg (hl.get h0 h1)
  clear h hl
  go_enter Try.func25, Try.ntmps25
  go_wp2
  go_quiet (fail)
  go_wp2
  go_ret
  exact ⟨rfl, _, rfl⟩
theorem b_any (h : StepAt W B op a b c imm l) (hl : Regs l) (h0 : 0 ≤ b) (h1 : b < 16) :
    Calls Try.prog 26 #[.pointer (some ⟨B, 0, none⟩)] W (Reads W (regI l b)) := by
  have k1 := h.c2
  have kr := h.reg (hl.get h0 h1)
  clear h hl
  go_enter Try.func26, Try.ntmps26
  go_wp2
  go_quiet (fail)
  go_wp2
  go_ret
  exact ⟨rfl, _, rfl⟩
theorem c_any (h : StepAt W B op a b c imm l) (hl : Regs l) (h0 : 0 ≤ c) (h1 : c < 16) :
    Calls Try.prog 46 #[.pointer (some ⟨B, 0, none⟩)] W (Reads W (regI l c)) := by
  have k1 := h.c3
  have kr := h.reg (hl.get h0 h1)
  clear h hl
  go_enter Try.func46, Try.ntmps46
  go_wp2
  go_quiet (fail)
  go_wp2
  go_ret
  exact ⟨rfl, _, rfl⟩
theorem imm_any (h : StepAt W B op a b c imm l) :
    Calls Try.prog 37 #[.pointer (some ⟨B, 0, none⟩)] W (Reads W imm) := by
  have k1 := h.c4
  clear h
  go_enter Try.func37, Try.ntmps37
  go_wp2
  go_ret
  exact ⟨rfl, 0, rfl⟩
def oneI (t : Bool) : Int := if t = true then 1 else 0
theorem one_any (t : Bool) (W : World) : Calls Try.prog 47 #[.bool t] W fun e w' => e = .returned (.int .u32 (oneI t)) ∧ W = w' := by
  cases t
  all_goals
    go_enter Try.func47, Try.ntmps47
    go_wp2
    go_ret
    exact ⟨rfl, rfl⟩
theorem add_any (h : StepAt W B op a b c imm l) (hl : Regs l) (b0 : 0 ≤ b) (b1 : b < 16) (c0 : 0 ≤ c) (c1 : c < 16) :
    Calls Try.prog 27 #[.pointer (some ⟨B, 0, none⟩)] W (Reads W ((regI l b + regI l c) % 4294967296)) := by
  obtain ⟨X, HX⟩ : ∃ X, Hid (regI l b = X) := ⟨_, hid rfl⟩
  obtain ⟨Y, HY⟩ : ∃ Y, Hid (regI l c = Y) := ⟨_, hid rfl⟩
  have x := hl.reg b
  have y := hl.reg c
  rw [HX.out] at x
  rw [HY.out] at y
  obtain ⟨x0, x1⟩ := x
  obtain ⟨y0, y1⟩ := y
  have H := hid h
  have HL := hid hl
  clear h hl
  go_enter Try.func27, Try.ntmps27
  go_wp2_with fail
  refine (b_any H.out HL.out b0 b1).mono ?_
  rw [HX.out]
  rintro e w1 ⟨rfl, n, rfl⟩
  go_wp2_with fail
  refine (c_any (H.out.kept0 (grown_drewN (grown_refl _ none) n)) HL.out c0 c1).mono ?_
  rw [HY.out]
  rintro e w2 ⟨rfl, n2, rfl⟩
  go_wp2
  go_ret
  rw [HX.out, HY.out]
  exact ⟨rfl, _, rfl⟩
theorem sub_any (h : StepAt W B op a b c imm l) (hl : Regs l) (b0 : 0 ≤ b) (b1 : b < 16) (c0 : 0 ≤ c) (c1 : c < 16) :
    Calls Try.prog 28 #[.pointer (some ⟨B, 0, none⟩)] W (Reads W ((regI l b - regI l c) % 4294967296)) := by
  obtain ⟨X, HX⟩ : ∃ X, Hid (regI l b = X) := ⟨_, hid rfl⟩
  obtain ⟨Y, HY⟩ : ∃ Y, Hid (regI l c = Y) := ⟨_, hid rfl⟩
  have x := hl.reg b
  have y := hl.reg c
  rw [HX.out] at x
  rw [HY.out] at y
  obtain ⟨x0, x1⟩ := x
  obtain ⟨y0, y1⟩ := y
  have H := hid h
  have HL := hid hl
  clear h hl
  go_enter Try.func28, Try.ntmps28
  go_wp2_with fail
  refine (b_any H.out HL.out b0 b1).mono ?_
  rw [HX.out]
  rintro e w1 ⟨rfl, n, rfl⟩
  go_wp2_with fail
  refine (c_any (H.out.kept0 (grown_drewN (grown_refl _ none) n)) HL.out c0 c1).mono ?_
  rw [HY.out]
  rintro e w2 ⟨rfl, n2, rfl⟩
  go_wp2
  go_ret
  rw [HX.out, HY.out]
  exact ⟨rfl, _, rfl⟩
theorem mul_any (h : StepAt W B op a b c imm l) (hl : Regs l) (b0 : 0 ≤ b) (b1 : b < 16) (c0 : 0 ≤ c) (c1 : c < 16) :
    Calls Try.prog 36 #[.pointer (some ⟨B, 0, none⟩)] W (Reads W (regI l b * regI l c % 4294967296)) := by
  obtain ⟨X, HX⟩ : ∃ X, Hid (regI l b = X) := ⟨_, hid rfl⟩
  obtain ⟨Y, HY⟩ : ∃ Y, Hid (regI l c = Y) := ⟨_, hid rfl⟩
  have x := hl.reg b
  have y := hl.reg c
  rw [HX.out] at x
  rw [HY.out] at y
  obtain ⟨x0, x1⟩ := x
  obtain ⟨y0, y1⟩ := y
  have H := hid h
  have HL := hid hl
  clear h hl
  go_enter Try.func36, Try.ntmps36
  go_wp2_with fail
  refine (b_any H.out HL.out b0 b1).mono ?_
  rw [HX.out]
  rintro e w1 ⟨rfl, n, rfl⟩
  go_wp2_with fail
  refine (c_any (H.out.kept0 (grown_drewN (grown_refl _ none) n)) HL.out c0 c1).mono ?_
  rw [HY.out]
  rintro e w2 ⟨rfl, n2, rfl⟩
  go_wp2
  go_ret
  rw [HX.out, HY.out]
  exact ⟨rfl, _, rfl⟩
theorem and_any (h : StepAt W B op a b c imm l) (hl : Regs l) (b0 : 0 ≤ b) (b1 : b < 16) (c0 : 0 ≤ c) (c1 : c < 16) :
    Calls Try.prog 29 #[.pointer (some ⟨B, 0, none⟩)] W (Reads W (bits BinOp.and IntKind.u32 (regI l b) (regI l c))) := by
  obtain ⟨X, HX⟩ : ∃ X, Hid (regI l b = X) := ⟨_, hid rfl⟩
  obtain ⟨Y, HY⟩ : ∃ Y, Hid (regI l c = Y) := ⟨_, hid rfl⟩
  have x := hl.reg b
  have y := hl.reg c
  rw [HX.out] at x
  rw [HY.out] at y
  obtain ⟨x0, x1⟩ := x
  obtain ⟨y0, y1⟩ := y
  have H := hid h
  have HL := hid hl
  clear h hl
  go_enter Try.func29, Try.ntmps29
  go_wp2_with fail
  refine (b_any H.out HL.out b0 b1).mono ?_
  rw [HX.out]
  rintro e w1 ⟨rfl, n, rfl⟩
  go_wp2_with fail
  refine (c_any (H.out.kept0 (grown_drewN (grown_refl _ none) n)) HL.out c0 c1).mono ?_
  rw [HY.out]
  rintro e w2 ⟨rfl, n2, rfl⟩
  go_wp2
  go_ret
  rw [HX.out, HY.out]
  exact ⟨rfl, _, rfl⟩
theorem or_any (h : StepAt W B op a b c imm l) (hl : Regs l) (b0 : 0 ≤ b) (b1 : b < 16) (c0 : 0 ≤ c) (c1 : c < 16) :
    Calls Try.prog 30 #[.pointer (some ⟨B, 0, none⟩)] W (Reads W (bits BinOp.or IntKind.u32 (regI l b) (regI l c))) := by
  obtain ⟨X, HX⟩ : ∃ X, Hid (regI l b = X) := ⟨_, hid rfl⟩
  obtain ⟨Y, HY⟩ : ∃ Y, Hid (regI l c = Y) := ⟨_, hid rfl⟩
  have x := hl.reg b
  have y := hl.reg c
  rw [HX.out] at x
  rw [HY.out] at y
  obtain ⟨x0, x1⟩ := x
  obtain ⟨y0, y1⟩ := y
  have H := hid h
  have HL := hid hl
  clear h hl
  go_enter Try.func30, Try.ntmps30
  go_wp2_with fail
  refine (b_any H.out HL.out b0 b1).mono ?_
  rw [HX.out]
  rintro e w1 ⟨rfl, n, rfl⟩
  go_wp2_with fail
  refine (c_any (H.out.kept0 (grown_drewN (grown_refl _ none) n)) HL.out c0 c1).mono ?_
  rw [HY.out]
  rintro e w2 ⟨rfl, n2, rfl⟩
  go_wp2
  go_ret
  rw [HX.out, HY.out]
  exact ⟨rfl, _, rfl⟩
theorem xor_any (h : StepAt W B op a b c imm l) (hl : Regs l) (b0 : 0 ≤ b) (b1 : b < 16) (c0 : 0 ≤ c) (c1 : c < 16) :
    Calls Try.prog 31 #[.pointer (some ⟨B, 0, none⟩)] W (Reads W (bits BinOp.xor IntKind.u32 (regI l b) (regI l c))) := by
  obtain ⟨X, HX⟩ : ∃ X, Hid (regI l b = X) := ⟨_, hid rfl⟩
  obtain ⟨Y, HY⟩ : ∃ Y, Hid (regI l c = Y) := ⟨_, hid rfl⟩
  have x := hl.reg b
  have y := hl.reg c
  rw [HX.out] at x
  rw [HY.out] at y
  obtain ⟨x0, x1⟩ := x
  obtain ⟨y0, y1⟩ := y
  have H := hid h
  have HL := hid hl
  clear h hl
  go_enter Try.func31, Try.ntmps31
  go_wp2_with fail
  refine (b_any H.out HL.out b0 b1).mono ?_
  rw [HX.out]
  rintro e w1 ⟨rfl, n, rfl⟩
  go_wp2_with fail
  refine (c_any (H.out.kept0 (grown_drewN (grown_refl _ none) n)) HL.out c0 c1).mono ?_
  rw [HY.out]
  rintro e w2 ⟨rfl, n2, rfl⟩
  go_wp2
  go_ret
  rw [HX.out, HY.out]
  exact ⟨rfl, _, rfl⟩
theorem shl_any (h : StepAt W B op a b c imm l) (hl : Regs l) (b0 : 0 ≤ b) (b1 : b < 16) (c0 : 0 ≤ c) (c1 : c < 16) :
    Calls Try.prog 32 #[.pointer (some ⟨B, 0, none⟩)] W (Reads W (regI l b * 2 ^ (regI l c % 32).toNat % 4294967296)) := by
  obtain ⟨X, HX⟩ : ∃ X, Hid (regI l b = X) := ⟨_, hid rfl⟩
  obtain ⟨Y, HY⟩ : ∃ Y, Hid (regI l c = Y) := ⟨_, hid rfl⟩
  have x := hl.reg b
  have y := hl.reg c
  rw [HX.out] at x
  rw [HY.out] at y
  obtain ⟨x0, x1⟩ := x
  obtain ⟨y0, y1⟩ := y
  have E := and_31 Y y0 y1
  have e0 : 0 ≤ Y % 32 := by omega
  have e1 : Y % 32 < 32 := by omega
  have H := hid h
  have HL := hid hl
  clear h hl
  go_enter Try.func32, Try.ntmps32
  go_wp2_with fail
  refine (b_any H.out HL.out b0 b1).mono ?_
  rw [HX.out]
  rintro e w1 ⟨rfl, n, rfl⟩
  go_wp2_with fail
  refine (c_any (H.out.kept0 (grown_drewN (grown_refl _ none) n)) HL.out c0 c1).mono ?_
  rw [HY.out]
  rintro e w2 ⟨rfl, n2, rfl⟩
  go_wp2
  go_ret
  rw [HX.out, HY.out]
  exact ⟨rfl, _, rfl⟩
theorem shr_any (h : StepAt W B op a b c imm l) (hl : Regs l) (b0 : 0 ≤ b) (b1 : b < 16) (c0 : 0 ≤ c) (c1 : c < 16) :
    Calls Try.prog 33 #[.pointer (some ⟨B, 0, none⟩)] W (Reads W (regI l b / 2 ^ (regI l c % 32).toNat)) := by
  obtain ⟨X, HX⟩ : ∃ X, Hid (regI l b = X) := ⟨_, hid rfl⟩
  obtain ⟨Y, HY⟩ : ∃ Y, Hid (regI l c = Y) := ⟨_, hid rfl⟩
  have x := hl.reg b
  have y := hl.reg c
  rw [HX.out] at x
  rw [HY.out] at y
  obtain ⟨x0, x1⟩ := x
  obtain ⟨y0, y1⟩ := y
  have E := and_31 Y y0 y1
  have e0 : 0 ≤ Y % 32 := by omega
  have e1 : Y % 32 < 32 := by omega
  have H := hid h
  have HL := hid hl
  clear h hl
  go_enter Try.func33, Try.ntmps33
  go_wp2_with fail
  refine (b_any H.out HL.out b0 b1).mono ?_
  rw [HX.out]
  rintro e w1 ⟨rfl, n, rfl⟩
  go_wp2_with fail
  refine (c_any (H.out.kept0 (grown_drewN (grown_refl _ none) n)) HL.out c0 c1).mono ?_
  rw [HY.out]
  rintro e w2 ⟨rfl, n2, rfl⟩
  go_wp2
  go_ret
  rw [HX.out, HY.out]
  exact ⟨rfl, _, rfl⟩
theorem lt_any (h : StepAt W B op a b c imm l) (hl : Regs l) (b0 : 0 ≤ b) (b1 : b < 16) (c0 : 0 ≤ c) (c1 : c < 16) :
    Calls Try.prog 34 #[.pointer (some ⟨B, 0, none⟩)] W (Reads W (oneI (decide (regI l b < regI l c)))) := by
  obtain ⟨X, HX⟩ : ∃ X, Hid (regI l b = X) := ⟨_, hid rfl⟩
  obtain ⟨Y, HY⟩ : ∃ Y, Hid (regI l c = Y) := ⟨_, hid rfl⟩
  have x := hl.reg b
  have y := hl.reg c
  rw [HX.out] at x
  rw [HY.out] at y
  obtain ⟨x0, x1⟩ := x
  obtain ⟨y0, y1⟩ := y
  have H := hid h
  have HL := hid hl
  clear h hl
  go_enter Try.func34, Try.ntmps34
  go_wp2_with fail
  refine (b_any H.out HL.out b0 b1).mono ?_
  rw [HX.out]
  rintro e w1 ⟨rfl, n, rfl⟩
  go_wp2_with fail
  refine (c_any (H.out.kept0 (grown_drewN (grown_refl _ none) n)) HL.out c0 c1).mono ?_
  rw [HY.out]
  rintro e w2 ⟨rfl, n2, rfl⟩
  go_wp2_with fail
  refine (one_any _ _).mono ?_
  rintro e w3 ⟨rfl, rfl⟩
  go_wp2
  go_ret
  rw [HX.out, HY.out]
  exact ⟨rfl, _, rfl⟩
theorem eq_any (h : StepAt W B op a b c imm l) (hl : Regs l) (b0 : 0 ≤ b) (b1 : b < 16) (c0 : 0 ≤ c) (c1 : c < 16) :
    Calls Try.prog 35 #[.pointer (some ⟨B, 0, none⟩)] W (Reads W (oneI (regI l b == regI l c))) := by
  obtain ⟨X, HX⟩ : ∃ X, Hid (regI l b = X) := ⟨_, hid rfl⟩
  obtain ⟨Y, HY⟩ : ∃ Y, Hid (regI l c = Y) := ⟨_, hid rfl⟩
  have x := hl.reg b
  have y := hl.reg c
  rw [HX.out] at x
  rw [HY.out] at y
  obtain ⟨x0, x1⟩ := x
  obtain ⟨y0, y1⟩ := y
  have H := hid h
  have HL := hid hl
  clear h hl
  go_enter Try.func35, Try.ntmps35
  go_wp2_with fail
  refine (b_any H.out HL.out b0 b1).mono ?_
  rw [HX.out]
  rintro e w1 ⟨rfl, n, rfl⟩
  go_wp2_with fail
  refine (c_any (H.out.kept0 (grown_drewN (grown_refl _ none) n)) HL.out c0 c1).mono ?_
  rw [HY.out]
  rintro e w2 ⟨rfl, n2, rfl⟩
  go_wp2_with fail
  refine (one_any _ _).mono ?_
  rintro e w3 ⟨rfl, rfl⟩
  go_wp2
  go_ret
  rw [HX.out, HY.out]
  exact ⟨rfl, _, rfl⟩
theorem zero_any (h : StepAt W B op a b c imm l) (hl : Regs l) (h0 : 0 ≤ a) (h1 : a < 16) :
    Calls Try.prog 42 #[.pointer (some ⟨B, 0, none⟩)] W (ReadsB W ((regI l a == 0))) := by
  obtain ⟨X, HX⟩ : ∃ X, Hid (regI l a = X) := ⟨_, hid rfl⟩
  have H := hid h
  have HL := hid hl
  clear h hl
  go_enter Try.func42, Try.ntmps42
  go_wp2_with fail
  refine (a_any H.out HL.out h0 h1).mono ?_
  rw [HX.out]
  rintro e w1 ⟨rfl, n, rfl⟩
  go_wp2
  go_ret
  rw [HX.out]
  exact ⟨rfl, _, rfl⟩
theorem notZero_any (h : StepAt W B op a b c imm l) (hl : Regs l) (h0 : 0 ≤ a) (h1 : a < 16) :
    Calls Try.prog 43 #[.pointer (some ⟨B, 0, none⟩)] W (ReadsB W (!(regI l a == 0))) := by
  obtain ⟨X, HX⟩ : ∃ X, Hid (regI l a = X) := ⟨_, hid rfl⟩
  have H := hid h
  have HL := hid hl
  clear h hl
  go_enter Try.func43, Try.ntmps43
  go_wp2_with fail
  refine (a_any H.out HL.out h0 h1).mono ?_
  rw [HX.out]
  rintro e w1 ⟨rfl, n, rfl⟩
  go_wp2
  go_ret
  rw [HX.out]
  exact ⟨rfl, _, rfl⟩
theorem always_any : Calls Try.prog 44 #[.pointer (some ⟨B, 0, none⟩)] W (ReadsB W true) := by
  go_enter Try.func44, Try.ntmps44
  go_wp2
  go_ret
  exact ⟨rfl, 0, rfl⟩
end
end Go.Proofs.Ytniahejdddoopaa
