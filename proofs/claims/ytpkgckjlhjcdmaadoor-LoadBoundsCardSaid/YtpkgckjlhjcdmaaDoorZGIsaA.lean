/- Plain facts on instructions: classes, second words, jumps, operands, words; no program is named here. -/
import Derived.Test.YtpkgckjlhjcdmaaDoorRows
import Derived.WalkKit
import Derived.WalkSpells
import Derived.WalkLawsBesides
import Derived.Handy
import Derived.Test.YtpkgckjlhjcdmaaDoorZGMem
namespace Go.Proofs.YtpkgckjlhjcdmaaDoor

def clsI (op : Int) : Int :=
  if 1 ≤ op ∧ op ≤ 24 then 1 else if 32 ≤ op ∧ op ≤ 44 then 2 else if 64 ≤ op ∧ op ≤ 67 then 3 else if op = 96 then 4 else 0
def twoB (op : Int) : Bool := decide (op = 14 ∨ op = 15 ∨ op = 19 ∨ op = 20 ∨ op = 21 ∨ op = 22 ∨ op = 96)
def jmpB (op : Int) : Bool := decide (op = 16 ∨ op = 17 ∨ op = 18 ∨ op = 19 ∨ op = 20 ∨ op = 21 ∨ op = 22 ∨ op = 23)
/-- the kind of C where an instruction has one -/
def thirdI (op : Int) : Int := if 16 ≤ op ∧ op ≤ 23 ∨ op = 12 ∨ op = 13 then 2 else 1
/-- kinds of A, B, C: 0 none, 1 a register, 2 a number -/
def hasA (op : Int) : Int :=
  if op = 14 ∨ op = 15 ∨ op = 20 ∨ op = 21 ∨ op = 23 ∨ op = 32 ∨ op = 33 ∨ op = 35 ∨ op = 36 ∨ op = 39 ∨ op = 40 ∨ op = 43 ∨ op = 44 ∨ op = 66 ∨ op = 67 ∨ op = 2 ∨ op = 37 ∨ op = 38 ∨ op = 41 ∨ (3 ≤ op ∧ op ≤ 13) ∨ op = 24 ∨ op = 17 ∨ op = 18 then 1 else 0
def hasB (op : Int) : Int := if op = 2 ∨ op = 37 ∨ op = 38 ∨ op = 41 ∨ (3 ≤ op ∧ op ≤ 13) ∨ op = 24 then 1 else 0
def hasC (op : Int) : Int := if op = 12 ∨ op = 13 ∨ op = 16 ∨ op = 17 ∨ op = 18 then 2 else if (3 ≤ op ∧ op ≤ 11) ∨ op = 24 then 1 else 0
def alwB (k n : Int) : Bool := if k = 1 then decide (0 ≤ n ∧ n < 16) else if k = 2 then decide (0 ≤ n ∧ n ≤ 255) else decide (n = 0)
/-- an instruction that may be -/
def insB (op a b c imm : Int) : Bool := decide (clsI op ≠ 0) && alwB (hasA op) a && alwB (hasB op) b && alwB (hasC op) c && (decide (imm = 0) || twoB op)
def wrdI (op a b c : Int) : Int := op * 16777216 + a * 65536 + b * 256 + c

theorem alw_bd {k n : Int} (h : alwB k n = true) : 0 ≤ n ∧ n ≤ 255 := by
  unfold alwB at h
  split at h
  · have := of_decide_eq_true h; omega
  · split at h
    · exact of_decide_eq_true h
    · have := of_decide_eq_true h; omega
theorem cls_bd {op : Int} (h : clsI op ≠ 0) : 1 ≤ op ∧ op ≤ 96 := by
  unfold clsI at h
  split at h
  · omega
  · split at h
    · omega
    · split at h
      · omega
      · split at h <;> omega
theorem ins_parts {op a b c imm : Int} (h : insB op a b c imm = true) :
    clsI op ≠ 0 ∧ alwB (hasA op) a = true ∧ alwB (hasB op) b = true ∧ alwB (hasC op) c = true ∧ (imm = 0 ∨ twoB op = true) := by
  unfold insB at h
  simp only [Bool.and_eq_true, Bool.or_eq_true, decide_eq_true_eq] at h
  exact ⟨h.1.1.1.1, h.1.1.1.2, h.1.1.2, h.1.2, h.2⟩
theorem ins_bd {op a b c imm : Int} (h : insB op a b c imm = true) :
    (1 ≤ op ∧ op ≤ 96) ∧ (0 ≤ a ∧ a ≤ 255) ∧ (0 ≤ b ∧ b ≤ 255) ∧ (0 ≤ c ∧ c ≤ 255) := by
  obtain ⟨h1, h2, h3, h4, _⟩ := ins_parts h
  exact ⟨cls_bd h1, alw_bd h2, alw_bd h3, alw_bd h4⟩
theorem wrd_bd {op a b c imm : Int} (h : insB op a b c imm = true) : 16777216 ≤ wrdI op a b c ∧ wrdI op a b c < 1627389952 := by
  obtain ⟨h1, h2, h3, h4⟩ := ins_bd h
  unfold wrdI; omega
end Go.Proofs.YtpkgckjlhjcdmaaDoor
/- What the calls of package isa do: contracts. -/
namespace Go.Proofs.YtpkgckjlhjcdmaaDoor
open Go.RowKit
theorem ret_3 {k : IntKind} {a b c a' b' c' : Int} (h : a = a') (h1 : b = b') (h2 : c = c') : Ending.returned (.agg #[.int k a, .int k b, .int k c]) = .returned (.agg #[.int k a', .int k b', .int k c']) := by rw [h, h1, h2]
theorem bcell {W w1 : World} (hb : Below W.heap.size W w1) : (∀ b o, b < W.heap.size → w1.cell? ⟨b, o, none⟩ = W.cell? ⟨b, o, none⟩) ∧ (∀ b o, b < W.heap.size → w1.frozen? ⟨b, o, none⟩ = W.frozen? ⟨b, o, none⟩) :=
  ⟨fun b o h => hb.cell (p := ⟨b, o, none⟩) h, fun b o h => hb.frozen (p := ⟨b, o, none⟩) h⟩

set_option maxHeartbeats 400000 in
theorem class_any (op : Int) (w : World) :
    Calls Tryd.prog 143 #[.agg #[], .int .i64 op] w fun e w' => e = .returned (.int .i64 (clsI op)) ∧ w' = w.alloc (.cells #[] 227) := by
  go_enter Tryd.func143, Tryd.ntmps143
  go_wp2
  all_goals
    go_ret
    refine ⟨ret_i ?_, rfl⟩
    try simp only [beq_iff_eq, beq_eq_false_iff_ne, ne_eq] at *
    unfold clsI
    repeat' split
    all_goals omega

set_option maxHeartbeats 400000 in
theorem two_any (op : Int) (w : World) :
    Calls Tryd.prog 126 #[.agg #[], .int .i64 op] w fun e w' => e = .returned (.bool (twoB op)) ∧ w' = w.alloc (.cells #[] 227) := by
  go_enter Tryd.func126, Tryd.ntmps126
  go_wp2
  all_goals
    go_ret
    refine ⟨ret_b ?_, rfl⟩
    try simp only [beq_iff_eq, beq_eq_false_iff_ne, ne_eq] at *
    unfold twoB
    simp only [true_eq_decide_iff, false_eq_decide_iff]
    omega

set_option maxHeartbeats 400000 in
theorem jumps_any (op : Int) (w : World) :
    Calls Tryd.prog 121 #[.agg #[], .int .i64 op] w fun e w' => e = .returned (.bool (jmpB op)) ∧ w' = w.alloc (.cells #[] 227) := by
  go_enter Tryd.func121, Tryd.ntmps121
  go_wp2
  all_goals
    go_ret
    refine ⟨ret_b ?_, rfl⟩
    try simp only [beq_iff_eq, beq_eq_false_iff_ne, ne_eq] at *
    unfold jmpB
    simp only [true_eq_decide_iff, false_eq_decide_iff]
    omega

set_option maxHeartbeats 400000 in
theorem allows_any (k n : Int) (w : World) :
    Calls Tryd.prog 145 #[.int .i64 k, .int .i64 n] w fun e w' => e = .returned (.bool (alwB k n)) ∧ w = w' := by
  go_enter Tryd.func145, Tryd.ntmps145
  go_wp2
  all_goals
    go_ret
    refine ⟨ret_b ?_, rfl⟩
    try simp only [beq_iff_eq, beq_eq_false_iff_ne, ne_eq] at *
    unfold alwB
    repeat' split
    all_goals first | omega | (symm; rw [decide_eq_false_iff_not]; omega) | (rw [Bool.eq_iff_iff]; simp only [decide_eq_true_eq, beq_iff_eq]; omega) | (rw [Bool.eq_iff_iff]; simp only [decide_eq_true_eq, beq_iff_eq])

set_option maxHeartbeats 400000 in
theorem tables_any (w : World) :
    Calls Tryd.prog 120 #[] w fun e w' => e = .returned (.agg #[]) ∧ w' = w.alloc (.cells #[] 227) := by
  go_enter Tryd.func120, Tryd.ntmps120
  go_wp2
  go_returns
  refine ⟨rfl, rfl⟩

set_option maxHeartbeats 400000 in
theorem askc_any (op : Int) (w : World) :
    Calls Tryd.prog 142 #[.func (.func 143) #[] #[], .int .i64 op] w fun e w' => e = .returned (.int .i64 (clsI op)) ∧ w' = (w.alloc (.cells #[] 227)).alloc (.cells #[] 227) := by
  go_enter Tryd.func142, Tryd.ntmps142
  go_wp2_with (first | (go_at_call 120; refine (tables_any _).mono ?_; rintro e w' ⟨rfl, rfl⟩) | (go_at_call 143; refine (class_any _ _).mono ?_; rintro e w' ⟨rfl, rfl⟩))
  go_ret
  exact ⟨rfl, rfl⟩
set_option maxHeartbeats 400000 in
theorem askt_any (op : Int) (w : World) :
    Calls Tryd.prog 125 #[.func (.func 126) #[] #[], .int .i64 op] w fun e w' => e = .returned (.bool (twoB op)) ∧ w' = (w.alloc (.cells #[] 227)).alloc (.cells #[] 227) := by
  go_enter Tryd.func125, Tryd.ntmps125
  go_wp2_with (first | (go_at_call 120; refine (tables_any _).mono ?_; rintro e w' ⟨rfl, rfl⟩) | (go_at_call 126; refine (two_any _ _).mono ?_; rintro e w' ⟨rfl, rfl⟩))
  go_ret
  exact ⟨rfl, rfl⟩
set_option maxHeartbeats 400000 in
theorem askj_any (op : Int) (w : World) :
    Calls Tryd.prog 125 #[.func (.func 121) #[] #[], .int .i64 op] w fun e w' => e = .returned (.bool (jmpB op)) ∧ w' = (w.alloc (.cells #[] 227)).alloc (.cells #[] 227) := by
  go_enter Tryd.func125, Tryd.ntmps125
  go_wp2_with (first | (go_at_call 120; refine (tables_any _).mono ?_; rintro e w' ⟨rfl, rfl⟩) | (go_at_call 121; refine (jumps_any _ _).mono ?_; rintro e w' ⟨rfl, rfl⟩))
  go_ret
  exact ⟨rfl, rfl⟩

set_option maxHeartbeats 400000 in
theorem third_any (op : Int) (w : World) :
    Calls Tryd.prog 160 #[.int .i64 op] w fun e w' => e = .returned (.int .i64 (thirdI op)) ∧ w' = (w.alloc (.cells #[] 227)).alloc (.cells #[] 227) := by
  by_cases hj : jmpB op = true
  · go_enter Tryd.func160, Tryd.ntmps160
    go_wp2_with (go_at_call 125; refine (askj_any _ _).mono ?_; rintro e w' ⟨rfl, rfl⟩)
    go_ret
    refine ⟨ret_i ?_, rfl⟩
    unfold jmpB at hj; have := of_decide_eq_true hj
    unfold thirdI; rw [if_pos (by omega)]
  · have hj' : jmpB op = false := by simpa using hj
    clear hj
    go_enter Tryd.func160, Tryd.ntmps160
    go_wp2_with (go_at_call 125; refine (askj_any _ _).mono ?_; rintro e w' ⟨rfl, rfl⟩)
    all_goals
      go_ret
      refine ⟨ret_i ?_, rfl⟩
      unfold jmpB at hj'; have := of_decide_eq_false hj'
      try simp only [beq_iff_eq, beq_eq_false_iff_ne, ne_eq] at *
      unfold thirdI
      split <;> omega

set_option maxHeartbeats 1000000 in
theorem operands_any (op : Int) (w : World) :
    Calls Tryd.prog 144 #[.int .i64 op] w fun e w' => e = .returned (.agg #[.int .i64 (hasA op), .int .i64 (hasB op), .int .i64 (hasC op)]) ∧ Below w.heap.size w w' := by
  go_enter Tryd.func144, Tryd.ntmps144
  go_wp2_with (go_at_call 160; refine (third_any _ _).mono ?_; rintro e w' ⟨rfl, rfl⟩)
  all_goals
    go_returns
    simp only [beq_iff_eq, beq_eq_false_iff_ne, ne_eq] at *
    refine ⟨ret_3 ?_ ?_ ?_, by go_grown⟩
    · unfold hasA; split <;> omega
    · unfold hasB; split <;> omega
    · unfold hasC; try unfold thirdI
      repeat' split
      all_goals omega
end Go.Proofs.YtpkgckjlhjcdmaaDoor
/- What the calls of package isa do: mayBe, Word, Of, Disp: contracts. -/
namespace Go.Proofs.YtpkgckjlhjcdmaaDoor
open Go.RowKit

theorem ret_wb {k : IntKind} {a b : Int} {c : Bool} (h : a = b) : Ending.returned (.tuple #[.int k a, .bool c]) = .returned (.tuple #[.int k b, .bool c]) := by rw [h]

theorem ins_ways (op a b c imm : Int) :
    ((clsI op == 0) = true ∧ Hid (insB op a b c imm = false)) ∨
    ((clsI op == 0) = false ∧ alwB (hasA op) a = false ∧ Hid (insB op a b c imm = false)) ∨
    ((clsI op == 0) = false ∧ alwB (hasA op) a = true ∧ alwB (hasB op) b = false ∧ Hid (insB op a b c imm = false)) ∨
    ((clsI op == 0) = false ∧ alwB (hasA op) a = true ∧ alwB (hasB op) b = true ∧ alwB (hasC op) c = false ∧ Hid (insB op a b c imm = false)) ∨
    ((clsI op == 0) = false ∧ alwB (hasA op) a = true ∧ alwB (hasB op) b = true ∧ alwB (hasC op) c = true ∧ (imm == 0) = true ∧ Hid (insB op a b c imm = true)) ∨
    ((clsI op == 0) = false ∧ alwB (hasA op) a = true ∧ alwB (hasB op) b = true ∧ alwB (hasC op) c = true ∧ (imm == 0) = false ∧ Hid (insB op a b c imm = twoB op)) := by
  unfold Hid
  unfold insB
  by_cases h0 : clsI op = 0
  · left; simp [h0]
  · right
    cases h1 : alwB (hasA op) a
    · left; simp [h0]
    · right
      cases h2 : alwB (hasB op) b
      · left; simp [h0]
      · right
        cases h3 : alwB (hasC op) c
        · left; simp [h0]
        · right
          by_cases h4 : imm = 0
          · left; simp [h0, h4]
          · right; simp [h0, h4]

set_option maxHeartbeats 1000000 in
theorem mayBe_any (op a b c imm : Int) (w : World) :
    Calls Tryd.prog 127 #[.agg #[.int .i64 op, .int .i64 a, .int .i64 b, .int .i64 c, .int .u32 imm]] w fun e w' => e = .returned (.bool (insB op a b c imm)) ∧ Below w.heap.size w w' := by
  rcases ins_ways op a b c imm with ⟨h0, hv⟩ | ⟨h0, h1, hv⟩ | ⟨h0, h1, h2, hv⟩ | ⟨h0, h1, h2, h3, hv⟩ | ⟨h0, h1, h2, h3, h4, hv⟩ | ⟨h0, h1, h2, h3, h4, hv⟩
  all_goals
    go_enter Tryd.func127, Tryd.ntmps127
    go_wp2_with (first | (go_at_call 142; refine (askc_any _ _).mono ?_; rintro e w' ⟨rfl, rfl⟩) | (go_at_call 144; refine (operands_any _ _).mono ?_; rintro e w' ⟨rfl, hb⟩; obtain ⟨hc, hf⟩ := bcell hb; have hz : w.heap.size < w'.heap.size := (by have := hb.size; simp only [World.size_alloc] at this; omega); have hB : Below w.heap.size w w' := (by refine Below.trans ?_ (hb.mono ?_) <;> go_grown)) | (go_at_call 145; refine (allows_any _ _ _).mono ?_; rintro e w' ⟨rfl, rfl⟩) | (go_at_call 125; refine (askt_any _ _).mono ?_; rintro e w' ⟨rfl, rfl⟩))
    go_ret
    refine ⟨ret_b hv.out.symm, ?_⟩
    go_grown

/-- the four bytes of a word -/
theorem wrd_or (op a b c : Int) (h0 : 0 ≤ op ∧ op ≤ 255) (h1 : 0 ≤ a ∧ a ≤ 255) (h2 : 0 ≤ b ∧ b ≤ 255) (h3 : 0 ≤ c ∧ c ≤ 255) :
    bits BinOp.or IntKind.u32 (bits BinOp.or IntKind.u32 (bits BinOp.or IntKind.u32 (op * 16777216) (a * 65536)) (b * 256)) c = wrdI op a b c := by
  obtain ⟨n0, rfl⟩ := Int.eq_ofNat_of_zero_le h0.1
  obtain ⟨n1, rfl⟩ := Int.eq_ofNat_of_zero_le h1.1
  obtain ⟨n2, rfl⟩ := Int.eq_ofNat_of_zero_le h2.1
  obtain ⟨n3, rfl⟩ := Int.eq_ofNat_of_zero_le h3.1
  have q1 : n0 * 16777216 ||| n1 * 65536 = n0 * 16777216 + n1 * 65536 := nat_join 24 _ _ (by omega) (by omega)
  have q2 : (n0 * 16777216 + n1 * 65536) ||| n2 * 256 = n0 * 16777216 + n1 * 65536 + n2 * 256 := nat_join 16 _ _ (by omega) (by omega)
  have q3 : (n0 * 16777216 + n1 * 65536 + n2 * 256) ||| n3 = n0 * 16777216 + n1 * 65536 + n2 * 256 + n3 := nat_join 8 _ _ (by omega) (by omega)
  have e0 : ((n0 : Int) * 16777216) = ((n0 * 16777216 : Nat) : Int) := by omega
  have e1 : ((n1 : Int) * 65536) = ((n1 * 65536 : Nat) : Int) := by omega
  have e2 : ((n2 : Int) * 256) = ((n2 * 256 : Nat) : Int) := by omega
  unfold wrdI
  rw [e0, e1, e2, u32_or_nat (n0 * 16777216) (n1 * 65536) (by omega) (by omega), q1, u32_or_nat _ (n2 * 256) (by omega) (by omega), q2, u32_or_nat _ n3 (by omega) (by omega), q3]
  omega
theorem and_255 (x : Int) (h : 0 ≤ x) (h' : x < 4294967296) : bits BinOp.and IntKind.u32 x 255 = x % 256 := by
  obtain ⟨n, rfl⟩ := Int.eq_ofNat_of_zero_le h
  rw [show (255 : Int) = ((255 : Nat) : Int) from rfl, u32_and_nat n 255 (by omega) (by decide), nat_mask8]
  omega

set_option maxHeartbeats 1000000 in
theorem word_yes (op a b c imm : Int) (w : World) (h : insB op a b c imm = true) :
    Calls Tryd.prog 114 #[.agg #[.int .i64 op, .int .i64 a, .int .i64 b, .int .i64 c, .int .u32 imm]] w fun e w' => e = .returned (.tuple #[.int .u32 (wrdI op a b c), .bool true]) ∧ Below w.heap.size w w' := by
  obtain ⟨⟨o1, o2⟩, ⟨a1, a2⟩, ⟨b1, b2⟩, ⟨c1, c2⟩⟩ := ins_bd h
  have H : Hid (bits BinOp.or IntKind.u32 (bits BinOp.or IntKind.u32 (bits BinOp.or IntKind.u32 (op * 16777216) (a * 65536)) (b * 256)) c = wrdI op a b c) := wrd_or op a b c ⟨by omega, by omega⟩ ⟨a1, a2⟩ ⟨b1, b2⟩ ⟨c1, c2⟩
  go_enter Tryd.func114, Tryd.ntmps114
  go_wp2_with (go_at_call 127; refine (mayBe_any _ _ _ _ _ _).mono ?_; rintro e w' ⟨rfl, hb⟩; obtain ⟨hc, hf⟩ := bcell hb; have hz : w.heap.size < w'.heap.size := (by have := hb.size; simp only [World.size_alloc] at this; omega); have hB : Below w.heap.size w w' := (by refine Below.trans ?_ (hb.mono ?_) <;> go_grown))
  go_ret2
  exact ⟨ret_wb H.out, hB⟩
set_option maxHeartbeats 1000000 in
theorem word_no (op a b c imm : Int) (w : World) (h : insB op a b c imm = false) :
    Calls Tryd.prog 114 #[.agg #[.int .i64 op, .int .i64 a, .int .i64 b, .int .i64 c, .int .u32 imm]] w fun e w' => e = .returned (.tuple #[.int .u32 0, .bool false]) ∧ Below w.heap.size w w' := by
  go_enter Tryd.func114, Tryd.ntmps114
  go_wp2_with (go_at_call 127; refine (mayBe_any _ _ _ _ _ _).mono ?_; rintro e w' ⟨rfl, hb⟩; have hB : Below w.heap.size w w' := (by refine Below.trans ?_ (hb.mono ?_) <;> go_grown))
  go_ret2
  exact ⟨rfl, hB⟩

def wantImm (op imm : Int) : Int := if twoB op = true then imm else 0
theorem wantImm_yes {op imm : Int} (h : twoB op = true) : wantImm op imm = imm := by unfold wantImm; rw [if_pos h]
theorem wantImm_no {op imm : Int} (h : twoB op = false) : wantImm op imm = 0 := by unfold wantImm; rw [if_neg (by simp [h])]
theorem ret_of {op a b c i op' a' b' c' i' : Int} {t : Bool} (h0 : op = op') (h1 : a = a') (h2 : b = b') (h3 : c = c') (h4 : i = i') :
    Ending.returned (.tuple #[.agg #[.int .i64 op, .int .i64 a, .int .i64 b, .int .i64 c, .int .u32 i], .bool t]) = .returned (.tuple #[.agg #[.int .i64 op', .int .i64 a', .int .i64 b', .int .i64 c', .int .u32 i'], .bool t]) := by rw [h0, h1, h2, h3, h4]

set_option maxHeartbeats 1000000 in
theorem of_yes (x imm : Int) (w : World) (hx0 : 0 ≤ x) (hx1 : x < 4294967296) (h : insB (x / 16777216) (x / 65536 % 256) (x / 256 % 256) (x % 256) (wantImm (x / 16777216) imm) = true) :
    Calls Tryd.prog 113 #[.int .u32 x, .int .u32 imm] w fun e w' => e = .returned (.tuple #[.agg #[.int .i64 (x / 16777216), .int .i64 (x / 65536 % 256), .int .i64 (x / 256 % 256), .int .i64 (x % 256), .int .u32 (wantImm (x / 16777216) imm)], .bool true]) ∧ Below w.heap.size w w' := by
  have E1 := and_255 (x / 65536) (by omega) (by omega)
  have E2 := and_255 (x / 256) (by omega) (by omega)
  have E3 := and_255 x (by omega) (by omega)
  cases ht : twoB (x / 16777216)
  · have hw : Hid (wantImm (x / 16777216) imm = 0) := wantImm_no ht
    rw [wantImm_no ht] at h
    go_enter Tryd.func113, Tryd.ntmps113
    go_wp2_with (first | (go_at_call 125; refine (askt_any _ _).mono ?_; rintro e w' ⟨rfl, rfl⟩) | (go_at_call 127; refine (mayBe_any _ _ _ _ _ _).mono ?_; rintro e w' ⟨rfl, hb⟩; obtain ⟨hc, hf⟩ := bcell hb; have hz1 : w.heap.size + 1 < w'.heap.size := (by have := hb.size; simp only [World.size_alloc] at this; omega); have hz : w.heap.size < w'.heap.size := (by omega); have hB : Below w.heap.size w w' := (by refine Below.trans ?_ (hb.mono ?_) <;> go_grown); have k0 : w'.cell? ⟨w.heap.size, 0, none⟩ = some (.int .i64 0) := ((hc _ _ (by simp only [World.size_alloc]; omega)).trans (by simp [go_sem])); have k1 : w'.cell? ⟨w.heap.size, 1, none⟩ = some (.int .i64 0) := ((hc _ _ (by simp only [World.size_alloc]; omega)).trans (by simp [go_sem])); have k2 : w'.cell? ⟨w.heap.size, 2, none⟩ = some (.int .i64 0) := ((hc _ _ (by simp only [World.size_alloc]; omega)).trans (by simp [go_sem])); have k3 : w'.cell? ⟨w.heap.size, 3, none⟩ = some (.int .i64 0) := ((hc _ _ (by simp only [World.size_alloc]; omega)).trans (by simp [go_sem])); have k4 : w'.cell? ⟨w.heap.size, 4, none⟩ = some (.int .u32 0) := ((hc _ _ (by simp only [World.size_alloc]; omega)).trans (by simp [go_sem]))))
    refine bodyPost_ret (v := .tuple #[.agg #[.int .i64 (x / 16777216), .int .i64 (x / 65536 % 256), .int .i64 (x / 256 % 256), .int .i64 (x % 256), .int .u32 0], .bool true]) (by simp [results, Tryd.results113, k0, k1, k2, k3, k4, go_sem]) rfl ?_
    exact ⟨ret_of rfl rfl rfl rfl hw.out.symm, by go_grown⟩
  · have hw : Hid (wantImm (x / 16777216) imm = imm) := wantImm_yes ht
    rw [wantImm_yes ht] at h
    go_enter Tryd.func113, Tryd.ntmps113
    go_wp2_with (first | (go_at_call 125; refine (askt_any _ _).mono ?_; rintro e w' ⟨rfl, rfl⟩) | (go_at_call 127; refine (mayBe_any _ _ _ _ _ _).mono ?_; rintro e w' ⟨rfl, hb⟩; obtain ⟨hc, hf⟩ := bcell hb; have hz1 : w.heap.size + 1 < w'.heap.size := (by have := hb.size; simp only [World.size_alloc] at this; omega); have hz : w.heap.size < w'.heap.size := (by omega); have hB : Below w.heap.size w w' := (by refine Below.trans ?_ (hb.mono ?_) <;> go_grown); have k0 : w'.cell? ⟨w.heap.size, 0, none⟩ = some (.int .i64 0) := ((hc _ _ (by simp only [World.size_alloc]; omega)).trans (by simp [go_sem])); have k1 : w'.cell? ⟨w.heap.size, 1, none⟩ = some (.int .i64 0) := ((hc _ _ (by simp only [World.size_alloc]; omega)).trans (by simp [go_sem])); have k2 : w'.cell? ⟨w.heap.size, 2, none⟩ = some (.int .i64 0) := ((hc _ _ (by simp only [World.size_alloc]; omega)).trans (by simp [go_sem])); have k3 : w'.cell? ⟨w.heap.size, 3, none⟩ = some (.int .i64 0) := ((hc _ _ (by simp only [World.size_alloc]; omega)).trans (by simp [go_sem])); have k4 : w'.cell? ⟨w.heap.size, 4, none⟩ = some (.int .u32 0) := ((hc _ _ (by simp only [World.size_alloc]; omega)).trans (by simp [go_sem]))))
    refine bodyPost_ret (v := .tuple #[.agg #[.int .i64 (x / 16777216), .int .i64 (x / 65536 % 256), .int .i64 (x / 256 % 256), .int .i64 (x % 256), .int .u32 imm], .bool true]) (by simp [results, Tryd.results113, k0, k1, k2, k3, k4, go_sem]) rfl ?_
    exact ⟨ret_of rfl rfl rfl rfl hw.out.symm, by go_grown⟩
set_option maxHeartbeats 1000000 in
theorem of_no (x imm : Int) (w : World) (hx0 : 0 ≤ x) (hx1 : x < 4294967296) (h : insB (x / 16777216) (x / 65536 % 256) (x / 256 % 256) (x % 256) (wantImm (x / 16777216) imm) = false) :
    Calls Tryd.prog 113 #[.int .u32 x, .int .u32 imm] w fun e w' => e = .returned (.tuple #[.agg #[.int .i64 0, .int .i64 0, .int .i64 0, .int .i64 0, .int .u32 0], .bool false]) ∧ Below w.heap.size w w' := by
  have E1 := and_255 (x / 65536) (by omega) (by omega)
  have E2 := and_255 (x / 256) (by omega) (by omega)
  have E3 := and_255 x (by omega) (by omega)
  cases ht : twoB (x / 16777216)
  · have hw : Hid (wantImm (x / 16777216) imm = 0) := wantImm_no ht
    rw [wantImm_no ht] at h
    go_enter Tryd.func113, Tryd.ntmps113
    go_wp2_with (first | (go_at_call 125; refine (askt_any _ _).mono ?_; rintro e w' ⟨rfl, rfl⟩) | (go_at_call 127; refine (mayBe_any _ _ _ _ _ _).mono ?_; rintro e w' ⟨rfl, hb⟩; obtain ⟨hc, hf⟩ := bcell hb; have hz1 : w.heap.size + 1 < w'.heap.size := (by have := hb.size; simp only [World.size_alloc] at this; omega); have hz : w.heap.size < w'.heap.size := (by omega); have hB : Below w.heap.size w w' := (by refine Below.trans ?_ (hb.mono ?_) <;> go_grown); have k0 : w'.cell? ⟨w.heap.size, 0, none⟩ = some (.int .i64 0) := ((hc _ _ (by simp only [World.size_alloc]; omega)).trans (by simp [go_sem])); have k1 : w'.cell? ⟨w.heap.size, 1, none⟩ = some (.int .i64 0) := ((hc _ _ (by simp only [World.size_alloc]; omega)).trans (by simp [go_sem])); have k2 : w'.cell? ⟨w.heap.size, 2, none⟩ = some (.int .i64 0) := ((hc _ _ (by simp only [World.size_alloc]; omega)).trans (by simp [go_sem])); have k3 : w'.cell? ⟨w.heap.size, 3, none⟩ = some (.int .i64 0) := ((hc _ _ (by simp only [World.size_alloc]; omega)).trans (by simp [go_sem])); have k4 : w'.cell? ⟨w.heap.size, 4, none⟩ = some (.int .u32 0) := ((hc _ _ (by simp only [World.size_alloc]; omega)).trans (by simp [go_sem]))))
    refine bodyPost_ret (v := .tuple #[.agg #[.int .i64 0, .int .i64 0, .int .i64 0, .int .i64 0, .int .u32 0], .bool false]) (by simp [results, Tryd.results113, k0, k1, k2, k3, k4, go_sem]) rfl ?_
    exact ⟨ret_of rfl rfl rfl rfl rfl, by go_grown⟩
  · have hw : Hid (wantImm (x / 16777216) imm = imm) := wantImm_yes ht
    rw [wantImm_yes ht] at h
    go_enter Tryd.func113, Tryd.ntmps113
    go_wp2_with (first | (go_at_call 125; refine (askt_any _ _).mono ?_; rintro e w' ⟨rfl, rfl⟩) | (go_at_call 127; refine (mayBe_any _ _ _ _ _ _).mono ?_; rintro e w' ⟨rfl, hb⟩; obtain ⟨hc, hf⟩ := bcell hb; have hz1 : w.heap.size + 1 < w'.heap.size := (by have := hb.size; simp only [World.size_alloc] at this; omega); have hz : w.heap.size < w'.heap.size := (by omega); have hB : Below w.heap.size w w' := (by refine Below.trans ?_ (hb.mono ?_) <;> go_grown); have k0 : w'.cell? ⟨w.heap.size, 0, none⟩ = some (.int .i64 0) := ((hc _ _ (by simp only [World.size_alloc]; omega)).trans (by simp [go_sem])); have k1 : w'.cell? ⟨w.heap.size, 1, none⟩ = some (.int .i64 0) := ((hc _ _ (by simp only [World.size_alloc]; omega)).trans (by simp [go_sem])); have k2 : w'.cell? ⟨w.heap.size, 2, none⟩ = some (.int .i64 0) := ((hc _ _ (by simp only [World.size_alloc]; omega)).trans (by simp [go_sem])); have k3 : w'.cell? ⟨w.heap.size, 3, none⟩ = some (.int .i64 0) := ((hc _ _ (by simp only [World.size_alloc]; omega)).trans (by simp [go_sem])); have k4 : w'.cell? ⟨w.heap.size, 4, none⟩ = some (.int .u32 0) := ((hc _ _ (by simp only [World.size_alloc]; omega)).trans (by simp [go_sem]))))
    refine bodyPost_ret (v := .tuple #[.agg #[.int .i64 0, .int .i64 0, .int .i64 0, .int .i64 0, .int .u32 0], .bool false]) (by simp [results, Tryd.results113, k0, k1, k2, k3, k4, go_sem]) rfl ?_
    exact ⟨ret_of rfl rfl rfl rfl rfl, by go_grown⟩

end Go.Proofs.YtpkgckjlhjcdmaaDoor
