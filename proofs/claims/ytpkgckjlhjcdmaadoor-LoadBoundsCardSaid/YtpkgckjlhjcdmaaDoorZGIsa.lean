/- The word of any instruction; the document's own answers to what an instruction is: contracts. -/
import Derived.Test.YtpkgckjlhjcdmaaDoorZGIsaA
namespace Go.Proofs.YtpkgckjlhjcdmaaDoor
open Go.RowKit

def wordV (op a b c imm : Int) : Int := if insB op a b c imm = true then wrdI op a b c else 0
theorem wordV_yes {op a b c imm : Int} (h : insB op a b c imm = true) : wordV op a b c imm = wrdI op a b c := by unfold wordV; rw [if_pos h]
theorem wordV_no {op a b c imm : Int} (h : insB op a b c imm = false) : wordV op a b c imm = 0 := by unfold wordV; rw [if_neg (by simp [h])]
theorem word_any (op a b c imm : Int) (w : World) :
    Calls Tryd.prog 114 #[.agg #[.int .i64 op, .int .i64 a, .int .i64 b, .int .i64 c, .int .u32 imm]] w fun e w' => e = .returned (.tuple #[.int .u32 (wordV op a b c imm), .bool (insB op a b c imm)]) ∧ Below w.heap.size w w' := by
  cases h : insB op a b c imm
  · rw [wordV_no h]; exact word_no op a b c imm w h
  · rw [wordV_yes h]; exact word_yes op a b c imm w h


set_option maxHeartbeats 400000 in
theorem rclass_any (op : Int) (w : World) :
    Calls Tryd.prog 77 #[.int .i64 op] w fun e w' => e = .returned (.int .i64 (clsI op)) ∧ w = w' := by
  go_enter Tryd.func77, Tryd.ntmps77
  go_wp2
  all_goals
    go_ret
    refine ⟨ret_i ?_, rfl⟩
    try simp only [beq_iff_eq, beq_eq_false_iff_ne, ne_eq] at *
    unfold clsI
    repeat' split
    all_goals omega

def rA (op : Int) : Bool := decide (¬ (op = 1 ∨ op = 34 ∨ op = 42 ∨ op = 64 ∨ op = 65 ∨ op = 19 ∨ op = 22 ∨ op = 96 ∨ op = 16))
def rB (op : Int) : Bool := decide (op = 2 ∨ op = 37 ∨ op = 38 ∨ op = 41 ∨ (3 ≤ op ∧ op ≤ 13) ∨ op = 24)
def rC (op : Int) : Bool := decide (op = 16 ∨ op = 17 ∨ op = 18 ∨ (3 ≤ op ∧ op ≤ 13) ∨ op = 24)
def rN (op : Int) : Bool := decide (op = 16 ∨ op = 17 ∨ op = 18 ∨ op = 12 ∨ op = 13)
theorem rA_has {op : Int} (h : clsI op ≠ 0) : hasA op = if rA op = true then 1 else 0 := by
  unfold rA hasA; unfold clsI at h; simp only [decide_eq_true_eq]
  repeat' split at h
  all_goals (repeat' split) <;> omega
theorem rB_has (op : Int) : hasB op = if rB op = true then 1 else 0 := by
  unfold rB hasB; simp only [decide_eq_true_eq]
theorem rC_has (op : Int) : hasC op = if rC op = true then (if rN op = true then 2 else 1) else 0 := by
  unfold rC rN hasC; simp only [decide_eq_true_eq]
  (repeat' split) <;> omega
theorem ret_4b {a b c d a' b' c' d' : Bool} (h : a = a') (h1 : b = b') (h2 : c = c') (h3 : d = d') :
    Ending.returned (.tuple #[.bool a, .bool b, .bool c, .bool d]) = .returned (.tuple #[.bool a', .bool b', .bool c', .bool d']) := by rw [h, h1, h2, h3]

set_option maxHeartbeats 1000000 in
theorem uses_any (op : Int) (w : World) :
    Calls Tryd.prog 76 #[.int .i64 op] w fun e w' => e = .returned (.tuple #[.bool (rA op), .bool (rB op), .bool (rC op), .bool (rN op)]) ∧ w = w' := by
  go_enter Tryd.func76, Tryd.ntmps76
  go_wp2
  all_goals
    refine bodyPost_ret (by simp [results, Tryd.results76, go_sem]; try rfl) rfl ?_
    refine ⟨ret_4b ?_ ?_ ?_ ?_, rfl⟩
    all_goals simp only [beq_iff_eq, beq_eq_false_iff_ne, ne_eq] at *
    all_goals first | unfold rA | unfold rB | unfold rC | unfold rN
    all_goals simp only [true_eq_decide_iff, false_eq_decide_iff]
    all_goals omega
end Go.Proofs.YtpkgckjlhjcdmaaDoor
/- Plain facts on operands: which ways an operand can be right or wrong. -/
namespace Go.Proofs.YtpkgckjlhjcdmaaDoor
theorem alw_ways (x : Bool) (top : Int) (is : Bool) (n : Int) (h : is = (decide (n = 0) || x && decide (0 < n) && decide (n ≤ top))) :
    ((n == 0) = true ∧ is = true) ∨ ((n == 0) = false ∧ x = false ∧ is = false) ∨ ((n == 0) = false ∧ x = true ∧ n ≤ 0 ∧ is = false) ∨
    ((n == 0) = false ∧ x = true ∧ 0 < n ∧ n ≤ top ∧ is = true) ∨ ((n == 0) = false ∧ x = true ∧ 0 < n ∧ top < n ∧ is = false) := by
  subst h
  by_cases h0 : n = 0
  · left; simp [h0]
  · right
    cases x
    · left; simp [h0]
    · right
      by_cases h1 : 0 < n
      · right
        by_cases h2 : n ≤ top
        · left; simp [h0, h1, h2]
        · right; simp [h0, h1, h2]; omega
      · left; simp [h0, h1]; omega
theorem alw_conds (x : Bool) (top : Int) (is : Bool) (n : Int) (h : is = (decide (n = 0) || x && decide (0 < n) && decide (n ≤ top))) :
    ((n == 0) = true → is = true) ∧ ((n == 0) = false → x = false → is = false) ∧ ((n == 0) = false → x = true → n ≤ 0 → is = false) ∧
    ((n == 0) = false → x = true → 0 < n → is = decide (n ≤ top)) := by
  subst h
  refine ⟨fun h => ?_, fun h h1 => ?_, fun h h1 h2 => ?_, fun h h1 h2 => ?_⟩
  · simp at h; simp [h]
  · simp at h; simp [h, h1]
  · simp at h; simp [h, h1]; omega
  · simp at h; simp [h, h1, h2]
theorem alw_is {x : Bool} {k : Int} (hk : k = if x = true then 1 else 0) (n : Int) : alwB k n = (decide (n = 0) || x && decide (0 < n) && decide (n ≤ 15)) := by
  unfold alwB; subst hk
  cases x
  · simp
  · rw [Bool.eq_iff_iff]; simp; omega
theorem alw_is2 {x : Bool} {k : Int} (hk : k = if x = true then 2 else 0) (n : Int) : alwB k n = (decide (n = 0) || x && decide (0 < n) && decide (n ≤ 255)) := by
  unfold alwB; subst hk
  cases x
  · simp
  · rw [Bool.eq_iff_iff]; simp; omega
theorem alw_zero (k : Int) : alwB k 0 = true := by
  unfold alwB; repeat' split
  all_goals simp
theorem insA_is {op : Int} (h : clsI op ≠ 0) (n : Int) : insB op n 0 0 0 = (decide (n = 0) || rA op && decide (0 < n) && decide (n ≤ 15)) := by
  rw [← alw_is (rA_has h) n]; unfold insB; simp [h, alw_zero]
theorem insBs_is {op : Int} (h : clsI op ≠ 0) (n : Int) : insB op 0 n 0 0 = (decide (n = 0) || rB op && decide (0 < n) && decide (n ≤ 15)) := by
  rw [← alw_is (rB_has op) n]; unfold insB; simp [h, alw_zero]
theorem insC_is {op : Int} (h : clsI op ≠ 0) (hn : rN op = false) (n : Int) : insB op 0 0 n 0 = (decide (n = 0) || rC op && decide (0 < n) && decide (n ≤ 15)) := by
  rw [← alw_is (k := hasC op) (by rw [rC_has op, hn]; simp) n]; unfold insB; simp [h, alw_zero]
theorem insC_is' {op : Int} (h : clsI op ≠ 0) (hn : rN op = true) (n : Int) : insB op 0 0 n 0 = (decide (n = 0) || rC op && decide (0 < n) && decide (n ≤ 255)) := by
  rw [← alw_is2 (k := hasC op) (by rw [rC_has op, hn]; simp) n]; unfold insB; simp [h, alw_zero]
end Go.Proofs.YtpkgckjlhjcdmaaDoor
/- Reading a word back; like instructions; the low bits of a distance: contracts and plain facts. -/
namespace Go.Proofs.YtpkgckjlhjcdmaaDoor
open Go.RowKit

theorem i64_and255 (n : Int) : bits .and .i64 n 255 = n % 256 := by
  have q : (BitVec.ofInt 64 255).toNat = 2 ^ 8 - 1 := by decide
  have key : (BitVec.ofInt 64 n &&& BitVec.ofInt 64 255).toNat = (n % ((2 ^ 64 : Nat) : Int)).toNat % 2 ^ 8 := by
    rw [BitVec.toNat_and, BitVec.toNat_ofInt, q, Nat.and_two_pow_sub_one_eq_mod]
  show IntKind.i64.wrap ((BitVec.ofInt 64 n &&& BitVec.ofInt 64 255).toNat : Nat) = n % 256
  rw [key, IntKind.wrap_i64]
  omega

/-- the bytes of a word -/
theorem wrd_parts (op a b c : Int) (h1 : 0 ≤ a ∧ a ≤ 255) (h2 : 0 ≤ b ∧ b ≤ 255) (h3 : 0 ≤ c ∧ c ≤ 255) :
    wrdI op a b c / 16777216 = op ∧ wrdI op a b c / 65536 % 256 = a ∧ wrdI op a b c / 256 % 256 = b ∧ wrdI op a b c % 256 = c := by
  unfold wrdI; omega
theorem wrd_back (x : Int) : wrdI (x / 16777216) (x / 65536 % 256) (x / 256 % 256) (x % 256) = x := by
  unfold wrdI; omega

theorem of_wrd (op a b c j : Int) (w : World) (h : insB op a b c (wantImm op j) = true) :
    Calls Tryd.prog 113 #[.int .u32 (wrdI op a b c), .int .u32 j] w fun e w' => e = .returned (.tuple #[.agg #[.int .i64 op, .int .i64 a, .int .i64 b, .int .i64 c, .int .u32 (wantImm op j)], .bool true]) ∧ Below w.heap.size w w' := by
  obtain ⟨_, h1, h2, h3⟩ := ins_bd h
  have hb := wrd_bd h
  obtain ⟨p0, p1, p2, p3⟩ := wrd_parts op a b c h1 h2 h3
  have k := of_yes (wrdI op a b c) j w (by omega) (by omega) (by rw [p0, p1, p2, p3]; exact h)
  rw [p0, p1, p2, p3] at k
  exact k

theorem of_wrd' {t : Int} (op a b c j : Int) (w : World) (ht : wantImm op j = t) (h : insB op a b c t = true) :
    Calls Tryd.prog 113 #[.int .u32 (wrdI op a b c), .int .u32 j] w fun e w' => e = .returned (.tuple #[.agg #[.int .i64 op, .int .i64 a, .int .i64 b, .int .i64 c, .int .u32 t], .bool true]) ∧ Below w.heap.size w w' := by
  subst ht; exact of_wrd op a b c j w h
theorem cls_lo {op : Int} (h : clsI op ≠ 0) : 1 ≤ clsI op := by
  unfold clsI at h ⊢; repeat' split
  all_goals simp_all
theorem cls_hi (op : Int) : clsI op ≤ 4 := by
  unfold clsI; repeat' split
  all_goals omega
theorem jmp_cls {op : Int} (h : jmpB op = true) : clsI op = 1 := by
  unfold jmpB at h; have h := of_decide_eq_true h
  unfold clsI; rw [if_pos (by omega)]
theorem ins_two {op : Int} (hc : clsI op ≠ 0) (ht : twoB op = true) (j : Int) : insB op 0 0 0 j = true := by
  unfold insB; simp [hc, ht, alw_zero]
theorem ins_one {op : Int} (hc : clsI op ≠ 0) (ht : twoB op = false) (j : Int) : insB op 0 0 0 j = decide (j = 0) := by
  unfold insB; simp [hc, ht, alw_zero]
theorem of_two (op j : Int) (w : World) (hc : (clsI op == 0) = false) (ht : twoB op = true) :
    Calls Tryd.prog 113 #[.int .u32 (wrdI op 0 0 0), .int .u32 j] w fun e w' => e = .returned (.tuple #[.agg #[.int .i64 op, .int .i64 0, .int .i64 0, .int .i64 0, .int .u32 j], .bool true]) ∧ Below w.heap.size w w' := by
  have h := of_wrd op 0 0 0 j w (by rw [wantImm_yes ht]; exact ins_two (by simpa using hc) ht j)
  rw [wantImm_yes ht] at h; exact h
theorem of_one (op j : Int) (w : World) (hc : (clsI op == 0) = false) (ht : twoB op = false) :
    Calls Tryd.prog 113 #[.int .u32 (wrdI op 0 0 0), .int .u32 j] w fun e w' => e = .returned (.tuple #[.agg #[.int .i64 op, .int .i64 0, .int .i64 0, .int .i64 0, .int .u32 0], .bool true]) ∧ Below w.heap.size w w' := by
  have h := of_wrd op 0 0 0 j w (by rw [wantImm_no ht, ins_one (by simpa using hc) ht]; rfl)
  rw [wantImm_no ht] at h; exact h

theorem two_below (op : Int) (w : World) :
    Calls Tryd.prog 126 #[.agg #[], .int .i64 op] w fun e w' => e = .returned (.bool (twoB op)) ∧ Below w.heap.size w w' :=
  (two_any op w).mono fun _ _ ⟨he, hw⟩ => ⟨he, by rw [hw]; exact (Below.refl _ _).alloc (Nat.le_refl _) _⟩

def samI (op a b c i op' a' b' c' i' : Int) : Bool := op == op' && a == a' && b == b' && c == c' && i == i'
theorem sam_ways (op a b c i op' a' b' c' i' : Int) :
    ((op == op') = false ∧ Hid (samI op a b c i op' a' b' c' i' = false)) ∨
    ((op == op') = true ∧ (a == a') = false ∧ Hid (samI op a b c i op' a' b' c' i' = false)) ∨
    ((op == op') = true ∧ (a == a') = true ∧ (b == b') = false ∧ Hid (samI op a b c i op' a' b' c' i' = false)) ∨
    ((op == op') = true ∧ (a == a') = true ∧ (b == b') = true ∧ (c == c') = false ∧ Hid (samI op a b c i op' a' b' c' i' = false)) ∨
    ((op == op') = true ∧ (a == a') = true ∧ (b == b') = true ∧ (c == c') = true ∧ Hid (samI op a b c i op' a' b' c' i' = (i == i'))) := by
  unfold Hid samI
  cases op == op' <;> cases a == a' <;> cases b == b' <;> cases c == c' <;> simp

end Go.Proofs.YtpkgckjlhjcdmaaDoor
