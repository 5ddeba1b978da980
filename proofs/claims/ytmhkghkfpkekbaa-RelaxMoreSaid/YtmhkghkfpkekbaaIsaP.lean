/- Plain facts on instructions: classes, second words, jumps, operands, words; no program is named here. -/
namespace Go.Proofs.Ytmhkghkfpkekbaa

def clsI (op : Int) : Int :=
  if 1 ≤ op ∧ op ≤ 24 then 1 else if 32 ≤ op ∧ op ≤ 44 then 2 else if 64 ≤ op ∧ op ≤ 67 then 3 else if op = 96 then 4 else 0
def twoB (op : Int) : Bool := decide (op = 14 ∨ op = 15 ∨ op = 19 ∨ op = 20 ∨ op = 21 ∨ op = 22 ∨ op = 96)
def jmpB (op : Int) : Bool := decide (op = 16 ∨ op = 17 ∨ op = 18 ∨ op = 19 ∨ op = 20 ∨ op = 21 ∨ op = 22 ∨ op = 23)
/-- the kind of C where an instruction has one -/
def thirdI (op : Int) : Int := if 16 ≤ op ∧ op ≤ 23 ∨ op = 12 ∨ op = 13 then 2 else 1
/-- kinds of A, B, C: 0 none, 1 a register, 2 a number -/
def hasA (op : Int) : Int :=
  if op = 14 ∨ op = 15 ∨ op = 20 ∨ op = 21 ∨ op = 23 ∨ op = 32 ∨ op = 33 ∨ op = 35 ∨ op = 36 ∨ op = 39 ∨ op = 40 ∨ op = 43 ∨ op = 44 ∨ op = 66 ∨ op = 67 ∨ op = 2 ∨ op = 37 ∨ op = 38 ∨ op = 41 ∨ (3 ≤ op ∧ op ≤ 13) ∨ op = 24 ∨ op = 17 ∨ op = 18 then 1 else 0
def hasB (op : Int) : Int := if op = 2 ∨ op = 37 ∨ op = 38 ∨ op = 41 ∨ (3 ≤ op ∧ op ≤ 13) ∨ op = 24 then 1 else 0
def hasC (op : Int) : Int := if op = 12 ∨ op = 13 ∨ op = 16 ∨ op = 17 ∨ op = 18 then 2 else if (3 ≤ op ∧ op ≤ 11) ∨ op = 24 then 1 else 0
def alwB (k n : Int) : Bool := if k = 1 then decide (0 ≤ n ∧ n < 16) else if k = 2 then decide (0 ≤ n ∧ n ≤ 255) else decide (n = 0)
/-- an instruction that may be -/
def insB (op a b c imm : Int) : Bool := decide (clsI op ≠ 0) && alwB (hasA op) a && alwB (hasB op) b && alwB (hasC op) c && (decide (imm = 0) || twoB op)
def wrdI (op a b c : Int) : Int := op * 16777216 + a * 65536 + b * 256 + c

theorem alw_bd {k n : Int} (h : alwB k n = true) : 0 ≤ n ∧ n ≤ 255 := by
  unfold alwB at h
  split at h
  · have := of_decide_eq_true h; omega
  · split at h
    · exact of_decide_eq_true h
    · have := of_decide_eq_true h; omega
theorem cls_bd {op : Int} (h : clsI op ≠ 0) : 1 ≤ op ∧ op ≤ 96 := by
  unfold clsI at h
  split at h
  · omega
  · split at h
    · omega
    · split at h
      · omega
      · split at h <;> omega
theorem ins_parts {op a b c imm : Int} (h : insB op a b c imm = true) :
    clsI op ≠ 0 ∧ alwB (hasA op) a = true ∧ alwB (hasB op) b = true ∧ alwB (hasC op) c = true ∧ (imm = 0 ∨ twoB op = true) := by
  unfold insB at h
  simp only [Bool.and_eq_true, Bool.or_eq_true, decide_eq_true_eq] at h
  exact ⟨h.1.1.1.1, h.1.1.1.2, h.1.1.2, h.1.2, h.2⟩
theorem ins_bd {op a b c imm : Int} (h : insB op a b c imm = true) :
    (1 ≤ op ∧ op ≤ 96) ∧ (0 ≤ a ∧ a ≤ 255) ∧ (0 ≤ b ∧ b ≤ 255) ∧ (0 ≤ c ∧ c ≤ 255) := by
  obtain ⟨h1, h2, h3, h4, _⟩ := ins_parts h
  exact ⟨cls_bd h1, alw_bd h2, alw_bd h3, alw_bd h4⟩
theorem wrd_bd {op a b c imm : Int} (h : insB op a b c imm = true) : 16777216 ≤ wrdI op a b c ∧ wrdI op a b c < 1627389952 := by
  obtain ⟨h1, h2, h3, h4⟩ := ins_bd h
  unfold wrdI; omega
end Go.Proofs.Ytmhkghkfpkekbaa
