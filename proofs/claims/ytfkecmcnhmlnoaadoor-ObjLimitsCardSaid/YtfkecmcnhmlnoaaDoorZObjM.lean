/- The limits of objects as plain data: so many words, symbols; a name so long. A number's text: contract. -/
import Derived.Test.YtfkecmcnhmlnoaaDoorZGObjA
import Derived.Test.YtfkecmcnhmlnoaaDoorZObjR
import Derived.Test.YtfkecmcnhmlnoaaDoorZShelf
import Derived.Lib.ItoaMem
import Derived.Lib.AppendIntMem
namespace Go.Proofs.YtfkecmcnhmlnoaaDoor
open Go.RowKit
/-- decimal digits of a number below a thousand -/
def dig3 (i : Nat) : List UInt8 :=
  if i < 10 then [UInt8.ofNat (48 + i)] else if i < 100 then [UInt8.ofNat (48 + i / 10), UInt8.ofNat (48 + i % 10)]
  else [UInt8.ofNat (48 + i / 100), UInt8.ofNat (48 + i / 10 % 10), UInt8.ofNat (48 + i % 10)]
theorem dec_dig3 {i : Nat} (h : i < 1000) : Lib.decDigits i = dig3 i := by
  unfold dig3
  by_cases h1 : i < 10
  · rw [Lib.decDigits, dif_pos h1, if_pos h1]
  · rw [if_neg h1, Lib.decDigits, dif_neg h1]
    by_cases h2 : i < 100
    · rw [if_pos h2, Lib.decDigits, dif_pos (show i / 10 < 10 by omega)]; rfl
    · rw [if_neg h2, Lib.decDigits, dif_neg (show ¬ i / 10 < 10 by omega), Lib.decDigits, dif_pos (show i / 10 / 10 < 10 by omega), Nat.div_div_eq_div_mul]; rfl
/-- the symbol's name: s, and its number -/
def nmB (i : Nat) : ByteArray := ⟨(115 :: dig3 i).toArray⟩
def nmV (b : ByteArray) : Nat := (b.data.toList.drop 1).foldl (fun a d => a * 10 + (d.toNat - 48)) 0
theorem nmV_nmB {i : Nat} (h : i < 300) : nmV (nmB i) = i := by
  have key : ((List.range 300).all fun i => decide (nmV (nmB i) = i)) = true := by decide +kernel
  exact of_decide_eq_true (List.all_eq_true.1 key i (List.mem_range.2 h))
theorem nmB_size (i : Nat) : 2 ≤ (nmB i).size ∧ (nmB i).size ≤ 4 := by
  have : (nmB i).size = (dig3 i).length + 1 := by simp [nmB, ByteArray.size]
  rw [this]
  unfold dig3
  split
  · simp
  · split <;> simp
def lsy (i : Nat) : Sy := ⟨nmB i, 1, 0, false⟩
def syL (n : Nat) : List Sy := (List.range n).map lsy
theorem syL_length (n : Nat) : (syL n).length = n := by simp [syL]
theorem syL_succ (n : Nat) : syL (n + 1) = syL n ++ [lsy n] := by simp [syL, List.range_succ]
/-- so many words -/
def lmtD (n : Nat) : PO := ⟨List.replicate n 0, [], [], [], [], []⟩
/-- so many symbols -/
def lmtS (n : Nat) : PO := ⟨[], [], [], [], [], syL n⟩
def xB (n : Nat) : ByteArray := ⟨Array.replicate n 120⟩
theorem xB_succ (n : Nat) : xB n ++ ⟨#[120]⟩ = xB (n + 1) := by
  apply ByteArray.ext
  simp [xB, Array.replicate_succ]
/-- a name so long -/
def lmtN (n : Nat) : PO := ⟨[], [], [], [], [], [⟨⟨#[97]⟩, 1, 0, false⟩, ⟨xB n, 3, 0, true⟩]⟩
theorem lmtD_fit (n : Nat) (hn : n ≤ 3000) : OFit (lmtD n) := ⟨fun x hx => (by obtain rfl := List.eq_of_mem_replicate hx; omega), fun x hx => (by cases hx), fun x hx => (by cases hx), by simp [lmtD, maxLen]; omega⟩
theorem lmtS_fit (n : Nat) (hn : n ≤ 3000) : OFit (lmtS n) := ⟨fun x hx => (by cases hx), fun x hx => (by cases hx), fun x hx => (by cases hx), by simp [lmtS, maxLen, syL_length]; omega⟩
theorem lmtN_fit (n : Nat) : OFit (lmtN n) := ⟨fun x hx => (by cases hx), fun x hx => (by cases hx), fun x hx => (by cases hx), by simp [lmtN, maxLen]⟩
theorem lmtD_valid (n : Nat) : validP (lmtD n) = if n ≤ 2048 then none else some (3, none) := by
  by_cases h : n ≤ 2048
  · rw [if_pos h]
    refine valid_none ⟨?_, rfl, fun k hk => ?_, fun k hk => ?_, fun k hk => ?_, fun k hk => ?_, fun k hk => ?_⟩
    · simp [manyB, lmtD]; omega
    all_goals simp [lmtD] at hk
  · rw [if_neg h, validP, if_pos (by simp [manyB, lmtD]; omega)]
theorem lmtS_valid (n : Nat) (hn : n ≤ 290) : validP (lmtS n) = if n ≤ 256 then none else some (3, none) := by
  by_cases h : n ≤ 256
  · rw [if_pos h]
    refine valid_none ⟨?_, rfl, fun k hk => ?_, fun k hk => ?_, fun k hk => ?_, fun k hk => ?_, fun k hk => ?_⟩
    · simp [manyB, lmtS, syL_length]; omega
    · simp [lmtS] at hk
    · have hk : k < n := by simpa [lmtS, syL_length] using hk
      have hs : symN (lmtS n) k = lsy k := by simp [symN, lmtS, syL, List.getD_eq_getElem?_getD, hk]
      unfold symF
      rw [hs]
      have h1 := nmB_size k
      rw [if_neg (by simp only [lsy]; omega)]
      have ht : twiceB (lmtS n) k = false := by
        unfold twiceB
        rw [hs, List.any_eq_false]
        intro s hs2 he
        have hmem : s ∈ (syL n).take k := hs2
        obtain ⟨j, hj, rfl⟩ := List.getElem_of_mem hmem
        have hj2 : j < k := by simp [syL_length] at hj; omega
        have hg : ((syL n).take k)[j] = lsy j := by simp [syL]
        rw [hg] at he
        have he := congrArg nmV (of_decide_eq_true he)
        simp only [lsy] at he
        rw [nmV_nmB (by omega), nmV_nmB (by omega)] at he
        omega
      rw [if_neg (by rw [ht]; simp), if_pos (by simp [standsB, lsy])]
    all_goals simp [lmtS] at hk
  · rw [if_neg h, validP, if_pos (by simp [manyB, lmtS, syL_length]; omega)]
theorem lmtN_valid (n : Nat) (h0 : 30 ≤ n) (h1 : n ≤ 34) : validP (lmtN n) = if n ≤ 32 then none else some (2, some 1) := by
  have h : n = 30 ∨ n = 31 ∨ n = 32 ∨ n = 33 ∨ n = 34 := by omega
  rcases h with rfl | rfl | rfl | rfl | rfl <;> decide +kernel
theorem nm_eq (k : Nat) : (⟨#[115]⟩ : ByteArray) ++ ⟨(dig3 k).toArray⟩ = nmB k := by
  apply ByteArray.ext
  simp [nmB]
theorem dig3_size (k : Nat) : (⟨(dig3 k).toArray⟩ : ByteArray).size ≤ 3 := by
  have h := nmB_size k
  have : (nmB k).size = (dig3 k).length + 1 := by simp [nmB, ByteArray.size]
  have e : (⟨(dig3 k).toArray⟩ : ByteArray).size = (dig3 k).length := by simp [ByteArray.size]
  omega
theorem text_any (n : Nat) (h : n < 1000) (w : World) (htab : Lib.TabIs Tryd.prog w "internal/strconv.uint64pow10" .u64 Lib.pow10Tab) :
    Calls Tryd.prog 10 #[.int .i64 n] w fun e w' => e = .returned (.string ⟨(dig3 n).toArray⟩) ∧ w.grownBy w' none := by
  have Hc := hid ((Tryd.strconv_Itoa n (by omega) (by omega) w htab).mono (R' := fun e w' => e = .returned (.string ⟨(dig3 n).toArray⟩) ∧ w.grownBy w' none) (by
    rintro e w' ⟨rfl, k, os, rfl⟩
    rw [Lib.itoa_nonneg, dec_dig3 h]
    exact ⟨rfl, below_is_grown (Lib.below_grow _ _ (Nat.le_refl _) _ _)⟩))
  go_enter Tryd.func10, Tryd.ntmps10
  go_wp2_with fail
  refine (Hc.out).mono ?_
  rintro e w' ⟨rfl, hg⟩
  have Hg := hid hg
  clear hg
  go_wp2
  go_ret
  exact ⟨rfl, Hg.out⟩
end Go.Proofs.YtfkecmcnhmlnoaaDoor
