/- Texts: decimal numerals, operands, names: contracts. -/
import Derived.Test.YtkmphiehfacddaaDoorIsa5
import Derived.Test.YtkmphiehfacddaaDoorBase
import Derived.Test.YtkmphiehfacddaaDoorHex
import Derived.Test.YtkmphiehfacddaaDoorShelf
import Derived.Lib.AppendIntMem
import Derived.WalkSmall
import Derived.Deep.Cut
import Derived.Deep.RegionHeld3
namespace Go.Proofs.YtkmphiehfacddaaDoor
open Go.RowKit

def sB (l : List UInt8) : ByteArray := ⟨l.toArray⟩
/-- the names, by the instructions' numbers -/
def nameL (o : Nat) : List UInt8 :=
  match o with
  | 1 => [110, 111, 112] | 2 => [109, 111, 118] | 3 => [97, 100, 100] | 4 => [115, 117, 98] | 5 => [97, 110, 100] | 6 => [111, 114] | 7 => [120, 111, 114] | 8 => [115, 104, 108]
  | 9 => [115, 104, 114] | 10 => [108, 116] | 11 => [101, 113] | 12 => [108, 100] | 13 => [115, 116] | 14 => [108, 105] | 15 => [108, 97] | 16 => [98, 114] | 17 => [98, 114, 122]
  | 18 => [98, 114, 110] | 19 => [106, 109, 112] | 20 => [106, 122] | 21 => [106, 110] | 22 => [99, 97, 108, 108] | 23 => [106, 114] | 24 => [109, 117, 108]
  | 32 => [104, 97, 108, 116] | 33 => [115, 116, 118] | 34 => [114, 116, 105] | 35 => [111, 117, 116] | 36 => [105, 110] | 37 => [98, 119, 114] | 38 => [98, 114, 100] | 39 => [116, 109, 114]
  | 40 => [103, 116, 109] | 41 => [115, 112, 116, 101] | 42 => [115, 121, 110, 99] | 43 => [103, 99, 115] | 44 => [103, 102, 97]
  | 64 => [99, 108, 105] | 65 => [115, 116, 105] | 66 => [103, 115, 116] | 67 => [115, 115, 116] | 96 => [104, 99]
  | _ => []
def nameB (o : Nat) : ByteArray := sB (nameL o)

/-- the listed variables hold what they were laid with -/
structure Vars (w : World) : Prop where
  pow : Lib.TabIs Tryd.prog w "internal/strconv.uint64pow10" .u64 Lib.pow10Tab
  db : w.cell? ⟨3, 15, none⟩ = some (.int .u8 4)
  names : ∀ o, o < 97 → w.cell? ⟨0, o, none⟩ = some (.string (nameB o))
theorem Vars.below {W W' : World} (h : Vars W) (hb : Below W.heap.size W W') : Vars W' where
  pow := by
    have hc := h.pow.cell (g := 1) (by kernel_rfl) 0 (by decide)
    exact var?_below hb (by kernel_rfl) (World.block_lt_of_cell? _ _ hc) h.pow
  db := (hb.cell (World.block_lt_of_cell? _ _ h.db)).trans h.db
  names := fun o ho => (hb.cell (World.block_lt_of_cell? _ _ (h.names o ho))).trans (h.names o ho)

def decB (n : Nat) : ByteArray := sB (Lib.decDigits n)
theorem dec_len {n : Nat} (h : n ≤ 255) : (Lib.decDigits n).length ≤ 3 := by
  by_cases h1 : n < 10
  · rw [Lib.decDigits, dif_pos h1]; simp
  · rw [Lib.decDigits, dif_neg h1]
    by_cases h2 : n / 10 < 10
    · rw [Lib.decDigits, dif_pos h2]; simp
    · rw [Lib.decDigits, dif_neg h2, Lib.decDigits, dif_pos (by omega)]; simp
theorem dec_size {n : Nat} (h : n ≤ 255) : (decB n).size ≤ 3 := by
  have := dec_len h
  simpa [decB, sB, ByteArray.size] using this
theorem name_size (o : Nat) : (nameB o).size ≤ 4 := by
  have : (nameL o).length ≤ 4 := by unfold nameL; split <;> simp
  simpa [nameB, sB, ByteArray.size] using this
theorem hex_len (k : Nat) : ∀ u, u < 16 ^ (k + 1) → (hexL u).length ≤ k + 1 := by
  induction k with
  | zero => intro u h; rw [hex_lo (by simpa using h)]; simp
  | succ k ih =>
    intro u h
    by_cases h1 : u < 16
    · rw [hex_lo h1]; simp
    · rw [hex_hi (by omega)]
      have := ih (u / 16) ((Nat.div_lt_iff_lt_mul (by decide)).2 (by rw [← Nat.pow_succ]; exact h))
      simp; omega
def hexB (u : Nat) : ByteArray := sB (hexL u)
theorem hexB_size {u : Nat} (h : u < 4294967296) : (hexB u).size ≤ 8 := by
  have := hex_len 7 u (by simpa using h)
  simpa [hexB, sB, ByteArray.size] using this

theorem itoa_any (n : Nat) (h : n ≤ 255) (w : World) (hv : Vars w) :
    Calls Tryd.prog 30 #[.int .i64 n] w fun e w' => e = .returned (.string (decB n)) ∧ Below w.heap.size w w' := by
  refine (Tryd.strconv_Itoa n (by omega) (by omega) w hv.pow).mono ?_
  rintro e w' ⟨rfl, k, os, rfl⟩
  refine ⟨?_, Lib.below_grow _ _ (Nat.le_refl _) _ _⟩
  rw [Lib.itoa_nonneg]; rfl

/-- an operand as it is written -/
def ktB (k : Int) (n : Nat) : ByteArray := if k = 1 then sB [32, 114] ++ decB n else if k = 2 then sB [32] ++ decB n else sB []
theorem kt_1 (n : Nat) : ktB 1 n = sB [32, 114] ++ decB n := rfl
theorem kt_2 (n : Nat) : ktB 2 n = sB [32] ++ decB n := rfl
theorem kt_0 {k : Int} (n : Nat) (h : k ≠ 1) (h' : k ≠ 2) : ktB k n = sB [] := by unfold ktB; rw [if_neg h, if_neg h']
theorem kt_size (k : Int) {n : Nat} (h : n ≤ 255) : (ktB k n).size ≤ 5 := by
  have := dec_size h
  unfold ktB
  split
  · rw [ByteArray.size_append, show (sB [32, 114]).size = 2 from rfl]; omega
  · split
    · rw [ByteArray.size_append, show (sB [32]).size = 1 from rfl]; omega
    · exact (show (0 : Nat) ≤ 5 by decide)
theorem ret_s {a b : ByteArray} (h : a = b) : Ending.returned (.string a) = .returned (.string b) := by rw [h]

set_option maxHeartbeats 400000 in
theorem ktext_any (k : Int) (n : Nat) (h : n ≤ 255) (w : World) (hv : Vars w) :
    Calls Tryd.prog 27 #[.int .i64 k, .int .i64 n] w fun e w' => e = .returned (.string (ktB k n)) ∧ Below w.heap.size w w' := by
  have hd := dec_size h
  by_cases h1 : k = 1
  · subst h1
    have H := hid (kt_1 n)
    go_enter Tryd.func27, Tryd.ntmps27
    go_wp2_with (go_at_call 30; refine (itoa_any n h _ hv).mono ?_; rintro e w' ⟨rfl, hb⟩)
    go_ret
    exact ⟨ret_s H.out.symm, hb⟩
  · by_cases h2 : k = 2
    · subst h2
      have H := hid (kt_2 n)
      clear h1
      go_enter Tryd.func27, Tryd.ntmps27
      go_wp2_with (go_at_call 30; refine (itoa_any n h _ hv).mono ?_; rintro e w' ⟨rfl, hb⟩)
      go_ret
      exact ⟨ret_s H.out.symm, hb⟩
    · have H := hid (kt_0 n h1 h2)
      have q1 : (k == 1) = false := by simpa using h1
      have q2 : (k == 2) = false := by simpa using h2
      clear h1 h2
      go_enter Tryd.func27, Tryd.ntmps27
      go_wp2
      go_ret
      exact ⟨ret_s H.out.symm, Below.refl _ _⟩
theorem fuint_any (u : Nat) (hu : u < 4294967296) (w : World) (hv : Vars w) :
    Calls Tryd.prog 28 #[.int .u64 u, .int .i64 16] w fun e w' => e = .returned (.string (hexB u)) ∧ Below w.heap.size w w' :=
  fuint_16 u hu w hv.db
end Go.Proofs.YtkmphiehfacddaaDoor
