/- strconv.FormatUint at base 16, of a number below 2^32: a contract. -/
import Derived.Test.YtkmphiehfacddaaDoorRows
import Derived.WalkKit
import Derived.WalkSpells
import Derived.WalkLawsBesides
import Derived.Handy
import Derived.Deep.Cut
import Derived.Lib.ItoaMem
import Derived.Test.YtkmphiehfacddaaDoorBase
namespace Go.Proofs.YtkmphiehfacddaaDoor
open Go.RowKit
/-- the letters -/
def digs : ByteArray := ⟨#[48, 49, 50, 51, 52, 53, 54, 55, 56, 57, 97, 98, 99, 100, 101, 102, 103, 104, 105, 106, 107, 108, 109, 110, 111, 112, 113, 114, 115, 116, 117, 118, 119, 120, 121, 122]⟩
/-- a hexadecimal digit's letter -/
def hx (d : Nat) : UInt8 := digs.data.getD d 0
theorem get_hx (n : Nat) (h : n < digs.size) : (digs[n]'h).toNat = (hx n).toNat := by
  unfold hx
  have h' : n < digs.data.size := h
  rw [Array.getD_eq_getD_getElem?, Array.getElem?_eq_getElem h']
  rfl
theorem u64_and15 (x : Int) (h : 0 ≤ x) (h' : x < 18446744073709551616) : bits BinOp.and IntKind.u64 x 15 = x % 16 := by
  obtain ⟨n, rfl⟩ := Int.eq_ofNat_of_zero_le h
  rw [show (15 : Int) = ((15 : Nat) : Int) from rfl, u64_and_nat n 15 (by omega) (by decide), nat_mask4]
  omega
/-- the letters of a number below 2^32, as they are written -/
def hexL (u : Nat) : List UInt8 :=
  if u < 16 then [hx u] else hexL (u / 16) ++ [hx (u % 16)]
termination_by u
theorem hex_lo {u : Nat} (h : u < 16) : hexL u = [hx u] := by rw [hexL, if_pos h]
theorem hex_hi {u : Nat} (h : 16 ≤ u) : hexL u = hexL (u / 16) ++ [hx (u % 16)] := by rw [hexL, if_neg (by omega)]

theorem ret_str {l l' : List UInt8} (h : l = l') : Ending.returned (.tuple #[.slice none 0 0, .string ⟨l'.toArray⟩]) = .returned (.tuple #[.slice none 0 0, .string ⟨l.toArray⟩]) := by rw [h]

theorem conv_at (w : World) (B o k cap : Nat) (l : List UInt8) (hl : l.length = k) (hc : ∀ j (hj : j < l.length), w.cell? ⟨B, o + j, none⟩ = some (.int .u8 (l[j].toNat : Int))) :
    (convert 61 9 (.slice (some ⟨B, o, none⟩) k cap)).run Tryd.prog w = .ok (.string ⟨l.toArray⟩) w := by
  subst hl
  exact run_convert_bytes_back w 61 9 5 ⟨B, o, none⟩ cap l Tryd.underlying61 Tryd.underlying5 Tryd.underlying9 (fun j hj => by rw [Lib.add_plain]; exact hc j hj)

set_option maxHeartbeats 400000 in
theorem pow2_16 (w : World) : Calls Tryd.prog 44 #[.int .i64 16] w fun e w' => e = .returned (.bool true) ∧ w = w' := by
  have h : bits BinOp.and IntKind.i64 16 15 = 0 := by decide
  go_enter Tryd.func44, Tryd.ntmps44
  go_wp2
  go_ret
  exact ⟨rfl, rfl⟩

set_option maxHeartbeats 400000 in
theorem tz_16 (w : World) (hc : w.cell? ⟨3, 15, none⟩ = some (.int .u8 4)) :
    Calls Tryd.prog 45 #[.int .u64 16] w fun e w' => e = .returned (.int .i64 4) ∧ w = w' := by
  have h : bits BinOp.and IntKind.u64 16 (IntKind.u64.wrap (-16)) = 16 := by decide
  go_enter Tryd.func45, Tryd.ntmps45
  go_wp2
  go_ret
  exact ⟨rfl, rfl⟩

/-- 65 zeros -/
def z65 : Array Value := Array.replicate 65 (.int .u8 0)
theorem z65_at (j : Nat) (h : j < 65) : z65[j]? = some (.int .u8 0) := by
  unfold z65; simp [Array.getElem?_replicate, h]
theorem zero65 (w : World) : (zeroValue 67).run Tryd.prog w = .ok (.agg z65) w := by kernel_rfl

/-- the buffer: block B holds 65 bytes; from n on they are l; below B nothing has turned -/
structure Buf (w : World) (B : Nat) (wr : World) (n : Nat) (l : List UInt8) : Prop where
  all : ∀ j, j < 65 → ∃ v, wr.cell? ⟨B, j, none⟩ = some (.int .u8 v)
  free : ∀ j, wr.frozen? ⟨B, j, none⟩ = false
  row : ∀ j (hj : j < l.length), wr.cell? ⟨B, n + j, none⟩ = some (.int .u8 (l[j].toNat : Int))
  below : Below B w wr
theorem Buf.made (w : World) (n : Nat) : Buf w w.heap.size (w.alloc (.cells z65 67)) n [] where
  all := fun j h => ⟨0, by rw [World.cell?_alloc_new]; exact z65_at j h⟩
  free := fun j => by simp
  row := fun j hj => absurd hj (by simp)
  below := (Below.refl _ _).alloc (Nat.le_refl _) _
theorem Buf.put {w : World} {B : Nat} {wr : World} {n : Nat} {l : List UInt8} (h : Buf w B wr (n + 1) l) (hn : n < 65) (c : UInt8) :
    Buf w B (wr.setCell ⟨B, n, none⟩ (.int .u8 (c.toNat : Int))) n (c :: l) where
  all := fun j hj => by
    by_cases e : j = n
    · subst e
      obtain ⟨v, hv⟩ := h.all j hj
      exact ⟨_, World.cell?_setCell_same _ _ _ hv⟩
    · obtain ⟨v, hv⟩ := h.all j hj
      exact ⟨v, by rw [World.cell?_setCell_other _ _ _ _ (by simp [e])]; exact hv⟩
  free := fun j => by rw [World.frozen?_setCell]; exact h.free j
  row := fun j hj => by
    cases j with
    | zero =>
      obtain ⟨v, hv⟩ := h.all n hn
      exact World.cell?_setCell_same _ _ _ hv
    | succ i =>
      rw [World.cell?_setCell_other _ _ _ _ (by simp), show n + (i + 1) = n + 1 + i by omega]
      exact h.row i (by simpa using hj)
  below := h.below.setCell (Nat.le_refl _) _

theorem pow_step {x m : Nat} (hm : m ≤ 7) (hx : x < 16 ^ (8 - m)) (h : 16 ≤ x) : m + 1 ≤ 7 ∧ x / 16 < 16 ^ (8 - (m + 1)) := by
  have e : 8 - m = (7 - m) + 1 := by omega
  rw [e, Nat.pow_succ] at hx
  have h7 : m ≠ 7 := by
    intro q; subst q; simp at hx; omega
  refine ⟨by omega, ?_⟩
  rw [show 8 - (m + 1) = 7 - m by omega]
  exact (Nat.div_lt_iff_lt_mul (by decide)).2 hx

structure n_rel (u B : Nat) (w : World) (x n : Nat) (l : List UInt8) (wr : World) : Prop where
  sum : n + l.length = 65
  len : l.length ≤ 7
  pow : x < 16 ^ (8 - l.length)
  hex : hexL u = hexL x ++ l
  buf : Buf w B wr n l

set_option maxHeartbeats 2000000 in
theorem fbits_16 (u : Nat) (hu : u < 4294967296) (w : World) (hc : w.cell? ⟨3, 15, none⟩ = some (.int .u8 4)) :
    Calls Tryd.prog 39 #[.slice none 0 0, .int .u64 u, .int .i64 16, .bool false, .bool false] w fun e w' => e = .returned (.tuple #[.slice none 0 0, .string ⟨(hexL u).toArray⟩]) ∧ Below w.heap.size w w' := by
  have hz := zero65
  go_enter Tryd.func39, Tryd.ntmps39
  go_upto_region 4 with (fail)
  obtain ⟨w1, hw1⟩ : ∃ w1, w1 = w.alloc (.cells z65 67) := ⟨_, rfl⟩
  have HB : Buf w w.heap.size w1 65 [] := by rw [hw1]; exact Buf.made w 65
  rw [← hw1]
  have hc1 : w1.cell? ⟨3, 15, none⟩ = some (.int .u8 4) := (HB.below.cell (World.block_lt_of_cell? _ _ hc)).trans hc
  clear hw1 hz
  go_wp2_with (first | (go_at_call 44; refine (pow2_16 _).mono ?_; rintro e w' ⟨rfl, rfl⟩) | (go_at_call 45; refine (tz_16 _ hc1).mono ?_; rintro e w' ⟨rfl, rfl⟩))
  clear hc1
  go_loopw [1, 13] (fun q i wr => ∃ (x n : Nat) (l : List UInt8), q = .int .u64 x ∧ i = .int .i64 n ∧ n + l.length = 65 ∧ l.length ≤ 7 ∧ x < 16 ^ (8 - l.length) ∧ hexL u = hexL x ++ l ∧ Buf w w.heap.size wr n l) (fun q _ _ => (intOf q).toNat)
  case atStart => exact ⟨u, 65, [], rfl, rfl, rfl, by simp, by simpa using hu, by simp, HB⟩
  case round =>
    obtain ⟨x, n, l, rfl, rfl, hn, hm, hxp, hxl, HR⟩ := hrel
    have hx36 : x < 4294967296 := Nat.lt_of_lt_of_le hxp (Nat.le_trans (Nat.pow_le_pow_right (by decide) (show 8 - l.length ≤ 8 by omega)) (by decide))
    obtain ⟨m, rfl⟩ : ∃ m, n = m + 1 := ⟨n - 1, by omega⟩
    obtain ⟨v, hv⟩ := HR.all m (by omega)
    have hf := HR.free m
    have ei : ((m + 1 : Nat) : Int) - 1 = (m : Int) := by omega
    have hm65 : m < 65 := by omega
    have G := get_hx
    unfold digs at G
    by_cases h16 : 16 ≤ x
    · have e0 := u64_and15 (x : Int) (by omega) (by omega)
      have hst := pow_step hm hxp h16
      have hrel' : n_rel u w.heap.size w (x / 16) m (hx (x % 16) :: l) (wr.setCell ⟨w.heap.size, m, none⟩ (.int .u8 ((hx (x % 16)).toNat : Int))) :=
        ⟨by simp; omega, by simpa using hst.1, by simpa using hst.2, by rw [hxl, hex_hi h16, List.append_assoc]; rfl, HR.put hm65 _⟩
      have HL := hid hrel'
      clear hrel' hst hxl hm hxp HR
      go_wp2
      go_roundw
      case rel =>
        have R := HL.out
        exact ⟨x / 16, m, hx (x % 16) :: l, by go_num, rfl, R.sum, R.len, R.pow, R.hex, R.buf⟩
      case measure => simp [intOf]; omega
    · have hlt : x < 16 := by omega
      have HL := hid hxl
      have HN := hid hn
      rw [hex_lo hlt] at HL
      have HR' := HR.put hm65 (hx x)
      clear hm hxp hxl hn HR
      go_wp2
      have hal : Tryd.prog.arrayLen 67 = 65 := by simp [Program.arrayLen, Tryd.underlying67]
      have hsl : ∀ W, (Instr.sliceAt 67 (.pointer (some ⟨w.heap.size, 0, none⟩)) (some (.int .i64 (m : Int))) none none).run Tryd.prog W = .ok (.slice (some ⟨w.heap.size, m, none⟩) (65 - m) (65 - m)) W := fun W => by
        rw [run_sliceAt_array_l W 67 ⟨w.heap.size, 0, none⟩ (by simp [Program.arrayLen, Program.elem, Tryd.underlying67]) .i64 (m : Int) (by omega) (by rw [hal]; omega), hal]
        go_simp
        try omega
      rw [hsl]
      clear hsl hal
      go_wp2
      rw [conv_at _ _ _ (65 - m) _ (hx x :: l) (by have := HN.out; simp; omega) HR'.row]
      go_wp2
      go_ret2
      exact ⟨ret_str HL.out, HR'.below⟩

set_option maxHeartbeats 400000 in
theorem fuint_16 (u : Nat) (hu : u < 4294967296) (w : World) (hc : w.cell? ⟨3, 15, none⟩ = some (.int .u8 4)) :
    Calls Tryd.prog 28 #[.int .u64 u, .int .i64 16] w fun e w' => e = .returned (.string ⟨(hexL u).toArray⟩) ∧ Below w.heap.size w w' := by
  go_enter Tryd.func28, Tryd.ntmps28
  go_wp2_with (first | (go_at_call 39; refine (fbits_16 u hu _ ?_).mono ?_; assumption; rintro e w' ⟨rfl, hb⟩) | go_in)
  go_ret
  exact ⟨rfl, hb⟩
end Go.Proofs.YtkmphiehfacddaaDoor
