/- strconv.FormatUint at base 16, of a number below 2^32: a contract. -/
import Derived.Test.YtgahbpfmiibpeaaGreatDoorRows
import Derived.WalkKit
import Derived.WalkSpells
import Derived.WalkLawsBesides
import Derived.Handy
import Derived.Deep.Cut
import Derived.Lib.ItoaMem
import Derived.Test.YtgahbpfmiibpeaaGreatDoorZGMem
import Derived.Test.YtgahbpfmiibpeaaGreatDoorZGIsa
import Derived.Test.YtgahbpfmiibpeaaGreatDoorZShelf
import Derived.Lib.AppendIntMem
import Derived.WalkSmall
import Derived.Deep.RegionHeld3
namespace Go.Proofs.YtgahbpfmiibpeaaGreatDoor
open Go.RowKit
/-- the letters -/
def digs : ByteArray := ⟨#[48, 49, 50, 51, 52, 53, 54, 55, 56, 57, 97, 98, 99, 100, 101, 102, 103, 104, 105, 106, 107, 108, 109, 110, 111, 112, 113, 114, 115, 116, 117, 118, 119, 120, 121, 122]⟩
/-- a hexadecimal digit's letter -/
def hx (d : Nat) : UInt8 := digs.data.getD d 0
theorem get_hx (n : Nat) (h : n < digs.size) : (digs[n]'h).toNat = (hx n).toNat := by
  unfold hx
  have h' : n < digs.data.size := h
  rw [Array.getD_eq_getD_getElem?, Array.getElem?_eq_getElem h']
  rfl
theorem u64_and15 (x : Int) (h : 0 ≤ x) (h' : x < 18446744073709551616) : bits BinOp.and IntKind.u64 x 15 = x % 16 := by
  obtain ⟨n, rfl⟩ := Int.eq_ofNat_of_zero_le h
  rw [show (15 : Int) = ((15 : Nat) : Int) from rfl, u64_and_nat n 15 (by omega) (by decide), nat_mask4]
  omega
/-- the letters of a number below 2^32, as they are written -/
def hexL (u : Nat) : List UInt8 :=
  if u < 16 then [hx u] else hexL (u / 16) ++ [hx (u % 16)]
termination_by u
theorem hex_lo {u : Nat} (h : u < 16) : hexL u = [hx u] := by rw [hexL, if_pos h]
theorem hex_hi {u : Nat} (h : 16 ≤ u) : hexL u = hexL (u / 16) ++ [hx (u % 16)] := by rw [hexL, if_neg (by omega)]

theorem ret_str {l l' : List UInt8} (h : l = l') : Ending.returned (.tuple #[.slice none 0 0, .string ⟨l'.toArray⟩]) = .returned (.tuple #[.slice none 0 0, .string ⟨l.toArray⟩]) := by rw [h]

theorem conv_at (w : World) (B o k cap : Nat) (l : List UInt8) (hl : l.length = k) (hc : ∀ j (hj : j < l.length), w.cell? ⟨B, o + j, none⟩ = some (.int .u8 (l[j].toNat : Int))) :
    (convert 23 9 (.slice (some ⟨B, o, none⟩) k cap)).run Tryz.prog w = .ok (.string ⟨l.toArray⟩) w := by
  subst hl
  exact run_convert_bytes_back w 23 9 5 ⟨B, o, none⟩ cap l Tryz.underlying23 Tryz.underlying5 Tryz.underlying9 (fun j hj => by rw [Lib.add_plain]; exact hc j hj)

set_option maxRecDepth 100000 in
set_option maxHeartbeats 400000 in
theorem pow2_16 (w : World) : Calls Tryz.prog 143 #[.int .i64 16] w fun e w' => e = .returned (.bool true) ∧ w = w' := by
  have h : bits BinOp.and IntKind.i64 16 15 = 0 := by decide
  go_enter Tryz.func143, Tryz.ntmps143
  go_wp2
  go_ret
  exact ⟨rfl, rfl⟩

set_option maxRecDepth 100000 in
set_option maxHeartbeats 400000 in
theorem tz_16 (w : World) (hc : w.cell? ⟨19, 15, none⟩ = some (.int .u8 4)) :
    Calls Tryz.prog 144 #[.int .u64 16] w fun e w' => e = .returned (.int .i64 4) ∧ w = w' := by
  have h : bits BinOp.and IntKind.u64 16 (IntKind.u64.wrap (-16)) = 16 := by decide
  go_enter Tryz.func144, Tryz.ntmps144
  go_wp2
  go_ret
  exact ⟨rfl, rfl⟩

/-- 65 zeros -/
def z65 : Array Value := Array.replicate 65 (.int .u8 0)
theorem z65_at (j : Nat) (h : j < 65) : z65[j]? = some (.int .u8 0) := by
  unfold z65; simp [h]
theorem zero65 (w : World) : (zeroValue 211).run Tryz.prog w = .ok (.agg z65) w := by kernel_rfl

/-- the buffer: block B holds 65 bytes; from n on they are l; below B nothing has turned -/
structure Buf (w : World) (B : Nat) (wr : World) (n : Nat) (l : List UInt8) : Prop where
  all : ∀ j, j < 65 → ∃ v, wr.cell? ⟨B, j, none⟩ = some (.int .u8 v)
  free : ∀ j, wr.frozen? ⟨B, j, none⟩ = false
  row : ∀ j (hj : j < l.length), wr.cell? ⟨B, n + j, none⟩ = some (.int .u8 (l[j].toNat : Int))
  below : Below B w wr
theorem Buf.made (w : World) (n : Nat) : Buf w w.heap.size (w.alloc (.cells z65 211)) n [] where
  all := fun j h => ⟨0, by rw [World.cell?_alloc_new]; exact z65_at j h⟩
  free := fun j => by simp
  row := fun j hj => absurd hj (by simp)
  below := (Below.refl _ _).alloc (Nat.le_refl _) _
theorem Buf.put {w : World} {B : Nat} {wr : World} {n : Nat} {l : List UInt8} (h : Buf w B wr (n + 1) l) (hn : n < 65) (c : UInt8) :
    Buf w B (wr.setCell ⟨B, n, none⟩ (.int .u8 (c.toNat : Int))) n (c :: l) where
  all := fun j hj => by
    by_cases e : j = n
    · subst e
      obtain ⟨v, hv⟩ := h.all j hj
      exact ⟨_, World.cell?_setCell_same _ _ _ hv⟩
    · obtain ⟨v, hv⟩ := h.all j hj
      exact ⟨v, by rw [World.cell?_setCell_other _ _ _ _ (by simp)]; exact hv⟩
  free := fun j => by rw [World.frozen?_setCell]; exact h.free j
  row := fun j hj => by
    cases j with
    | zero =>
      obtain ⟨v, hv⟩ := h.all n hn
      exact World.cell?_setCell_same _ _ _ hv
    | succ i =>
      rw [World.cell?_setCell_other _ _ _ _ (by simp), show n + (i + 1) = n + 1 + i by omega]
      exact h.row i (by simpa using hj)
  below := h.below.setCell (Nat.le_refl _) _

theorem pow_step {x m : Nat} (hm : m ≤ 7) (hx : x < 16 ^ (8 - m)) (h : 16 ≤ x) : m + 1 ≤ 7 ∧ x / 16 < 16 ^ (8 - (m + 1)) := by
  have e : 8 - m = (7 - m) + 1 := by omega
  rw [e, Nat.pow_succ] at hx
  have h7 : m ≠ 7 := by
    intro q; subst q; simp at hx; omega
  refine ⟨by omega, ?_⟩
  rw [show 8 - (m + 1) = 7 - m by omega]
  exact (Nat.div_lt_iff_lt_mul (by decide)).2 hx

structure n_rel (u B : Nat) (w : World) (x n : Nat) (l : List UInt8) (wr : World) : Prop where
  sum : n + l.length = 65
  len : l.length ≤ 7
  pow : x < 16 ^ (8 - l.length)
  hex : hexL u = hexL x ++ l
  buf : Buf w B wr n l

set_option maxRecDepth 100000 in
set_option maxHeartbeats 2000000 in
theorem fbits_16 (u : Nat) (hu : u < 4294967296) (w : World) (hc : w.cell? ⟨19, 15, none⟩ = some (.int .u8 4)) :
    Calls Tryz.prog 118 #[.slice none 0 0, .int .u64 u, .int .i64 16, .bool false, .bool false] w fun e w' => e = .returned (.tuple #[.slice none 0 0, .string ⟨(hexL u).toArray⟩]) ∧ Below w.heap.size w w' := by
  have hz := zero65
  go_enter Tryz.func118, Tryz.ntmps118
  go_upto_region 4 with (fail)
  obtain ⟨w1, hw1⟩ : ∃ w1, w1 = w.alloc (.cells z65 211) := ⟨_, rfl⟩
  have HB : Buf w w.heap.size w1 65 [] := by rw [hw1]; exact Buf.made w 65
  rw [← hw1]
  have hc1 : w1.cell? ⟨19, 15, none⟩ = some (.int .u8 4) := (HB.below.cell (World.block_lt_of_cell? _ _ hc)).trans hc
  clear hw1 hz
  go_wp2_with (first | (go_at_call 143; refine (pow2_16 _).mono ?_; rintro e w' ⟨rfl, rfl⟩) | (go_at_call 144; refine (tz_16 _ hc1).mono ?_; rintro e w' ⟨rfl, rfl⟩))
  clear hc1
  go_loopw [1, 13] (fun q i wr => ∃ (x n : Nat) (l : List UInt8), q = .int .u64 x ∧ i = .int .i64 n ∧ n + l.length = 65 ∧ l.length ≤ 7 ∧ x < 16 ^ (8 - l.length) ∧ hexL u = hexL x ++ l ∧ Buf w w.heap.size wr n l) (fun q _ _ => (intOf q).toNat)
  case atStart => exact ⟨u, 65, [], rfl, rfl, rfl, by simp, by simpa using hu, by simp, HB⟩
  case round =>
    obtain ⟨x, n, l, rfl, rfl, hn, hm, hxp, hxl, HR⟩ := hrel
    have hx36 : x < 4294967296 := Nat.lt_of_lt_of_le hxp (Nat.le_trans (Nat.pow_le_pow_right (by decide) (show 8 - l.length ≤ 8 by omega)) (by decide))
    obtain ⟨m, rfl⟩ : ∃ m, n = m + 1 := ⟨n - 1, by omega⟩
    obtain ⟨v, hv⟩ := HR.all m (by omega)
    have hf := HR.free m
    have ei : ((m + 1 : Nat) : Int) - 1 = (m : Int) := by omega
    have hm65 : m < 65 := by omega
    have G := get_hx
    unfold digs at G
    by_cases h16 : 16 ≤ x
    · have e0 := u64_and15 (x : Int) (by omega) (by omega)
      have hst := pow_step hm hxp h16
      have hrel' : n_rel u w.heap.size w (x / 16) m (hx (x % 16) :: l) (wr.setCell ⟨w.heap.size, m, none⟩ (.int .u8 ((hx (x % 16)).toNat : Int))) :=
        ⟨by simp; omega, by simpa using hst.1, by simpa using hst.2, by rw [hxl, hex_hi h16, List.append_assoc]; rfl, HR.put hm65 _⟩
      have HL := hid hrel'
      clear hrel' hst hxl hm hxp HR
      go_wp2
      go_roundw
      case rel =>
        have R := HL.out
        exact ⟨x / 16, m, hx (x % 16) :: l, by go_num, rfl, R.sum, R.len, R.pow, R.hex, R.buf⟩
      case measure => simp [intOf]; omega
    · have hlt : x < 16 := by omega
      have HL := hid hxl
      have HN := hid hn
      rw [hex_lo hlt] at HL
      have HR' := HR.put hm65 (hx x)
      clear hm hxp hxl hn HR
      go_wp2
      have hal : Tryz.prog.arrayLen 211 = 65 := by simp [Program.arrayLen, Tryz.underlying211]
      have hsl : ∀ W, (Instr.sliceAt 211 (.pointer (some ⟨w.heap.size, 0, none⟩)) (some (.int .i64 (m : Int))) none none).run Tryz.prog W = .ok (.slice (some ⟨w.heap.size, m, none⟩) (65 - m) (65 - m)) W := fun W => by
        rw [run_sliceAt_array_l W 211 ⟨w.heap.size, 0, none⟩ (by simp [Program.arrayLen, Program.elem, Tryz.underlying211]) .i64 (m : Int) (by omega) (by rw [hal]; omega), hal]
        go_simp
        try omega
      rw [hsl]
      clear hsl hal
      go_wp2
      rw [conv_at _ _ _ (65 - m) _ (hx x :: l) (by have := HN.out; simp; omega) HR'.row]
      go_wp2
      go_ret2
      exact ⟨ret_str HL.out, HR'.below⟩

set_option maxRecDepth 100000 in
set_option maxHeartbeats 400000 in
theorem fuint_16 (u : Nat) (hu : u < 4294967296) (w : World) (hc : w.cell? ⟨19, 15, none⟩ = some (.int .u8 4)) :
    Calls Tryz.prog 47 #[.int .u64 u, .int .i64 16] w fun e w' => e = .returned (.string ⟨(hexL u).toArray⟩) ∧ Below w.heap.size w w' := by
  go_enter Tryz.func47, Tryz.ntmps47
  go_wp2_with (first | (go_at_call 118; refine (fbits_16 u hu _ ?_).mono ?_; assumption; rintro e w' ⟨rfl, hb⟩) | go_in)
  go_ret
  exact ⟨rfl, hb⟩
end Go.Proofs.YtgahbpfmiibpeaaGreatDoor
/- Texts: decimal numerals, operands, names: contracts. -/
namespace Go.Proofs.YtgahbpfmiibpeaaGreatDoor
open Go.RowKit

def sB (l : List UInt8) : ByteArray := ⟨l.toArray⟩
/-- the names, by the instructions' numbers -/
def nameL (o : Nat) : List UInt8 :=
  match o with
  | 1 => [110, 111, 112] | 2 => [109, 111, 118] | 3 => [97, 100, 100] | 4 => [115, 117, 98] | 5 => [97, 110, 100] | 6 => [111, 114] | 7 => [120, 111, 114] | 8 => [115, 104, 108]
  | 9 => [115, 104, 114] | 10 => [108, 116] | 11 => [101, 113] | 12 => [108, 100] | 13 => [115, 116] | 14 => [108, 105] | 15 => [108, 97] | 16 => [98, 114] | 17 => [98, 114, 122]
  | 18 => [98, 114, 110] | 19 => [106, 109, 112] | 20 => [106, 122] | 21 => [106, 110] | 22 => [99, 97, 108, 108] | 23 => [106, 114] | 24 => [109, 117, 108]
  | 32 => [104, 97, 108, 116] | 33 => [115, 116, 118] | 34 => [114, 116, 105] | 35 => [111, 117, 116] | 36 => [105, 110] | 37 => [98, 119, 114] | 38 => [98, 114, 100] | 39 => [116, 109, 114]
  | 40 => [103, 116, 109] | 41 => [115, 112, 116, 101] | 42 => [115, 121, 110, 99] | 43 => [103, 99, 115] | 44 => [103, 102, 97]
  | 64 => [99, 108, 105] | 65 => [115, 116, 105] | 66 => [103, 115, 116] | 67 => [115, 115, 116] | 96 => [104, 99]
  | _ => []
def nameB (o : Nat) : ByteArray := sB (nameL o)

/-- the listed variables hold what they were laid with -/
structure Vars (w : World) : Prop where
  pow : Lib.TabIs Tryz.prog w "internal/strconv.uint64pow10" .u64 Lib.pow10Tab
  db : w.cell? ⟨19, 15, none⟩ = some (.int .u8 4)
  names : ∀ o, o < 97 → w.cell? ⟨3, o, none⟩ = some (.string (nameB o))
theorem Vars.below {W W' : World} (h : Vars W) (hb : Below W.heap.size W W') : Vars W' where
  pow := by
    have hc := h.pow.cell (g := 8) (by kernel_rfl) 0 (by decide)
    exact var?_below hb (by kernel_rfl) (World.block_lt_of_cell? _ _ hc) h.pow
  db := (hb.cell (World.block_lt_of_cell? _ _ h.db)).trans h.db
  names := fun o ho => (hb.cell (World.block_lt_of_cell? _ _ (h.names o ho))).trans (h.names o ho)

def decB (n : Nat) : ByteArray := sB (Lib.decDigits n)
theorem dec_len {n : Nat} (h : n ≤ 255) : (Lib.decDigits n).length ≤ 3 := by
  by_cases h1 : n < 10
  · rw [Lib.decDigits, dif_pos h1]; simp
  · rw [Lib.decDigits, dif_neg h1]
    by_cases h2 : n / 10 < 10
    · rw [Lib.decDigits, dif_pos h2]; simp
    · rw [Lib.decDigits, dif_neg h2, Lib.decDigits, dif_pos (by omega)]; simp
theorem dec_size {n : Nat} (h : n ≤ 255) : (decB n).size ≤ 3 := by
  have := dec_len h
  simpa [decB, sB, ByteArray.size] using this
theorem name_size (o : Nat) : (nameB o).size ≤ 4 := by
  have : (nameL o).length ≤ 4 := by unfold nameL; split <;> simp
  simpa [nameB, sB, ByteArray.size] using this
theorem hex_len (k : Nat) : ∀ u, u < 16 ^ (k + 1) → (hexL u).length ≤ k + 1 := by
  induction k with
  | zero => intro u h; rw [hex_lo (by simpa using h)]; simp
  | succ k ih =>
    intro u h
    by_cases h1 : u < 16
    · rw [hex_lo h1]; simp
    · rw [hex_hi (by omega)]
      have := ih (u / 16) ((Nat.div_lt_iff_lt_mul (by decide)).2 (by rw [← Nat.pow_succ]; exact h))
      simp; omega
def hexB (u : Nat) : ByteArray := sB (hexL u)
theorem hexB_size {u : Nat} (h : u < 4294967296) : (hexB u).size ≤ 8 := by
  have := hex_len 7 u (by simpa using h)
  simpa [hexB, sB, ByteArray.size] using this

theorem itoa_any (n : Nat) (h : n ≤ 255) (w : World) (hv : Vars w) :
    Calls Tryz.prog 53 #[.int .i64 n] w fun e w' => e = .returned (.string (decB n)) ∧ Below w.heap.size w w' := by
  refine (Tryz.strconv_Itoa n (by omega) (by omega) w hv.pow).mono ?_
  rintro e w' ⟨rfl, k, os, rfl⟩
  refine ⟨?_, Lib.below_grow _ _ (Nat.le_refl _) _ _⟩
  rw [Lib.itoa_nonneg]; rfl

/-- an operand as it is written -/
def ktB (k : Int) (n : Nat) : ByteArray := if k = 1 then sB [32, 114] ++ decB n else if k = 2 then sB [32] ++ decB n else sB []
theorem kt_1 (n : Nat) : ktB 1 n = sB [32, 114] ++ decB n := rfl
theorem kt_2 (n : Nat) : ktB 2 n = sB [32] ++ decB n := rfl
theorem kt_0 {k : Int} (n : Nat) (h : k ≠ 1) (h' : k ≠ 2) : ktB k n = sB [] := by unfold ktB; rw [if_neg h, if_neg h']
theorem kt_size (k : Int) {n : Nat} (h : n ≤ 255) : (ktB k n).size ≤ 5 := by
  have := dec_size h
  unfold ktB
  split
  · rw [ByteArray.size_append, show (sB [32, 114]).size = 2 from rfl]; omega
  · split
    · rw [ByteArray.size_append, show (sB [32]).size = 1 from rfl]; omega
    · exact (show (0 : Nat) ≤ 5 by decide)
theorem ret_s {a b : ByteArray} (h : a = b) : Ending.returned (.string a) = .returned (.string b) := by rw [h]

set_option maxRecDepth 100000 in
set_option maxHeartbeats 400000 in
theorem ktext_any (k : Int) (n : Nat) (h : n ≤ 255) (w : World) (hv : Vars w) :
    Calls Tryz.prog 82 #[.int .i64 k, .int .i64 n] w fun e w' => e = .returned (.string (ktB k n)) ∧ Below w.heap.size w w' := by
  have hd := dec_size h
  by_cases h1 : k = 1
  · subst h1
    have H := hid (kt_1 n)
    go_enter Tryz.func82, Tryz.ntmps82
    go_wp2_with (go_at_call 53; refine (itoa_any n h _ hv).mono ?_; rintro e w' ⟨rfl, hb⟩)
    go_ret
    exact ⟨ret_s H.out.symm, hb⟩
  · by_cases h2 : k = 2
    · subst h2
      have H := hid (kt_2 n)
      clear h1
      go_enter Tryz.func82, Tryz.ntmps82
      go_wp2_with (go_at_call 53; refine (itoa_any n h _ hv).mono ?_; rintro e w' ⟨rfl, hb⟩)
      go_ret
      exact ⟨ret_s H.out.symm, hb⟩
    · have H := hid (kt_0 n h1 h2)
      have q1 : (k == 1) = false := by simpa using h1
      have q2 : (k == 2) = false := by simpa using h2
      clear h1 h2
      go_enter Tryz.func82, Tryz.ntmps82
      go_wp2
      go_ret
      exact ⟨ret_s H.out.symm, Below.refl _ _⟩
theorem fuint_any (u : Nat) (hu : u < 4294967296) (w : World) (hv : Vars w) :
    Calls Tryz.prog 47 #[.int .u64 u, .int .i64 16] w fun e w' => e = .returned (.string (hexB u)) ∧ Below w.heap.size w w' :=
  fuint_16 u hu w hv.db
end Go.Proofs.YtgahbpfmiibpeaaGreatDoor
/- isa.Text of an instruction that may be: a contract. -/
namespace Go.Proofs.YtgahbpfmiibpeaaGreatDoor
open Go.RowKit

/-- an instruction's text -/
def textB (o a b c i : Nat) : ByteArray :=
  let s := nameB o ++ ktB (hasA o) a ++ ktB (hasB o) b ++ ktB (hasC o) c
  if twoB o = true then s ++ (sB [32, 48, 120] ++ hexB i) else s
theorem text_two {o : Nat} (a b c i : Nat) (h : twoB o = true) : textB o a b c i = nameB o ++ ktB (hasA o) a ++ ktB (hasB o) b ++ ktB (hasC o) c ++ (sB [32, 48, 120] ++ hexB i) := by
  unfold textB; rw [if_pos h]
theorem text_one {o : Nat} (a b c i : Nat) (h : twoB o = false) : textB o a b c i = nameB o ++ ktB (hasA o) a ++ ktB (hasB o) b ++ ktB (hasC o) c := by
  unfold textB; rw [if_neg (by simp [h])]

set_option maxRecDepth 100000 in
set_option maxHeartbeats 4000000 in
theorem text_any (o a b c i : Nat) (hi : i < 4294967296) (w : World) (hv : Vars w) (h : insB o a b c i = true) :
    Calls Tryz.prog 46 #[.agg #[.int .i64 o, .int .i64 a, .int .i64 b, .int .i64 c, .int .u32 i]] w fun e w' => e = .returned (.string (textB o a b c i)) ∧ Below w.heap.size w w' := by
  obtain ⟨⟨o1, o2⟩, ⟨a1, a2⟩, ⟨b1, b2⟩, ⟨c1, c2⟩⟩ := ins_bd h
  have ho : o < 97 := by omega
  have ha : a ≤ 255 := by omega
  have hb : b ≤ 255 := by omega
  have hc : c ≤ 255 := by omega
  have s0 := name_size o
  have s1 := kt_size (hasA o) ha
  have s2 := kt_size (hasB o) hb
  have s3 := kt_size (hasC o) hc
  have s4 := hexB_size hi
  have oi0 : (0 : Int) ≤ (o : Int) := by omega
  have oi1 : (o : Int) < 97 := by omega
  go_enter Tryz.func46, Tryz.ntmps46
  go_wp2_with fail
  refine (mayBe_any _ _ _ _ _ _).mono ?_; rintro e wa ⟨rfl, hba⟩
  have di := (At5.new _ _ _ _ _ _ _).below hba
  have hB : Below w.heap.size w wa := (by refine Below.trans ?_ (hba.mono ?_) <;> go_grown)
  have hs := hB.size
  clear hba
  obtain ⟨zi, i0, i1, i2, i3, i4⟩ := di
  go_wp2_with fail
  refine (operands_any _ _).mono ?_; rintro e wb ⟨rfl, hbb⟩
  have di := (At5.mk zi i0 i1 i2 i3 i4).below hbb
  have hB2 : Below w.heap.size w wb := (by refine Below.trans ?_ (hbb.mono ?_) <;> go_grown)
  have hs2 := hB2.size
  clear hbb zi i0 i1 i2 i3 i4
  obtain ⟨zi, i0, i1, i2, i3, i4⟩ := di
  go_wp2_with fail
  have di := (At5.mk zi i0 i1 i2 i3 i4).alloc (.cells #[.int .i64 (hasA o), .int .i64 (hasB o), .int .i64 (hasC o)] 143)
  clear zi i0 i1 i2 i3 i4
  obtain ⟨zi, i0, i1, i2, i3, i4⟩ := di
  have hBe := hB2.alloc hs2 (.cells #[.int .i64 (hasA o), .int .i64 (hasB o), .int .i64 (hasC o)] 143)
  have hV := hv.below hBe
  have zh : wb.heap.size < (wb.alloc (.cells #[.int .i64 (hasA o), .int .i64 (hasB o), .int .i64 (hasC o)] 143)).heap.size := by simp
  have h0 : (wb.alloc (.cells #[.int .i64 (hasA o), .int .i64 (hasB o), .int .i64 (hasC o)] 143)).cell? ⟨wb.heap.size, 0, none⟩ = some (.int .i64 (hasA o)) := by simp
  have h1 : (wb.alloc (.cells #[.int .i64 (hasA o), .int .i64 (hasB o), .int .i64 (hasC o)] 143)).cell? ⟨wb.heap.size, 1, none⟩ = some (.int .i64 (hasB o)) := by simp
  have h2 : (wb.alloc (.cells #[.int .i64 (hasA o), .int .i64 (hasB o), .int .i64 (hasC o)] 143)).cell? ⟨wb.heap.size, 2, none⟩ = some (.int .i64 (hasC o)) := by simp
  have q1 : ∀ W, (Op.stringOp .add (nameB o) (ktB (hasA o) a)).run Tryz.prog W = .ok (.string (nameB o ++ ktB (hasA o) a)) W := fun W => run_string_add_sum W _ _ (by omega)
  have q2 : ∀ W, (Op.stringOp .add (nameB o ++ ktB (hasA o) a) (ktB (hasB o) b)).run Tryz.prog W = .ok (.string (nameB o ++ ktB (hasA o) a ++ ktB (hasB o) b)) W := fun W => run_string_add_sum W _ _ (by rw [ByteArray.size_append]; omega)
  have q3 : ∀ W, (Op.stringOp .add (nameB o ++ ktB (hasA o) a ++ ktB (hasB o) b) (ktB (hasC o) c)).run Tryz.prog W = .ok (.string (nameB o ++ ktB (hasA o) a ++ ktB (hasB o) b ++ ktB (hasC o) c)) W := fun W => run_string_add_sum W _ _ (by rw [ByteArray.size_append, ByteArray.size_append]; omega)
  go_region_held3 (fun W => w.heap.size < W.heap.size ∧ W.cell? ⟨w.heap.size, 0, none⟩ = some (.int .i64 o) ∧ W.cell? ⟨w.heap.size, 1, none⟩ = some (.int .i64 a) ∧ W.cell? ⟨w.heap.size, 2, none⟩ = some (.int .i64 b) ∧ W.cell? ⟨w.heap.size, 3, none⟩ = some (.int .i64 c) ∧ W.cell? ⟨w.heap.size, 4, none⟩ = some (.int .u32 i) ∧ wb.heap.size < W.heap.size ∧ W.cell? ⟨wb.heap.size, 0, none⟩ = some (.int .i64 (hasA o)) ∧ W.cell? ⟨wb.heap.size, 1, none⟩ = some (.int .i64 (hasB o)) ∧ W.cell? ⟨wb.heap.size, 2, none⟩ = some (.int .i64 (hasC o)) ∧ Vars W ∧ W.cell? ⟨3, o, none⟩ = some (.string (nameB o)) ∧ Below w.heap.size w W) (first | (exact ⟨zi, i0, i1, i2, i3, i4, zh, h0, h1, h2, hV.below (below_drewN (Below.refl _ _) 1), hV.names o ho, Below.drew hBe⟩) | (go_split_ands; (repeat' apply And.intro) <;> first | (refine Eq.trans (hcb.cell ?_) ?_ <;> assumption) | (exact Nat.lt_of_lt_of_le (by assumption) hcb.size) | (exact Vars.below (by assumption) hcb) | (refine Eq.trans (hcb.cell ?_) ?_; exact World.block_lt_of_cell? _ _ (by assumption); assumption) | (refine Below.trans (by assumption) (hcb.mono ?_); exact Below.size (by assumption)))) (first | (go_at_call 82; go_split_ands; refine (ktext_any _ _ (by omega) _ (by assumption)).mono ?_; rintro e w' ⟨rfl, hcb⟩))
  go_split_ands
  cases ht : twoB (o : Int)
  · have H := hid (text_one a b c i ht)
    go_wp2_with (go_at_call 83; refine (askt_any _ _).mono ?_; rintro e w' ⟨rfl, rfl⟩)
    go_ret
    exact ⟨ret_s H.out.symm, by go_grown⟩
  · have H := hid (text_two a b c i ht)
    go_wp2_with (first | (go_at_call 83; refine (askt_any _ _).mono ?_; rintro e w' ⟨rfl, rfl⟩) | (go_at_call 47; refine (fuint_any i hi _ (Vars.below (by assumption) (by go_grown))).mono ?_; rintro e w' ⟨rfl, hcb⟩))
    go_ret
    refine ⟨ret_s H.out.symm, Below.trans ?_ (hcb.mono ?_)⟩ <;> go_grown
end Go.Proofs.YtgahbpfmiibpeaaGreatDoor
