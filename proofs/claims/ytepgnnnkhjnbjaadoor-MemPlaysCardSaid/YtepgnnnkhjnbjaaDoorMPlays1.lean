/- The law MemPlays: its things that are done, as they came in; both memories told the same. -/
import Derived.Test.YtepgnnnkhjnbjaaDoorRMem2
import Derived.Test.YtepgnnnkhjnbjaaDoorErr3
import Derived.Test.YtepgnnnkhjnbjaaDoorArgs
namespace Go.Proofs.YtepgnnnkhjnbjaaDoor
open Go.RowKit
/-- one thing -/
structure Do where
  kind : Int
  n : Int
  w : Int
  v : Value
  l : List Int
/-- the cells of a thing -/
def Do.cells (d : Do) : List Value := [.int .i64 d.kind, .int .i64 d.n, .int .u32 d.w, d.v]
/-- a slice that reads as these things, all of it older than block B -/
structure DosAt (w : World) (p : Option Addr) (N : Nat) (ds : List Do) : Prop where
  len : ds.length = N
  cell : ∀ j d, ds[j]? = some d → ∃ b o, p = some ⟨b, o, none⟩ ∧ b < w.heap.size ∧ ∀ i c, d.cells[i]? = some c → w.cell? ⟨b, o + (j * 4 + i), none⟩ = some c
  list : ∀ d ∈ ds, SlAt w .u32 d.v d.l
  wide : ∀ d ∈ ds, -9223372036854775808 ≤ d.n ∧ d.n ≤ 9223372036854775807
def wset (xs : List Int) (a x : Int) : List Int := if 0 ≤ a ∧ a < xs.length then xs.set a.toNat x else xs
theorem wset_length (xs : List Int) (a x : Int) : (wset xs a x).length = xs.length := by unfold wset; split <;> simp
def wfill (xs : List Int) (f : Int) (ls : List Int) : List Int := if 0 ≤ f ∧ f * 16 < xs.length ∧ ls.length ≤ 16 then setMany xs (f.toNat * 16) (padded ls) else xs
section
variable {w : World} {m b n c N : Nat} {xs : List Int}
theorem write_any (h : MemAt w m b n c xs) (a x : Int) (hb : a ≤ 9223372036854775807) (r : Bool) (hr : decide (0 ≤ a ∧ a < xs.length) = r) :
    Calls Tryd.prog 9 #[.pointer (some ⟨m, 0, none⟩), .int .i64 a, .int .u32 x] w fun e w' => e = .returned (.bool r) ∧ MemAt w' m b n c (wset xs a x) ∧ w.grownBy w' (some b) := by
  have hl := h.len
  by_cases hin : 0 ≤ a ∧ a < xs.length
  · obtain ⟨k, rfl⟩ := Int.eq_ofNat_of_zero_le hin.1
    have : r = true := by rw [← hr]; simpa using hin
    subst this
    unfold wset
    rw [if_pos hin]
    exact write_yes h k x (by omega)
  · have : r = false := by rw [← hr]; simpa using hin
    subst this
    unfold wset
    rw [if_neg hin]
    refine (write_no h a x (by omega) hb).mono ?_
    rintro e w' ⟨rfl, rfl⟩
    exact ⟨rfl, h, grown_refl _ _⟩
theorem rwrite_any (h : RefAt w m b N xs) (a x : Int) (r : Bool) (hr : decide (0 ≤ a ∧ a < xs.length) = r) :
    Calls Tryd.prog 19 #[.pointer (some ⟨m, 0, none⟩), .int .i64 a, .int .u32 x] w fun e w' => e = .returned (.bool r) ∧ RefAt w' m b N (wset xs a x) ∧ w.grownBy w' (some b) := by
  have hl := h.len
  by_cases hin : 0 ≤ a ∧ a < xs.length
  · obtain ⟨k, rfl⟩ := Int.eq_ofNat_of_zero_le hin.1
    have : r = true := by rw [← hr]; simpa using hin
    subst this
    unfold wset
    rw [if_pos hin]
    exact rwrite_yes h k x (by omega)
  · have : r = false := by rw [← hr]; simpa using hin
    subst this
    unfold wset
    rw [if_neg hin]
    refine (rwrite_no h a x (by omega)).mono ?_
    rintro e w' ⟨rfl, rfl⟩
    exact ⟨rfl, h, grown_refl _ _⟩
theorem read_any (h : MemAt w m b n c xs) (a : Int) (hb : a ≤ 9223372036854775807) (r : Bool) (y : Int) (hr : decide (0 ≤ a ∧ a < xs.length) = r) (hy : (if 0 ≤ a ∧ a < xs.length then xs.getD a.toNat 0 else 0) = y) :
    Calls Tryd.prog 14 #[.pointer (some ⟨m, 0, none⟩), .int .i64 a] w fun e w' => e = .returned (.tuple #[.int .u32 y, .bool r]) ∧ w = w' := by
  have hl := h.len
  by_cases hin : 0 ≤ a ∧ a < xs.length
  · obtain ⟨k, rfl⟩ := Int.eq_ofNat_of_zero_le hin.1
    rw [if_pos hin] at hy
    subst hy
    have : r = true := by rw [← hr]; simpa using hin
    subst this
    have hk : k < xs.length := by omega
    exact read_yes h k _ (by simp [List.getD, hk])
  · rw [if_neg hin] at hy
    subst hy
    have : r = false := by rw [← hr]; simpa using hin
    subst this
    exact read_no h a (by omega) hb
theorem rread_any (h : RefAt w m b N xs) (a : Int) (r : Bool) (y : Int) (hr : decide (0 ≤ a ∧ a < xs.length) = r) (hy : (if 0 ≤ a ∧ a < xs.length then xs.getD a.toNat 0 else 0) = y) :
    Calls Tryd.prog 23 #[.pointer (some ⟨m, 0, none⟩), .int .i64 a] w fun e w' => e = .returned (.tuple #[.int .u32 y, .bool r]) ∧ w = w' := by
  have hl := h.len
  by_cases hin : 0 ≤ a ∧ a < xs.length
  · obtain ⟨k, rfl⟩ := Int.eq_ofNat_of_zero_le hin.1
    rw [if_pos hin] at hy
    subst hy
    have : r = true := by rw [← hr]; simpa using hin
    subst this
    have hk : k < xs.length := by omega
    exact rread_yes h k _ (by simp [List.getD, hk])
  · rw [if_neg hin] at hy
    subst hy
    have : r = false := by rw [← hr]; simpa using hin
    subst this
    exact rread_no h a (by omega)
theorem fill_any (h : MemAt w m b n c xs) (f : Int) (v : Value) (ls : List Int) (hv : SlAt w .u32 v ls) (r : Bool) (hr : decide (0 ≤ f ∧ f * 16 < xs.length ∧ ls.length ≤ 16) = r) :
    Calls Tryd.prog 20 #[.pointer (some ⟨m, 0, none⟩), .int .i64 f, v] w fun e w' => e = .returned (.bool r) ∧ MemAt w' m b n c (wfill xs f ls) ∧ w.grownBy w' (some b) := by
  have hl := h.len
  by_cases hin : 0 ≤ f ∧ f * 16 < xs.length ∧ ls.length ≤ 16
  · obtain ⟨k, rfl⟩ := Int.eq_ofNat_of_zero_le hin.1
    have : r = true := by rw [← hr]; simpa using hin
    subst this
    unfold wfill
    rw [if_pos hin]
    exact fill_yes h k v ls (by omega) hv hin.2.2
  · have : r = false := by rw [← hr]; simpa using hin
    subst this
    unfold wfill
    rw [if_neg hin]
    by_cases hf : f < 0 ∨ (n : Int) ≤ f
    · refine (fill_no h f v hf).mono ?_
      rintro e w' ⟨rfl, rfl⟩
      exact ⟨rfl, h, grown_refl _ _⟩
    · obtain ⟨k, rfl⟩ := Int.eq_ofNat_of_zero_le (show 0 ≤ f by omega)
      refine (fill_many h k v ls (by omega) hv (by omega)).mono ?_
      rintro e w' ⟨rfl, rfl⟩
      exact ⟨rfl, h, grown_refl _ _⟩
theorem rfill_any (h : RefAt w m b N xs) (hn : N = n * 16) (f : Int) (v : Value) (ls : List Int) (hv : SlAt w .u32 v ls) (hne : ls ≠ [] → v.ownBlock ≠ some b) (r : Bool) (hr : decide (0 ≤ f ∧ f * 16 < xs.length ∧ ls.length ≤ 16) = r) :
    Calls Tryd.prog 21 #[.pointer (some ⟨m, 0, none⟩), .int .i64 f, v] w fun e w' => e = .returned (.bool r) ∧ RefAt w' m b N (wfill xs f ls) ∧ w.grownBy w' (some b) := by
  have hl := h.len
  by_cases hin : 0 ≤ f ∧ f * 16 < xs.length ∧ ls.length ≤ 16
  · obtain ⟨k, rfl⟩ := Int.eq_ofNat_of_zero_le hin.1
    have : r = true := by rw [← hr]; simpa using hin
    subst this
    unfold wfill
    rw [if_pos hin]
    exact rfill_yes h hn k v ls (by omega) hv hne hin.2.2
  · have : r = false := by rw [← hr]; simpa using hin
    subst this
    unfold wfill
    rw [if_neg hin]
    by_cases hf : f < 0 ∨ (n : Int) ≤ f
    · refine (rfill_no h hn f v hf).mono ?_
      rintro e w' ⟨rfl, rfl⟩
      exact ⟨rfl, h, grown_refl _ _⟩
    · obtain ⟨k, rfl⟩ := Int.eq_ofNat_of_zero_le (show 0 ≤ f by omega)
      refine (rfill_many h hn k v ls (by omega) hv (by omega)).mono ?_
      rintro e w' ⟨rfl, rfl⟩
      exact ⟨rfl, h, grown_refl _ _⟩
end
def zeroA : Array Value := wA (List.replicate 16 0)
theorem make16 (W : World) : (Instr.makeSlice 33 (.int .i64 16) (.int .i64 16)).run Tryd.prog W = .ok (.slice (some ⟨W.heap.size, 0, none⟩) 16 16) (W.alloc (.cells zeroA 23)) := by
  obtain ⟨i, hi, hz0, hz1, hz2⟩ := info_parts (P := Tryd.prog) (e := 23) (z := .int .u32 0) (size := 1) (bytes := 4) (by kernel_rfl)
  have := run_make (P := Tryd.prog) W 33 23 i _ Tryd.underlying33 hi hz0 .i64 .i64 16 16 (by omega) (by omega) (by rw [hz2]; omega) (by omega)
  rw [this, hz1]
  have e := toList_madeZero (.int .u32 0) 16 1 (by omega)
  have e2 : zeroA = Array.replicate 16 (.int .u32 0) := by unfold zeroA wA; rfl
  rw [e2, ← e]
  rfl
theorem slat_zero (W : World) : SlAt (W.alloc (.cells zeroA 23)) .u32 (.slice (some ⟨W.heap.size, 0, none⟩) 16 16) (List.replicate 16 0) :=
  SlAt.frame (l := List.replicate 16 0) rfl (heap_alloc_last W _) 16
theorem frameOf_zero {n f : Nat} (hf : f < n) : frameOf (List.replicate (n * 16) (0 : Int)) f = List.replicate 16 0 := by
  apply List.ext_getElem?
  intro j
  by_cases hj : j < 16
  · rw [frame_get hj, List.getElem?_replicate, List.getElem?_replicate, if_pos (by omega), if_pos hj]
  · have := frameOf_length (xs := List.replicate (n * 16) (0 : Int)) (by simp) hf
    rw [List.getElem?_eq_none (by omega), List.getElem?_eq_none (by simp; omega)]
theorem SlAt.old {w : World} {k : IntKind} {v : Value} {xs : List Int} (h : SlAt w k v xs) (h1 : xs ≠ []) : ∀ b, v.ownBlock = some b → b < w.heap.size := by
  intro b hb
  rcases h with ⟨_, rfl⟩ | ⟨b', o, c, rfl, hlt, _⟩
  · exact absurd rfl h1
  · simp [Value.ownBlock] at hb
    omega
end Go.Proofs.YtepgnnnkhjnbjaaDoor
