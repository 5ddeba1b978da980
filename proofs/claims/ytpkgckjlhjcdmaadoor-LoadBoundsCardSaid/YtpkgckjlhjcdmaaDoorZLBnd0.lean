/- Images of a law's own, of zeros: two slices made, and a box. -/
import Derived.Test.YtpkgckjlhjcdmaaDoorZGLdR
import Derived.Deep.Cut
import Derived.Deep.CutRange
import Derived.Deep.CutBlock
import Derived.Deep.RegionHeld3
namespace Go.Proofs.YtpkgckjlhjcdmaaDoor
open Go.RowKit
theorem zero_image14 (w : World) : (zeroValue 29).run Tryd.prog w = .ok (.agg #[.int .u32 0, .slice none 0 0, .slice none 0 0, .slice none 0 0, .slice none 0 0, .slice none 0 0]) w := by kernel_rfl
theorem build_im3 (e : Int) (p1 p2 : Option Addr) (n1 c1 n2 c2 : Nat) (w : World) : (Instr.build 29 #[(0, .int .u32 e), (2, .slice p2 n2 c2), (1, .slice p1 n1 c1)]).run Tryd.prog w = .ok (.agg #[.int .u32 e, .slice p1 n1 c1, .slice p2 n2 c2, .slice none 0 0, .slice none 0 0, .slice none 0 0]) w := by kernel_rfl
theorem build_im2 (e : Int) (p2 : Option Addr) (n2 c2 : Nat) (w : World) : (Instr.build 29 #[(0, .int .u32 e), (2, .slice p2 n2 c2)]).run Tryd.prog w = .ok (.agg #[.int .u32 e, .slice none 0 0, .slice p2 n2 c2, .slice none 0 0, .slice none 0 0, .slice none 0 0]) w := by kernel_rfl
theorem build_im1 (e : Int) (w : World) : (Instr.build 29 #[(0, .int .u32 e)]).run Tryd.prog w = .ok (.agg #[.int .u32 e, .slice none 0 0, .slice none 0 0, .slice none 0 0, .slice none 0 0, .slice none 0 0]) w := by kernel_rfl
def zsC (N : Nat) : Array Value := ((List.replicate N (0 : Int)).map (Value.int .u32)).toArray
theorem make_zs (N : Nat) (hN : N ≤ 1000000) (w : World) : (Instr.makeSlice 26 (.int .i64 (N : Int)) (.int .i64 (N : Int))).run Tryd.prog w = .ok (.slice (some ⟨w.heap.size, 0, none⟩) N N) (w.alloc (.cells (zsC N) 25)) := by
  obtain ⟨i, hi, hz0, hz1, hz2⟩ := info_parts (P := Tryd.prog) (e := 25) (z := .int .u32 0) (size := 1) (bytes := 4) (by kernel_rfl)
  have := run_make (P := Tryd.prog) w 26 25 i _ Tryd.underlying26 hi hz0 .i64 .i64 N N (by omega) (by omega) (by rw [hz2]; omega) (by omega)
  rw [this, hz1]
  have e := toList_madeZero (.int .u32 0) N 1 (by omega)
  simp only [Int.toNat_natCast, Nat.mul_one]
  have e2 : zsC N = Array.replicate N (.int .u32 0) := by simp [zsC]
  rw [e2, ← e]
  rfl
theorem zs_sl {w : World} {b N : Nat} (h : w.heap[b]? = some (.cells (zsC N) 25)) : SlAt w .u32 (.slice (some ⟨b, 0, none⟩) N N) (List.replicate N 0) := by
  have := SlAt.whole (k := .u32) (c := N) (xs := List.replicate N 0) h
  rwa [List.length_replicate] at this
/-- an image of zeros: its data at b1, its code at b2 -/
abbrev zV (b1 N b2 C : Nat) : IV := ⟨some ⟨b1, 0, none⟩, N, N, some ⟨b2, 0, none⟩, C, C, none, 0, 0, none, 0, 0, none, 0, 0⟩
abbrev zI (e : Int) (N C : Nat) : Ig := ⟨e, List.replicate N 0, List.replicate C 0⟩
theorem zs_im {w : World} {b1 N b2 C : Nat} {e : Int} (h1 : w.heap[b1]? = some (.cells (zsC N) 25)) (h2 : w.heap[b2]? = some (.cells (zsC C) 25)) (e0 : 0 ≤ e) (e1 : e < 4294967296) (hN : N ≤ 1000000) (hC : C ≤ 1000000) : ImAt w (zV b1 N b2 C) (zI e N C) where
  d := zs_sl h1
  c := zs_sl h2
  dl := List.length_replicate
  cl := List.length_replicate
  e0 := e0
  e1 := e1
  dw := fun n hn => by rw [List.eq_of_mem_replicate hn]; omega
  cw := fun n hn => by rw [List.eq_of_mem_replicate hn]; omega
  lm := by simp only; unfold maxLen; omega
  cap := by simp only; unfold maxLen; omega
abbrev zV2 (b2 C : Nat) : IV := ⟨none, 0, 0, some ⟨b2, 0, none⟩, C, C, none, 0, 0, none, 0, 0, none, 0, 0⟩
theorem zs_im2 {w : World} {b2 C : Nat} {e : Int} (h2 : w.heap[b2]? = some (.cells (zsC C) 25)) (e0 : 0 ≤ e) (e1 : e < 4294967296) (hC : C ≤ 1000000) : ImAt w (zV2 b2 C) ⟨e, [], List.replicate C 0⟩ where
  d := .inl ⟨⟨_, _, rfl⟩, rfl⟩
  c := zs_sl h2
  dl := rfl
  cl := List.length_replicate
  e0 := e0
  e1 := e1
  dw := fun n hn => by cases hn
  cw := fun n hn => by rw [List.eq_of_mem_replicate hn]; omega
  lm := by simp only; unfold maxLen; omega
  cap := by simp only; unfold maxLen; omega
theorem zs_im1 {w : World} {e : Int} (e0 : 0 ≤ e) (e1 : e < 4294967296) : ImAt w iv0 ⟨e, [], []⟩ where
  d := .inl ⟨⟨_, _, rfl⟩, rfl⟩
  c := .inl ⟨⟨_, _, rfl⟩, rfl⟩
  dl := rfl
  cl := rfl
  e0 := e0
  e1 := e1
  dw := fun n hn => by cases hn
  cw := fun n hn => by cases hn
  lm := by simp only [iv0]; unfold maxLen; omega
  cap := by simp only [iv0]; unfold maxLen; omega
/-- in the box G -/
structure ZbW (W w : World) (G b1 b2 N C : Nat) (e : Int) : Prop where
  g : W.grownBy w none
  box : RwAt w G 29 (imgC (zV b1 N b2 C) e)
  im : ImAt w (zV b1 N b2 C) (zI e N C)
theorem ZbW.kept0 {W w w1 : World} {G b1 b2 N C : Nat} {e : Int} (h : ZbW W w G b1 b2 N C e) (hg : w.grownBy w1 none) : ZbW W w1 G b1 b2 N C e := ⟨grown_trans h.g hg, h.box.kept0 hg, h.im.kept0 hg⟩
theorem grown_setCellN14 {w w1 : World} {b : Nat} (h : w.grownBy w1 none) (hb : w.heap.size ≤ b) (k : Nat) (v : Value) : w.grownBy (w1.setCell ⟨b, k, none⟩ v) none :=
  grown_new' (grown_trans (grown_none h) (grown_setCell (grown_refl w1 (some b)) k v)) (fun g e => by have := Option.some.inj e; omega)
/-- the box filled in -/
theorem ZbW.new {W w w' : World} {G b1 b2 N C : Nat} {e : Int} (hW : W.grownBy w none) (g : w.grownBy w' none) (h1 : w'.heap[b1]? = some (.cells (zsC N) 25)) (h2 : w'.heap[b2]? = some (.cells (zsC C) 25))
    (hG : w'.heap[G]? = some (.cells (imgC (zV b1 N b2 C) e) 29)) (e0 : 0 ≤ e) (e1 : e < 4294967296) (hN : N ≤ 1000000) (hC : C ≤ 1000000) : ZbW W w' G b1 b2 N C e :=
  ⟨grown_trans hW g, ⟨hG⟩, zs_im h1 h2 e0 e1 hN hC⟩
theorem heap3 (w : World) (a b c : Obj) : w.grownBy (((w.alloc a).alloc b).alloc c).drew none ∧ (((w.alloc a).alloc b).alloc c).drew.heap[w.heap.size]? = some a ∧ (((w.alloc a).alloc b).alloc c).drew.heap[w.heap.size + 1]? = some b ∧
    (((w.alloc a).alloc b).alloc c).drew.heap[w.heap.size + 1 + 1]? = some c := by
  refine ⟨grown_drew (grown_alloc (grown_alloc (grown_alloc (grown_refl w none) a) b) c), ?_, ?_, ?_⟩
  · show (((w.alloc a).alloc b).alloc c).heap[w.heap.size]? = _
    rw [heap_alloc_old _ _ (by simp <;> omega), heap_alloc_old _ _ (by simp)]
    exact heap_alloc_last w a
  · show (((w.alloc a).alloc b).alloc c).heap[w.heap.size + 1]? = _
    rw [heap_alloc_old _ _ (by simp)]
    have := heap_alloc_last (w.alloc a) b
    simpa using this
  · show (((w.alloc a).alloc b).alloc c).heap[w.heap.size + 1 + 1]? = _
    have := heap_alloc_last ((w.alloc a).alloc b) c
    simpa using this
theorem zb_val {e : Int} {N C : Nat} : valI (zI e N C) = if 2048 < N ∨ 2048 < C then 104 else if e < 2048 ∨ 2048 + (C : Int) ≤ e then 103 else 0 := by
  unfold valI; simp only [List.length_replicate]
theorem zb_val2 {e : Int} {C : Nat} : valI ⟨e, [], List.replicate C 0⟩ = if 2048 < C then 104 else if e < 2048 ∨ 2048 + (C : Int) ≤ e then 103 else 0 := by
  unfold valI; simp
theorem zb_quo {e : Int} {N C : Nat} : quoI (zI e N C) = 17 + (N + 15) / 16 := by
  unfold quoI pgN; simp only [List.length_replicate]
theorem zb_code {N k : Nat} (hN : N = 16 * k) (hk : k ≤ 3) (q : Int) : codeB (zI 2048 N 9) q = if q < 17 + (k : Int) ∨ 256 < q then 103 else 0 := by
  have hv : valI (zI 2048 N 9) = 0 := by rw [zb_val, if_neg (by omega), if_neg (by omega)]
  unfold codeB
  rw [hv, if_neg (by decide), zb_quo, show 17 + (N + 15) / 16 = 17 + k from by omega]
  by_cases h : q < 17 + (k : Int) ∨ 256 < q
  · rw [if_pos h, if_pos (by omega)]
  · rw [if_neg h, if_neg (by omega)]
end Go.Proofs.YtpkgckjlhjcdmaaDoor
