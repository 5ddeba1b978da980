/- Lists that are read (package obj): words, relocations, symbols: contracts. (Made by gobju.py.) -/
import Derived.Test.YtfkecmcnhmlnoaaDoorZObjT
import Derived.Test.YtfkecmcnhmlnoaaDoorZGMem
import Derived.Laws.BytesArg
namespace Go.Proofs.YtfkecmcnhmlnoaaDoor
open Go.RowKit
theorem grown_over {w0 w1 w2 : World} {r : Option Nat} {K : Nat} (h : w0.grownBy w1 r) (hg : w1.grownBy w2 (some K)) (hK : w0.heap.size ≤ K) : w0.grownBy w2 r :=
  ⟨hg.os.trans h.os, hg.tape.trans h.tape, hg.output.trans h.output, Nat.le_trans h.size hg.size, fun i hi hr => (hg.block i (Nat.lt_of_lt_of_le hi h.size) (fun e => by have := Option.some.inj e; omega)).trans (h.block i hi hr)⟩
theorem rlsC_set : ∀ (l : List Rl) (k j : Nat) (v : Value) (r r' : Rl), l[k]? = some r → j < 4 → (rlC r).set j v = rlC r' → (rlsC l).set (k * 4 + j) v = rlsC (l.set k r')
  | [], _, _, _, _, _, h, _, _ => by simp at h
  | x :: l, 0, j, v, r, r', h, hj, hr => by
    obtain rfl : x = r := by simpa using h
    rw [rlsC, List.set_append_left _ _ (by simpa [rlC] using hj), Nat.zero_mul, Nat.zero_add, hr]
    rfl
  | x :: l, k + 1, j, v, r, r', h, hj, hr => by
    rw [rlsC, List.set_append_right _ _ (by simp [rlC]; omega)]
    rw [show (k + 1) * 4 + j - (rlC x).length = k * 4 + j by simp [rlC]; omega, rlsC_set l k j v r r' (by simpa using h) hj hr]
    rfl
theorem sysC_set : ∀ (l : List Sy) (k j : Nat) (v : Value) (r r' : Sy), l[k]? = some r → j < 4 → (syC r).set j v = syC r' → (sysC l).set (k * 4 + j) v = sysC (l.set k r')
  | [], _, _, _, _, _, h, _, _ => by simp at h
  | x :: l, 0, j, v, r, r', h, hj, hr => by
    obtain rfl : x = r := by simpa using h
    rw [sysC, List.set_append_left _ _ (by simpa [syC] using hj), Nat.zero_mul, Nat.zero_add, hr]
    rfl
  | x :: l, k + 1, j, v, r, r', h, hj, hr => by
    rw [sysC, List.set_append_right _ _ (by simp [syC]; omega)]
    rw [show (k + 1) * 4 + j - (syC x).length = k * 4 + j by simp [syC]; omega, sysC_set l k j v r r' (by simpa using h) hj hr]
    rfl
/-- a row of the call's own with these cells, and the reader beside it -/
structure LR (w0 w : World) (K : Nat) (T : TypeId) (cs : List Value) (R : Nat) (A : Nat → Addr) (b o c : Nat) (s : RS) : Prop where
  row : RwAt w K T cs.toArray
  rd : RdAt w R A b o c s
  g : w0.grownBy w (some R)
  nK : w0.heap.size ≤ K
  nR : R < w0.heap.size
  nb : b < w0.heap.size
section
variable {w0 w w1 : World} {K : Nat} {T : TypeId} {cs : List Value} {R : Nat} {A : Nat → Addr} {b o c : Nat} {s : RS}
theorem LR.call (h : LR w0 w K T cs R A b o c s) {o' c' : Nat} {s' : RS} (hr : RdAt w1 R A b o' c' s') (hg : w.grownBy w1 (some R)) : LR w0 w1 K T cs R A b o' c' s' :=
  ⟨h.row.kept hg (fun e => by have := Option.some.inj e; have := h.nK; have := h.nR; omega), hr, grown_trans h.g hg, h.nK, h.nR, h.nb⟩
theorem LR.set (h : LR w0 w K T cs R A b o c s) (k : Nat) (v : Value) {cs' : List Value} (hc : cs.set k v = cs') : LR w0 (w.setCell ⟨K, k, none⟩ v) K T cs' R A b o c s := by
  have hgs : w.grownBy (w.setCell ⟨K, k, none⟩ v) (some K) := grown_setCell (grown_refl _ _) _ _
  have n1 := h.nK
  have n2 := h.nR
  have n3 := h.nb
  subst hc
  refine ⟨⟨?_⟩, h.rd.kept hgs (fun e => by have := Option.some.inj e; omega) (fun e => by have := Option.some.inj e; omega), grown_over h.g hgs h.nK, h.nK, h.nR, h.nb⟩
  rw [(h.row.set k v).blk, List.setIfInBounds_toArray]
theorem LR.err (h : LR w0 w K T cs R A b o c s) (hE : ErrR w0 A) (hV : NoVar R) : ErrR w A := hE.keptR h.g hV
theorem LR.cell (h : LR w0 w K T cs R A b o c s) {k : Nat} {v : Value} (hv : cs[k]? = some v) : w.cell? ⟨K, k, none⟩ = some v := h.row.cell k (by simpa using hv)
end
/-- behind words, relocs, syms -/
def ListAt {α : Type} (w : World) (R : Nat) (A : Nat → Addr) (b : Nat) (T : TypeId) (C : List α → List Value) (n : Nat) (p : List α × RS) (e : Ending) (w' : World) : Prop :=
  ∃ K o' c', e = .returned (.slice (some ⟨K, 0, none⟩) n n) ∧ LR w w' K T (C p.1) R A b o' c' p.2
/-- so many read, the others as they were made -/
def part {α : Type} (f : RS → α × RS) (z : α) (n k : Nat) (s : RS) : List α := (manyS f k s).1 ++ List.replicate (n - k) z
theorem part_zero {α : Type} (f : RS → α × RS) (z : α) (n : Nat) (s : RS) : part f z n 0 s = List.replicate n z := by simp [part, manyS]
theorem part_all {α : Type} (f : RS → α × RS) (z : α) (n : Nat) (s : RS) : part f z n n s = (manyS f n s).1 := by simp [part]
theorem part_get {α : Type} (f : RS → α × RS) (z : α) {n k : Nat} (s : RS) (h : k < n) : (part f z n k s)[k]? = some z := by
  unfold part
  rw [List.getElem?_append_right (by rw [manyS_len]; exact Nat.le_refl _), manyS_len, Nat.sub_self, List.getElem?_replicate, if_pos (by omega)]
theorem part_length {α : Type} (f : RS → α × RS) (z : α) {n k : Nat} (s : RS) (h : k ≤ n) : (part f z n k s).length = n := by
  unfold part; rw [List.length_append, manyS_len, List.length_replicate]; omega
theorem part_set {α : Type} (f : RS → α × RS) (z : α) {n k : Nat} (s : RS) (h : k < n) : (part f z n k s).set k (f (manyS f k s).2).1 = part f z n (k + 1) s := by
  unfold part
  rw [List.set_append_right _ _ (by rw [manyS_len]; exact Nat.le_refl _), manyS_len, Nat.sub_self]
  obtain ⟨d, hd⟩ : ∃ d, n - k = d + 1 := ⟨n - k - 1, by omega⟩
  rw [hd, show n - (k + 1) = d by omega, List.replicate_succ, List.set_cons_zero, manyS, List.append_assoc]
  rfl
theorem intsC_get {k : IntKind} {l : List Int} {j : Nat} {x : Int} (h : l[j]? = some x) : (l.map (Value.int k))[j]? = some (.int k x) := by rw [List.getElem?_map, h]; rfl
theorem made_u32 (n : Nat) : madeCells (Value.int .u32 0).cells (n * 1) = ((List.replicate n (0 : Int)).map (Value.int .u32)).toArray := by
  rw [show (Value.int .u32 0).cells = Array.replicate 1 (.int .u32 0) from rfl, toList_madeZero _ _ 1 (by omega), Nat.mul_one]
  simp
theorem made_four {z0 z1 z2 z3 : Value} {α : Type} (C : List α → List Value) (z : α) (hnil : C [] = []) (hcons : ∀ a l, C (a :: l) = [z0, z1, z2, z3] ++ C l ∨ a ≠ z) (n : Nat) : madeCells #[z0, z1, z2, z3] (n * 4) = (C (List.replicate n z)).toArray := by
  apply Array.ext'
  have key : ∀ n : Nat, (C (List.replicate n z)).length = n * 4 ∧ ∀ j, j < n * 4 → (C (List.replicate n z))[j]? = [z0, z1, z2, z3][j % 4]? := by
    intro n
    induction n with
    | zero => exact ⟨by simp [hnil], fun j hj => by omega⟩
    | succ n ih =>
      have hc : C (List.replicate (n + 1) z) = [z0, z1, z2, z3] ++ C (List.replicate n z) := by
        rw [List.replicate_succ]
        rcases hcons z (List.replicate n z) with h | h
        · exact h
        · exact absurd rfl h
      rw [hc]
      refine ⟨by simp [ih.1]; omega, fun j hj => ?_⟩
      by_cases h4 : j < 4
      · rw [List.getElem?_append_left (by simpa using h4), Nat.mod_eq_of_lt h4]
      · rw [List.getElem?_append_right (by simp; omega)]
        have := ih.2 (j - 4) (by omega)
        simp only [List.length_cons, List.length_nil]
        rw [show (0 + 1 + 1 + 1 + 1) = 4 from rfl, this]
        congr 1; omega
  apply List.ext_getElem?
  intro j
  by_cases hj : j < n * 4
  · rw [(key n).2 j hj]
    have hj' : j < (madeCells #[z0, z1, z2, z3] (n * 4)).toList.length := by simp [madeCells]; omega
    rw [List.getElem?_eq_getElem hj', List.getElem?_eq_getElem (by simp; omega)]
    have hm : j % 4 = 0 ∨ j % 4 = 1 ∨ j % 4 = 2 ∨ j % 4 = 3 := by omega
    simp only [madeCells, Array.getElem_toList, Array.getElem_map, Array.getElem_range]
    rcases hm with h | h | h | h <;> simp [h]
  · rw [List.getElem?_eq_none (by simp [madeCells]; omega), List.getElem?_eq_none (by rw [(key n).1]; omega)]
theorem made_rl (n : Nat) : madeCells (Value.agg #[.int .i64 0, .int .i64 0, .int .i64 0, .int .i64 0]).cells (n * 4) = (rlsC (List.replicate n rl0)).toArray :=
  made_four rlsC rl0 rfl (fun a l => by by_cases h : a = rl0; (left; subst h; rfl); exact .inr h) n
theorem made_sy (n : Nat) : madeCells (Value.agg #[.string ⟨#[]⟩, .int .i64 0, .int .i64 0, .bool false]).cells (n * 4) = (sysC (List.replicate n sy0)).toArray :=
  made_four sysC sy0 rfl (fun a l => by by_cases h : a = sy0; (left; subst h; rfl); exact .inr h) n
set_option maxRecDepth 100000 in
set_option maxHeartbeats 4000000 in
theorem words_any {w : World} {R : Nat} {A : Nat → Addr} {b o c : Nat} {s : RS} (h : RdAt w R A b o c s) (hE : ErrR w A) (hV : NoVar R) (hb : BtB s.l) (n : Nat) (hn : n ≤ 2048) :
    Calls Tryd.prog 91 #[.pointer (some ⟨R, 0, none⟩), .int .i64 n] w (ListAt w R A b 52 (fun l : List Int => l.map (Value.int .u32)) n (manyS wordS n s)) := by
  obtain ⟨i, hi, hz0, hz1, hz2⟩ := info_parts (P := Tryd.prog) (e := 52) (z := .int .u32 0) (size := 1) (bytes := 4) (by kernel_rfl)
  have hmk : (Instr.makeSlice 24 (.int .i64 n) (.int .i64 n)).run Tryd.prog w = .ok (.slice (some ⟨w.heap.size, 0, none⟩) n n) (w.alloc (.cells ((List.replicate n (0 : Int)).map (Value.int .u32)).toArray 52)) := by
    have := run_make (P := Tryd.prog) w 24 52 i _ Tryd.underlying24 hi hz0 .i64 .i64 n n (by omega) (by omega) (by rw [hz2]; omega) (by omega)
    rw [this, hz1]
    simp only [Int.toNat_natCast]
    rw [made_u32 n]
  clear hi hz0 hz1 hz2
  have hal := World.grownBy_alloc w (.cells ((List.replicate n (0 : Int)).map (Value.int .u32)).toArray 52) none
  have HL0 : Hid (∃ o' c', LR w (w.alloc (.cells ((List.replicate n (0 : Int)).map (Value.int .u32)).toArray 52)) w.heap.size 52 ((fun l : List Int => l.map (Value.int .u32)) (part wordS (0 : Int) n 0 s)) R A b o' c' (manyS wordS 0 s).2) := hid ⟨o, c, by
    rw [part_zero]
    exact ⟨RwAt.new w _ _, h.kept0 hal, grown_none hal, Nat.le_refl _, h.box.lt, h.lt⟩⟩
  have HE := hid hE
  have HV := hid hV
  have HB := hid hb
  have n1 : (n : Int) ≤ 9223372036854775807 := by omega
  have n0 : (0 : Int) ≤ (n : Int) := by omega
  clear h hE hV hb hal
  obtain ⟨CS, hCS⟩ : ∃ CS, ((List.replicate n (0 : Int)).map (Value.int .u32)).toArray = CS := ⟨_, rfl⟩
  rw [hCS] at HL0 hmk
  clear hCS
  obtain ⟨K, hK⟩ : ∃ K, w.heap.size = K := ⟨_, rfl⟩
  rw [hK] at HL0 hmk
  go_enter Tryd.func91, Tryd.ntmps91
  go_wp2
  clear hK hmk
  generalize w.alloc (.cells CS 52) = w1 at HL0 ⊢
  go_loopw [6, 11] (fun _ i wr => ∃ k : Nat, k ≤ n ∧ i = .int .i64 k ∧ Hid (∃ o' c', LR w wr K 52 ((fun l : List Int => l.map (Value.int .u32)) (part wordS (0 : Int) n k s)) R A b o' c' (manyS wordS k s).2)) (fun _ i _ => n - (intOf i).toNat)
  case atStart => exact ⟨0, Nat.zero_le _, rfl, HL0⟩
  case round =>
    obtain ⟨k, hk, rfl, HLk⟩ := hrel
    have k0 : (0 : Int) ≤ (k : Int) := by omega
    by_cases hlt : k < n
    · have kn : (k : Int) < (n : Int) := by omega
      obtain ⟨o1, c1, hl⟩ := HLk.out
      have H0 := hid hl
      have Hlt := hid hlt
      clear hl HLk hlt
      have Hbt := hid ((manyS_takes wordS_takes k).bt HB.out)
      have Hx := hid (part_get wordS (0 : Int) s Hlt.out)
      go_wp2_with fail
      refine (word_any H0.out.rd (H0.out.err HE.out HV.out) Hbt.out).mono ?_
      rintro e w2 ⟨o2, c2, rfl, hr, hg⟩
      have H1 := hid (H0.out.call hr hg)
      clear hr hg
      have e0 := H1.out.cell (intsC_get Hx.out)
      have z0 := H1.out.row.free k
      have HZ := hid (H1.out.set k (.int .u32 (wordS (manyS wordS k s).2).1) (cs' := (part wordS (0 : Int) n (k + 1) s).map (Value.int .u32)) (by rw [← part_set wordS (0 : Int) s Hlt.out, List.map_set]))
      obtain ⟨x, hx⟩ : ∃ x, (wordS (manyS wordS k s).2).1 = x := ⟨_, rfl⟩
      rw [hx] at HZ ⊢
      clear hx
      go_wp2
      go_roundw
      case rel => exact ⟨k + 1, by have := Hlt.out; omega, by go_num, hid ⟨_, _, HZ.out⟩⟩
      case measure => simp [intOf]; have := Hlt.out; omega
    · obtain rfl : k = n := by omega
      obtain ⟨o1, c1, hl⟩ := HLk.out
      rw [part_all] at hl
      have HZ := hid hl
      clear hl HLk hlt
      go_wp2
      go_ret
      exact ⟨K, o1, c1, rfl, HZ.out⟩
theorem num_of {w : World} {R : Nat} {A : Nat → Addr} {b o c : Nat} {s : RS} (h : RdAt w R A b o c s) (hE : ErrR w A) (hv : NoVar R) (hb : BtB s.l) (most : Int) {p : Int × RS} (hp : numS most s = p) : Calls Tryd.prog 101 #[.pointer (some ⟨R, 0, none⟩), .int .u32 most] w (NumAt w R A b .i64 p) := by subst hp; exact num_any h hE hv hb most
theorem wrap_sgn {x : Int} (h0 : 0 ≤ x) (h1 : x < 4294967296) : IntKind.i32.wrap x = sgn x := by
  rw [IntKind.wrap_i32]; unfold sgn; split <;> omega
set_option maxRecDepth 100000 in
set_option maxHeartbeats 4000000 in
theorem relocs_any {w : World} {R : Nat} {A : Nat → Addr} {b o c : Nat} {s : RS} (h : RdAt w R A b o c s) (hE : ErrR w A) (hV : NoVar R) (hb : BtB s.l) (n : Nat) (hn : n ≤ 2048) :
    Calls Tryd.prog 92 #[.pointer (some ⟨R, 0, none⟩), .int .i64 n] w (ListAt w R A b 62 (rlsC) n (manyS relS n s)) := by
  obtain ⟨i, hi, hz0, hz1, hz2⟩ := info_parts (P := Tryd.prog) (e := 62) (z := .agg #[.int .i64 0, .int .i64 0, .int .i64 0, .int .i64 0]) (size := 4) (bytes := 32) (by kernel_rfl)
  have hmk : (Instr.makeSlice 26 (.int .i64 n) (.int .i64 n)).run Tryd.prog w = .ok (.slice (some ⟨w.heap.size, 0, none⟩) n n) (w.alloc (.cells (rlsC (List.replicate n rl0)).toArray 62)) := by
    have := run_make (P := Tryd.prog) w 26 62 i _ Tryd.underlying26 hi hz0 .i64 .i64 n n (by omega) (by omega) (by rw [hz2]; omega) (by omega)
    rw [this, hz1]
    simp only [Int.toNat_natCast]
    rw [made_rl n]
  clear hi hz0 hz1 hz2
  have hal := World.grownBy_alloc w (.cells (rlsC (List.replicate n rl0)).toArray 62) none
  have HL0 : Hid (∃ o' c', LR w (w.alloc (.cells (rlsC (List.replicate n rl0)).toArray 62)) w.heap.size 62 ((rlsC) (part relS rl0 n 0 s)) R A b o' c' (manyS relS 0 s).2) := hid ⟨o, c, by
    rw [part_zero]
    exact ⟨RwAt.new w _ _, h.kept0 hal, grown_none hal, Nat.le_refl _, h.box.lt, h.lt⟩⟩
  have HE := hid hE
  have HV := hid hV
  have HB := hid hb
  have n1 : (n : Int) ≤ 9223372036854775807 := by omega
  have n0 : (0 : Int) ≤ (n : Int) := by omega
  clear h hE hV hb hal
  obtain ⟨CS, hCS⟩ : ∃ CS, (rlsC (List.replicate n rl0)).toArray = CS := ⟨_, rfl⟩
  rw [hCS] at HL0 hmk
  clear hCS
  obtain ⟨K, hK⟩ : ∃ K, w.heap.size = K := ⟨_, rfl⟩
  rw [hK] at HL0 hmk
  go_enter Tryd.func92, Tryd.ntmps92
  go_wp2
  clear hK hmk
  generalize w.alloc (.cells CS 62) = w1 at HL0 ⊢
  go_loopw [6, 11] (fun _ i wr => ∃ k : Nat, k ≤ n ∧ i = .int .i64 k ∧ Hid (∃ o' c', LR w wr K 62 ((rlsC) (part relS rl0 n k s)) R A b o' c' (manyS relS k s).2)) (fun _ i _ => n - (intOf i).toNat)
  case atStart => exact ⟨0, Nat.zero_le _, rfl, HL0⟩
  case round =>
    obtain ⟨k, hk, rfl, HLk⟩ := hrel
    have k0 : (0 : Int) ≤ (k : Int) := by omega
    by_cases hlt : k < n
    · have kn : (k : Int) < (n : Int) := by omega
      obtain ⟨o1, c1, hl⟩ := HLk.out
      have H0 := hid hl
      have Hlt := hid hlt
      clear hl HLk hlt
      have Hx := hid (part_get relS rl0 s Hlt.out)
      have Hbt := hid ((manyS_takes relS_takes k).bt HB.out)
      have Hps := hid (part_set relS rl0 s Hlt.out)
      obtain ⟨q, hq⟩ : ∃ q, (manyS relS k s).2 = q := ⟨_, rfl⟩
      rw [hq] at H0 Hbt Hps
      have hsn : (manyS relS (k + 1) s).2 = (relS q).2 := by rw [manyS, hq]
      have Hsn := hid hsn
      clear hq hsn
      obtain ⟨L, hL⟩ : ∃ L, part relS rl0 n k s = L := ⟨_, rfl⟩
      rw [hL] at H0 Hx Hps
      clear hL
      obtain ⟨⟨a, q1⟩, h1⟩ : ∃ p, numS 2147483647 q = p := ⟨_, rfl⟩
      have HP1 := hid h1
      have HB1 : Hid (BtB q1.l) := hid (by have := (numS_takes 2147483647).bt Hbt.out; rwa [h1] at this)
      obtain ⟨⟨kd, q2⟩, h2⟩ : ∃ p, numS 2147483647 q1 = p := ⟨_, rfl⟩
      have HP2 := hid h2
      have HB2 : Hid (BtB q2.l) := hid (by have := (numS_takes 2147483647).bt HB1.out; rwa [h2] at this)
      obtain ⟨⟨sm, q3⟩, h3⟩ : ∃ p, numS 2147483647 q2 = p := ⟨_, rfl⟩
      have HP3 := hid h3
      have HB3 : Hid (BtB q3.l) := hid (by have := (numS_takes 2147483647).bt HB2.out; rwa [h3] at this)
      obtain ⟨⟨x, q4⟩, h4⟩ : ∃ p, wordS q3 = p := ⟨_, rfl⟩
      have HP4 := hid h4
      have hbd := wordS_bd HB3.out
      rw [h4] at hbd
      obtain ⟨y, hy⟩ : ∃ y, sgn x = y := ⟨_, rfl⟩
      have hw1 : IntKind.i32.wrap x = y := by rw [← hy]; exact wrap_sgn hbd.1 hbd.2
      have hw2 : IntKind.i64.wrap y = y := by
        refine wrap_i64_id ?_ ?_
        · rw [← hy]; unfold sgn; have := hbd.1; simp only at this; split <;> omega
        · rw [← hy]; unfold sgn; have := hbd.2; simp only at this; split <;> omega
      have HR : Hid (relS q = (⟨a, kd, sm, y⟩, q4)) := hid (by simp only [relS, relA, h1, h2, h3, h4, hy])
      clear h1 h2 h3 h4 hbd hy
      go_wp2_with fail
      refine (num_of H0.out.rd (H0.out.err HE.out HV.out) HV.out Hbt.out 2147483647 HP1.out).mono ?_
      rintro e w2 ⟨o2, c2, rfl, hr, hg⟩
      have H1 := hid (H0.out.call hr hg)
      clear hr hg
      have e0 := H1.out.cell (k := k * 4 + 0) (v := .int .i64 0) (by rw [rlsC_get _ k 0 ⟨0, 0, 0, 0⟩ Hx.out (by omega)]; rfl)
      have z0 := H1.out.row.free (k * 4 + 0)
      have H2 := hid (H1.out.set (k * 4 + 0) (.int .i64 a) (rlsC_set _ k 0 _ ⟨0, 0, 0, 0⟩ ⟨a, 0, 0, 0⟩ Hx.out (by omega) rfl))
      rw [Nat.add_zero] at e0 z0 H2
      have hx1 : Hid (((L.set k (⟨a, 0, 0, 0⟩ : Rl)))[k]? = some ⟨a, 0, 0, 0⟩) := hid (List.getElem?_set_self (by have := (List.getElem?_eq_some_iff.1 Hx.out).1; exact this))
      go_wp2_with fail
      refine (num_of H2.out.rd (H2.out.err HE.out HV.out) HV.out HB1.out 2147483647 HP2.out).mono ?_
      rintro e w3 ⟨o3, c3, rfl, hr, hg⟩
      have H3 := hid (H2.out.call hr hg)
      clear hr hg
      have e1 := H3.out.cell (k := k * 4 + 1) (v := .int .i64 0) (by rw [rlsC_get _ k 1 ⟨a, 0, 0, 0⟩ hx1.out (by omega)]; rfl)
      have z1 := H3.out.row.free (k * 4 + 1)
      have H4 := hid (H3.out.set (k * 4 + 1) (.int .i64 kd) (rlsC_set _ k 1 _ ⟨a, 0, 0, 0⟩ ⟨a, kd, 0, 0⟩ hx1.out (by omega) rfl))
      have hx2 : Hid ((((L.set k (⟨a, 0, 0, 0⟩ : Rl)).set k (⟨a, kd, 0, 0⟩ : Rl)))[k]? = some ⟨a, kd, 0, 0⟩) := hid (List.getElem?_set_self (by have := (List.getElem?_eq_some_iff.1 hx1.out).1; exact this))
      go_wp2_with fail
      refine (num_of H4.out.rd (H4.out.err HE.out HV.out) HV.out HB2.out 2147483647 HP3.out).mono ?_
      rintro e w4 ⟨o4, c4, rfl, hr, hg⟩
      have H5 := hid (H4.out.call hr hg)
      clear hr hg
      have e2 := H5.out.cell (k := k * 4 + 2) (v := .int .i64 0) (by rw [rlsC_get _ k 2 ⟨a, kd, 0, 0⟩ hx2.out (by omega)]; rfl)
      have z2 := H5.out.row.free (k * 4 + 2)
      have H6 := hid (H5.out.set (k * 4 + 2) (.int .i64 sm) (rlsC_set _ k 2 _ ⟨a, kd, 0, 0⟩ ⟨a, kd, sm, 0⟩ hx2.out (by omega) rfl))
      have hx3 : Hid (((((L.set k (⟨a, 0, 0, 0⟩ : Rl)).set k (⟨a, kd, 0, 0⟩ : Rl)).set k (⟨a, kd, sm, 0⟩ : Rl)))[k]? = some ⟨a, kd, sm, 0⟩) := hid (List.getElem?_set_self (by have := (List.getElem?_eq_some_iff.1 hx2.out).1; exact this))
      go_wp2_with fail
      refine (word_of H6.out.rd (H6.out.err HE.out HV.out) HB3.out HP4.out).mono ?_
      rintro e w3 ⟨o5, c5, rfl, hr, hg⟩
      have H7 := hid (H6.out.call hr hg)
      clear hr hg
      have e3 := H7.out.cell (k := k * 4 + 3) (v := .int .i64 0) (by rw [rlsC_get _ k 3 ⟨a, kd, sm, 0⟩ hx3.out (by omega)]; rfl)
      have z3 := H7.out.row.free (k * 4 + 3)
      have H8 := hid (H7.out.set (k * 4 + 3) (.int .i64 y) (rlsC_set _ k 3 _ ⟨a, kd, sm, 0⟩ ⟨a, kd, sm, y⟩ hx3.out (by omega) rfl))
      have HZ : Hid (LR w _ K _ _ R A b _ _ _) := H8
      rw [List.set_set, List.set_set, List.set_set] at HZ
      have hps := Hps.out
      rw [HR.out] at hps
      rw [show L.set k ⟨a, kd, sm, y⟩ = part relS rl0 n (k + 1) s from hps] at HZ
      have hsn := Hsn.out
      rw [HR.out] at hsn
      rw [← show (manyS relS (k + 1) s).2 = q4 from hsn] at HZ
      clear hps hsn
      go_wp2
      go_roundw
      case rel => exact ⟨k + 1, by have := Hlt.out; omega, by go_num, hid ⟨_, _, HZ.out⟩⟩
      case measure => simp [intOf]; have := Hlt.out; omega
    · obtain rfl : k = n := by omega
      obtain ⟨o1, c1, hl⟩ := HLk.out
      rw [part_all] at hl
      have HZ := hid hl
      clear hl HLk hlt
      go_wp2
      go_ret
      exact ⟨K, o1, c1, rfl, HZ.out⟩
set_option maxRecDepth 100000 in
set_option maxHeartbeats 4000000 in
theorem syms_any {w : World} {R : Nat} {A : Nat → Addr} {b o c : Nat} {s : RS} (h : RdAt w R A b o c s) (hE : ErrR w A) (hV : NoVar R) (hb : BtB s.l) (n : Nat) (hn : n ≤ 2048) :
    Calls Tryd.prog 93 #[.pointer (some ⟨R, 0, none⟩), .int .i64 n] w (ListAt w R A b 32 (sysC) n (manyS symS n s)) := by
  obtain ⟨i, hi, hz0, hz1, hz2⟩ := info_parts (P := Tryd.prog) (e := 32) (z := .agg #[.string ⟨#[]⟩, .int .i64 0, .int .i64 0, .bool false]) (size := 4) (bytes := 40) (by kernel_rfl)
  have hmk : (Instr.makeSlice 27 (.int .i64 n) (.int .i64 n)).run Tryd.prog w = .ok (.slice (some ⟨w.heap.size, 0, none⟩) n n) (w.alloc (.cells (sysC (List.replicate n sy0)).toArray 32)) := by
    have := run_make (P := Tryd.prog) w 27 32 i _ Tryd.underlying27 hi hz0 .i64 .i64 n n (by omega) (by omega) (by rw [hz2]; omega) (by omega)
    rw [this, hz1]
    simp only [Int.toNat_natCast]
    rw [made_sy n]
  clear hi hz0 hz1 hz2
  have hal := World.grownBy_alloc w (.cells (sysC (List.replicate n sy0)).toArray 32) none
  have HL0 : Hid (∃ o' c', LR w (w.alloc (.cells (sysC (List.replicate n sy0)).toArray 32)) w.heap.size 32 ((sysC) (part symS sy0 n 0 s)) R A b o' c' (manyS symS 0 s).2) := hid ⟨o, c, by
    rw [part_zero]
    exact ⟨RwAt.new w _ _, h.kept0 hal, grown_none hal, Nat.le_refl _, h.box.lt, h.lt⟩⟩
  have HE := hid hE
  have HV := hid hV
  have HB := hid hb
  have n1 : (n : Int) ≤ 9223372036854775807 := by omega
  have n0 : (0 : Int) ≤ (n : Int) := by omega
  clear h hE hV hb hal
  obtain ⟨CS, hCS⟩ : ∃ CS, (sysC (List.replicate n sy0)).toArray = CS := ⟨_, rfl⟩
  rw [hCS] at HL0 hmk
  clear hCS
  obtain ⟨K, hK⟩ : ∃ K, w.heap.size = K := ⟨_, rfl⟩
  rw [hK] at HL0 hmk
  go_enter Tryd.func93, Tryd.ntmps93
  go_wp2
  clear hK hmk
  generalize w.alloc (.cells CS 32) = w1 at HL0 ⊢
  go_loopw [6, 11] (fun _ i wr => ∃ k : Nat, k ≤ n ∧ i = .int .i64 k ∧ Hid (∃ o' c', LR w wr K 32 ((sysC) (part symS sy0 n k s)) R A b o' c' (manyS symS k s).2)) (fun _ i _ => n - (intOf i).toNat)
  case atStart => exact ⟨0, Nat.zero_le _, rfl, HL0⟩
  case round =>
    obtain ⟨k, hk, rfl, HLk⟩ := hrel
    have k0 : (0 : Int) ≤ (k : Int) := by omega
    by_cases hlt : k < n
    · have kn : (k : Int) < (n : Int) := by omega
      obtain ⟨o1, c1, hl⟩ := HLk.out
      have H0 := hid hl
      have Hlt := hid hlt
      clear hl HLk hlt
      have Hx := hid (part_get symS sy0 s Hlt.out)
      have Hbt := hid ((manyS_takes symS_takes k).bt HB.out)
      have Hps := hid (part_set symS sy0 s Hlt.out)
      obtain ⟨q, hq⟩ : ∃ q, (manyS symS k s).2 = q := ⟨_, rfl⟩
      rw [hq] at H0 Hbt Hps
      have hsn : (manyS symS (k + 1) s).2 = (symS q).2 := by rw [manyS, hq]
      have Hsn := hid hsn
      clear hq hsn
      obtain ⟨L, hL⟩ : ∃ L, part symS sy0 n k s = L := ⟨_, rfl⟩
      rw [hL] at H0 Hx Hps
      clear hL
      obtain ⟨⟨a, q1⟩, h1⟩ : ∃ p, numS 2147483647 q = p := ⟨_, rfl⟩
      have HP1 := hid h1
      have HB1 : Hid (BtB q1.l) := hid (by have := (numS_takes 2147483647).bt Hbt.out; rwa [h1] at this)
      obtain ⟨⟨kd, q2⟩, h2⟩ : ∃ p, numS 2147483647 q1 = p := ⟨_, rfl⟩
      have HP2 := hid h2
      have HB2 : Hid (BtB q2.l) := hid (by have := (numS_takes 2147483647).bt HB1.out; rwa [h2] at this)
      obtain ⟨⟨gi, q3⟩, h3⟩ : ∃ p, numS 1 q2 = p := ⟨_, rfl⟩
      have HP3 := hid h3
      have HB3 : Hid (BtB q3.l) := hid (by have := (numS_takes 1).bt HB2.out; rwa [h3] at this)
      obtain ⟨⟨tz, q4⟩, h4⟩ : ∃ p, numS 32 q3 = p := ⟨_, rfl⟩
      have HP4 := hid h4
      have htz := numS_bd (most := 32) (by omega) HB3.out
      rw [h4] at htz
      obtain ⟨tn, htn⟩ : ∃ tn : Nat, tz = (tn : Int) := ⟨tz.toNat, by have := htz.1; simp only at this; omega⟩
      subst htn
      obtain ⟨⟨l, q5⟩, h5⟩ : ∃ p, takeS tn q4 = p := ⟨_, rfl⟩
      have HP5 := hid h5
      obtain ⟨g, hg0⟩ : ∃ g, (gi == 1) = g := ⟨_, rfl⟩
      have hgd : decide (gi = 1) = g := by rw [← hg0, Bool.eq_iff_iff]; simp
      obtain ⟨nm, hnm⟩ : ∃ nm, strO l = nm := ⟨_, rfl⟩
      have Hnm := hid hnm
      have HR : Hid (symS q = (⟨nm, a, kd, g⟩, q5)) := hid (by simp only [symS, symT, relA, h1, h2, h3, h4, Int.toNat_natCast, h5, hnm, hgd])
      clear h1 h2 h3 h4 h5 htz hgd hnm
      go_wp2_with fail
      refine (num_of H0.out.rd (H0.out.err HE.out HV.out) HV.out Hbt.out 2147483647 HP1.out).mono ?_
      rintro e w2 ⟨o2, c2, rfl, hr, hg⟩
      have H1 := hid (H0.out.call hr hg)
      clear hr hg
      have e1 := H1.out.cell (k := k * 4 + 1) (v := .int .i64 0) (by rw [sysC_get _ k 1 ⟨⟨#[]⟩, 0, 0, false⟩ Hx.out (by omega)]; rfl)
      have z1 := H1.out.row.free (k * 4 + 1)
      have H2 := hid (H1.out.set (k * 4 + 1) (.int .i64 a) (sysC_set _ k 1 _ ⟨⟨#[]⟩, 0, 0, false⟩ ⟨⟨#[]⟩, a, 0, false⟩ Hx.out (by omega) rfl))
      have hx1 : Hid (((L.set k (⟨⟨#[]⟩, a, 0, false⟩ : Sy)))[k]? = some ⟨⟨#[]⟩, a, 0, false⟩) := hid (List.getElem?_set_self (by have := (List.getElem?_eq_some_iff.1 Hx.out).1; exact this))
      go_wp2_with fail
      refine (num_of H2.out.rd (H2.out.err HE.out HV.out) HV.out HB1.out 2147483647 HP2.out).mono ?_
      rintro e w3 ⟨o3, c3, rfl, hr, hg⟩
      have H3 := hid (H2.out.call hr hg)
      clear hr hg
      have e2 := H3.out.cell (k := k * 4 + 2) (v := .int .i64 0) (by rw [sysC_get _ k 2 ⟨⟨#[]⟩, a, 0, false⟩ hx1.out (by omega)]; rfl)
      have z2 := H3.out.row.free (k * 4 + 2)
      have H4 := hid (H3.out.set (k * 4 + 2) (.int .i64 kd) (sysC_set _ k 2 _ ⟨⟨#[]⟩, a, 0, false⟩ ⟨⟨#[]⟩, a, kd, false⟩ hx1.out (by omega) rfl))
      have hx2 : Hid ((((L.set k (⟨⟨#[]⟩, a, 0, false⟩ : Sy)).set k (⟨⟨#[]⟩, a, kd, false⟩ : Sy)))[k]? = some ⟨⟨#[]⟩, a, kd, false⟩) := hid (List.getElem?_set_self (by have := (List.getElem?_eq_some_iff.1 hx1.out).1; exact this))
      go_wp2_with fail
      refine (num_of H4.out.rd (H4.out.err HE.out HV.out) HV.out HB2.out 1 HP3.out).mono ?_
      rintro e w4 ⟨o4, c4, rfl, hr, hg⟩
      have H5 := hid (H4.out.call hr hg)
      clear hr hg
      have e3 := H5.out.cell (k := k * 4 + 3) (v := .bool false) (by rw [sysC_get _ k 3 ⟨⟨#[]⟩, a, kd, false⟩ hx2.out (by omega)]; rfl)
      have z3 := H5.out.row.free (k * 4 + 3)
      have H6 := hid (H5.out.set (k * 4 + 3) (.bool g) (sysC_set _ k 3 _ ⟨⟨#[]⟩, a, kd, false⟩ ⟨⟨#[]⟩, a, kd, g⟩ hx2.out (by omega) rfl))
      have hx3 : Hid (((((L.set k (⟨⟨#[]⟩, a, 0, false⟩ : Sy)).set k (⟨⟨#[]⟩, a, kd, false⟩ : Sy)).set k (⟨⟨#[]⟩, a, kd, g⟩ : Sy)))[k]? = some ⟨⟨#[]⟩, a, kd, g⟩) := hid (List.getElem?_set_self (by have := (List.getElem?_eq_some_iff.1 hx2.out).1; exact this))
      go_wp2_with fail
      refine (num_of H6.out.rd (H6.out.err HE.out HV.out) HV.out HB3.out 32 HP4.out).mono ?_
      rintro e w8 ⟨o8, c8, rfl, hr, hg⟩
      have HN := hid (H6.out.call hr hg)
      clear hr hg
      go_wp2_with fail
      refine (take_any HN.out.rd (HN.out.err HE.out HV.out) tn).mono ?_
      rintro e w9 ⟨o9, c9, v, rfl, hr, htk, hg⟩
      rw [HP5.out] at hr htk
      have H7 := hid (HN.out.call hr hg)
      have hcv : (convert 25 9 v).run Tryd.prog w9 = .ok (.string nm) w9 := by
        rw [← Hnm.out]
        rcases htk with ⟨rfl, hl0⟩ | ⟨ot, ct, rfl, _, _, _, hc⟩
        · simp only at hl0
          rw [hl0, run_convert_bytes_string w9 _ _ 5 none 0 0 Tryd.underlying25 Tryd.underlying5 Tryd.underlying9]
          simp [Conv.bytesToString, strO]
          rfl
        · exact run_convert_bytes_arg w9 _ 5 Tryd.underlying25 Tryd.underlying5 b ot l.length ct l rfl (fun i hi => by rw [hc i _ (List.getElem?_eq_getElem hi)]; rw [List.getD_eq_getElem?_getD, List.getElem?_eq_getElem hi]; rfl) _ Tryd.underlying9
      clear hr hg htk
      have e0 := H7.out.cell (k := k * 4 + 0) (v := .string ⟨#[]⟩) (by rw [sysC_get _ k 0 ⟨⟨#[]⟩, a, kd, g⟩ hx3.out (by omega)]; rfl)
      have z0 := H7.out.row.free (k * 4 + 0)
      have H8 := hid (H7.out.set (k * 4 + 0) (.string nm) (sysC_set _ k 0 _ ⟨⟨#[]⟩, a, kd, g⟩ ⟨nm, a, kd, g⟩ hx3.out (by omega) rfl))
      rw [Nat.add_zero] at e0 z0 H8
      have HZ : Hid (LR w _ K _ _ R A b _ _ _) := H8
      rw [List.set_set, List.set_set, List.set_set] at HZ
      have hps := Hps.out
      rw [HR.out] at hps
      rw [show L.set k ⟨nm, a, kd, g⟩ = part symS sy0 n (k + 1) s from hps] at HZ
      have hsn := Hsn.out
      rw [HR.out] at hsn
      rw [← show (manyS symS (k + 1) s).2 = q5 from hsn] at HZ
      clear hps hsn
      go_wp2
      go_roundw
      case rel => exact ⟨k + 1, by have := Hlt.out; omega, by go_num, hid ⟨_, _, HZ.out⟩⟩
      case measure => simp [intOf]; have := Hlt.out; omega
    · obtain rfl : k = n := by omega
      obtain ⟨o1, c1, hl⟩ := HLk.out
      rw [part_all] at hl
      have HZ := hid hl
      clear hl HLk hlt
      go_wp2
      go_ret
      exact ⟨K, o1, c1, rfl, HZ.out⟩
end Go.Proofs.YtfkecmcnhmlnoaaDoor
