/- Registers as values; a step (package alu): what is known of it in a world; how that is carried on. -/
import Derived.Test.YtpkgckjlhjcdmaaDoorZGMem
import Derived.WalkKit
import Derived.WalkSpells
import Derived.WalkLawsBesides
import Derived.Handy
import Derived.RegionTactic
import Derived.Deep.QuietTactic
import Derived.Deep.WholeRow
import Derived.Deep.Draws
import Derived.BigQuiet
import Derived.IntWalk
import Derived.Outline
import Derived.Laws.AppendOwn
import Derived.LoopTactic
import Derived.Deep.AppendLies
import Derived.Laws.BitsLemmas
import Derived.Lib.SmallJoins
import Derived.OpenShut
import Derived.ChangeArms
namespace Go.Proofs.YtpkgckjlhjcdmaaDoor
open Go.RowKit
theorem grown_setRow {w w1 : World} (h : w.grownBy w1 none) {B : Nat} (hB : w.heap.size ≤ B) (cs : Array Value) : w.grownBy (w1.setRow B cs) none :=
  ⟨h.os, h.tape, h.output, by have := h.size; simpa [World.setRow] using this, fun i hi hr => (setRow_other w1 B i cs (by omega)).trans (h.block i hi hr)⟩
/-! ### registers -/
theorem regs_info : (Tryd.prog.info? 67).map (·.size) = some 16 := by kernel_rfl
theorem regs_len_info (l : List Int) (h : l.length = 16) : (Tryd.prog.info? 67).map (·.size) = some (wA l).size := by rw [regs_info, wA_size, h]
/-- sixteen words -/
structure Regs (l : List Int) : Prop where
  len : l.length = 16
  bd : ∀ x ∈ l, 0 ≤ x ∧ x < 4294967296
/-- the word of a register -/
def regI (l : List Int) (k : Int) : Int := l.getD k.toNat 0
section
variable {l : List Int}
theorem Regs.info (h : Regs l) : (Tryd.prog.info? 67).map (·.size) = some (wA l).size := by rw [regs_info, wA_size, h.len]
theorem Regs.set (h : Regs l) (k : Nat) {x : Int} (h0 : 0 ≤ x) (h1 : x < 4294967296) : Regs (l.set k x) :=
  ⟨by rw [List.length_set]; exact h.len, fun y hy => by
    rcases List.mem_or_eq_of_mem_set hy with h2 | rfl
    · exact h.bd y h2
    · exact ⟨h0, h1⟩⟩
theorem Regs.get (h : Regs l) {k : Int} (h0 : 0 ≤ k) (h1 : k < 16) : l[k.toNat]? = some (regI l k) := by
  have : k.toNat < l.length := by rw [h.len]; omega
  unfold regI
  rw [List.getD_eq_getElem?_getD, List.getElem?_eq_getElem this]; rfl
theorem Regs.reg (h : Regs l) (k : Int) : 0 ≤ regI l k ∧ regI l k < 4294967296 := by
  unfold regI
  rw [List.getD_eq_getElem?_getD]
  cases e : l[k.toNat]? with
  | none => simp
  | some x => exact h.bd x (List.mem_of_getElem? e)
end
theorem zeros_regs : Regs (List.replicate 16 0) := ⟨by simp, fun x hx => by have := List.eq_of_mem_replicate hx; omega⟩
/-- the registers lie in a block -/
def RegAt (w : World) (B : Nat) (l : List Int) : Prop := w.heap[B]? = some (.cells (wA l) 67 (0, 0))
theorem RegAt.lt {w : World} {B : Nat} {l : List Int} (h : RegAt w B l) : B < w.heap.size := (Array.getElem?_eq_some_iff.1 h).1
theorem RegAt.kept {w w1 : World} {B : Nat} {l : List Int} {r : Option Nat} (h : RegAt w B l) (hg : w.grownBy w1 r) (hr : some B ≠ r) : RegAt w1 B l := (hg.block _ h.lt hr).trans h
theorem RegAt.kept0 {w w1 : World} {B : Nat} {l : List Int} (h : RegAt w B l) (hg : w.grownBy w1 none) : RegAt w1 B l := h.kept hg (by simp)
theorem RegAt.new (w : World) (l : List Int) : RegAt (w.alloc (.cells (wA l) 67)) w.heap.size l := heap_alloc_last w _
theorem RegAt.cell {w : World} {B : Nat} {l : List Int} (h : RegAt w B l) {k : Nat} {x : Int} (hx : l[k]? = some x) : w.cell? ⟨B, k, none⟩ = some (.int .u32 x) := by
  rw [cell_of_row w B k _ _ _ h, wA_get, hx]; rfl
theorem RegAt.free {w : World} {B : Nat} {l : List Int} (h : RegAt w B l) (k : Nat) : w.frozen? ⟨B, k, none⟩ = false := frozen_of_row w B k _ _ h
theorem RegAt.set {w : World} {B : Nat} {l : List Int} (h : RegAt w B l) (k : Nat) (x : Int) : RegAt (w.setCell ⟨B, k, none⟩ (.int .u32 x)) B (l.set k x) := by
  unfold RegAt at h ⊢
  rw [heap_setCell_same w B k _ _ _ h, wA_set]
/-! ### a step -/
section
variable {w w1 : World} {B : Nat} {op a b c imm : Int} {l : List Int}
end
end Go.Proofs.YtpkgckjlhjcdmaaDoor
/- Registers compared (facaderef.SameRegs): a contract. -/
namespace Go.Proofs.YtpkgckjlhjcdmaaDoor
open Go.RowKit
set_option maxHeartbeats 1000000 in
theorem same_regs {l k : List Int} (hl : Regs l) (hk : Regs k) (r : Bool) (hr : decide (l = k) = r) (W : World) :
    Calls Tryd.prog 55 #[.agg (wA l), .agg (wA k)] W fun e w' => e = .returned (.bool r) ∧ W.grownBy w' none := by
  have Hl := hid hl
  have Hk := hid hk
  have Hr := hid hr
  clear hl hk hr
  have HA : Hid (RegAt ((W.alloc (.cells (wA l) 67)).alloc (.cells (wA k) 67)) W.heap.size l) := hid ((heap_alloc_old _ _ (by simp)).trans (heap_alloc_last W _))
  have HB : Hid (RegAt ((W.alloc (.cells (wA l) 67)).alloc (.cells (wA k) 67)) (W.heap.size + 1) k) := hid (heap_alloc2_new W _ _)
  go_enter Tryd.func55, Tryd.ntmps55
  go_wp2
  go_loopw [5] (fun i wr => ∃ j : Nat, j ≤ 16 ∧ i = .int .i64 j ∧ Hid (l.take j = k.take j) ∧ Hid (((W.alloc (.cells (wA l) 67)).alloc (.cells (wA k) 67)).grownBy wr none)) (fun i _ => 16 - (intOf i).toNat)
  case atStart => exact ⟨0, Nat.zero_le _, rfl, hid (by simp), hid (grown_refl _ _)⟩
  case round =>
    obtain ⟨j, hj, rfl, Hj, Hg⟩ := hrel
    by_cases hlt : j < 16
    · obtain ⟨x, Hx⟩ : ∃ x, Hid (l[j]? = some x) := ⟨_, hid (List.getElem?_eq_getElem (by rw [Hl.out.len]; exact hlt))⟩
      obtain ⟨y, Hy⟩ : ∃ y, Hid (k[j]? = some y) := ⟨_, hid (List.getElem?_eq_getElem (by rw [Hk.out.len]; exact hlt))⟩
      have cx := (HA.out.kept0 Hg.out).cell Hx.out
      have cy := (HB.out.kept0 Hg.out).cell Hy.out
      have hk0 : (0 : Int) ≤ (j : Int) := by omega
      have hk1 : (j : Int) < 16 := by omega
      by_cases hxy : x = y
      · subst hxy
        go_wp2
        go_quiet (fail)
        go_wp2
        go_roundw
        case rel =>
          refine ⟨j + 1, by omega, by go_num, hid ?_, hid (grown_drewN Hg.out _)⟩
          rw [List.take_add_one, List.take_add_one, Hj.out, Hx.out, Hy.out]
        case measure => simp [intOf]; omega
      · have hxy2 : (x == y) = false := by simpa using hxy
        go_wp2
        go_quiet (fail)
        go_wp2
        go_ret
        refine ⟨ret_b ?_, grown_drewN (grown_trans (grown_alloc (grown_alloc (grown_refl _ _) _) _) Hg.out) _⟩
        rw [← Hr.out, eq_comm, decide_eq_false_iff_not]
        intro e
        subst e
        have := Hx.out.symm.trans Hy.out
        exact hxy (Option.some.inj this)
    · have hj16 : j = 16 := by omega
      subst hj16
      go_wp2
      go_ret
      refine ⟨ret_b ?_, grown_trans (grown_alloc (grown_alloc (grown_refl _ _) _) _) Hg.out⟩
      rw [← Hr.out, eq_comm, decide_eq_true_eq]
      have := Hj.out
      rw [List.take_of_length_le (by rw [Hl.out.len]; omega), List.take_of_length_le (by rw [Hk.out.len]; omega)] at this
      exact this
end Go.Proofs.YtpkgckjlhjcdmaaDoor
/- Devices (package dev): what is known of them in a world; how that is carried on. -/
namespace Go.Proofs.YtpkgckjlhjcdmaaDoor
open Go.RowKit
/-! ### what a step leaves alone, but for some blocks -/
structure Lv (w w' : World) (R : List Nat) : Prop where
  os : w'.os = w.os
  tape : w'.tape = w.tape
  output : w'.output = w.output
  size : w.heap.size ≤ w'.heap.size
  block : ∀ k, k < w.heap.size → k ∉ R → w'.heap[k]? = w.heap[k]?
section
variable {w w0 w1 w2 : World} {R R' : List Nat}
theorem Lv.refl (w : World) (R : List Nat) : Lv w w R := ⟨rfl, rfl, rfl, Nat.le_refl _, fun _ _ _ => rfl⟩
theorem Lv.trans (h : Lv w w1 R) (k : Lv w1 w2 R) : Lv w w2 R :=
  ⟨k.os.trans h.os, k.tape.trans h.tape, k.output.trans h.output, Nat.le_trans h.size k.size, fun i hi hr => (k.block i (Nat.lt_of_lt_of_le hi h.size) hr).trans (h.block i hi hr)⟩
theorem Lv.mono (h : Lv w w1 R) (k : ∀ i ∈ R, i ∈ R') : Lv w w1 R' := ⟨h.os, h.tape, h.output, h.size, fun i hi hr => h.block i hi (fun e => hr (k i e))⟩
theorem Lv.of_none (h : w.grownBy w1 none) (R : List Nat) : Lv w w1 R := ⟨h.os, h.tape, h.output, h.size, fun i hi _ => h.block i hi (by simp)⟩
theorem Lv.of_row {r : Option Nat} (h : w.grownBy w1 r) : Lv w w1 r.toList := ⟨h.os, h.tape, h.output, h.size, fun i hi hr => h.block i hi (fun e => hr (by subst e; simp))⟩
theorem Lv.old (h : Lv w w1 R) (hR : ∀ i ∈ R, w.heap.size ≤ i) : w.grownBy w1 none :=
  ⟨h.os, h.tape, h.output, h.size, fun i hi _ => h.block i hi (fun e => by have := hR i e; omega)⟩
theorem Lv.after (h0 : w0.grownBy w none) (h : Lv w w1 R) (hR : ∀ i ∈ R, w0.heap.size ≤ i) : w0.grownBy w1 none :=
  ⟨h.os.trans h0.os, h.tape.trans h0.tape, h.output.trans h0.output, Nat.le_trans h0.size h.size, fun i hi _ => (h.block i (Nat.lt_of_lt_of_le hi h0.size) (fun e => by have := hR i e; omega)).trans (h0.block i hi (by simp))⟩
theorem Lv.cell (h : Lv w w1 R) {p : Addr} (hp : p.block < w.heap.size) (hr : p.block ∉ R) : w1.cell? p = w.cell? p := World.cell?_of_block (h.block _ hp hr)
theorem Lv.drew (h : Lv w w1 R) : Lv w w1.drew R := ⟨h.os, h.tape, h.output, h.size, h.block⟩
theorem Lv.drewN (h : Lv w w1 R) (n : Nat) : Lv w (w1.drewN n) R := ⟨h.os, h.tape, h.output, h.size, h.block⟩
theorem Lv.alloc (h : Lv w w1 R) (o : Obj) : Lv w (w1.alloc o) R := h.trans (Lv.of_none (World.grownBy_alloc _ _ _) _)
theorem Lv.set (h : Lv w w1 R) {b : Nat} (hb : b ∈ R) (k : Nat) (v : Value) : Lv w (w1.setCell ⟨b, k, none⟩ v) R :=
  h.trans ⟨rfl, rfl, rfl, by simp, fun i _ hi => heap_setCell_other _ _ _ _ (fun e => hi (by rw [e]; exact hb))⟩
theorem own_keptL {B : Nat} {e : TypeId} {size : Nat} {v : Value} {n : Nat} {l : List Value} (h : w.ownsRow B e size v n l) (hg : Lv w w1 R) (hr : ∀ g, v.ownBlock = some g → g ∉ R) : w1.ownsRow B e size v n l := by
  refine ⟨h.1, ?_⟩
  rcases h.2 with hn | ⟨g, cap, cur, rfl, hb, hgg, rest⟩
  · exact .inl hn
  · refine .inr ⟨g, cap, cur, rfl, hb, ?_, rest⟩
    rw [hg.block g (Array.getElem?_eq_some_iff.1 hgg).1 (hr g rfl)]
    exact hgg
theorem own_base {B B' : Nat} {e : TypeId} {size : Nat} {v : Value} {n : Nat} {l : List Value} (h : w.ownsRow B' e size v n l) (hB : B ≤ B') : w.ownsRow B e size v n l := by
  refine ⟨h.1, ?_⟩
  rcases h.2 with hn | ⟨g, cap, cur, rfl, hb, rest⟩
  · exact .inl hn
  · exact .inr ⟨g, cap, cur, rfl, Nat.le_trans hB hb, rest⟩
end
theorem wrap_i64_id {n : Int} (h0 : -9223372036854775808 ≤ n) (h1 : n ≤ 9223372036854775807) : IntKind.i64.wrap n = n := by
  rw [IntKind.wrap_i64]; omega
/-! ### what is seen -/
abbrev Sn := Int × Int × Int
def snCells : List Sn → List Value
  | [] => []
  | s :: r => .int .i64 s.1 :: .int .u32 s.2.1 :: .int .u32 s.2.2 :: snCells r
theorem snCells_length : ∀ l : List Sn, (snCells l).length = l.length * 3
  | [] => rfl
  | s :: r => by simp only [snCells, List.length_cons, snCells_length r]; omega
theorem snCells_append : ∀ l m : List Sn, snCells (l ++ m) = snCells l ++ snCells m
  | [], _ => rfl
  | s :: r, m => by simp only [List.cons_append, snCells, snCells_append r m]
theorem snCells_get : ∀ (l : List Sn) (k : Nat) (s : Sn), l[k]? = some s → (snCells l)[k * 3]? = some (.int .i64 s.1) ∧ (snCells l)[k * 3 + 1]? = some (.int .u32 s.2.1) ∧ (snCells l)[k * 3 + 2]? = some (.int .u32 s.2.2)
  | [], _, _, h => by simp at h
  | x :: r, 0, s, h => by
    obtain rfl : x = s := by simpa using h
    exact ⟨rfl, rfl, rfl⟩
  | x :: r, k + 1, s, h => by
    have := snCells_get r k s (by simpa using h)
    rw [show (k + 1) * 3 = k * 3 + 3 by omega]
    exact this
theorem snCells_one (l : List Sn) : ∀ v ∈ snCells l, v.oneCell' = true := by
  induction l with
  | nil => simp [snCells]
  | cons s r ih =>
    intro v hv
    simp only [snCells, List.mem_cons] at hv
    rcases hv with rfl | rfl | rfl | hv
    · rfl
    · rfl
    · rfl
    · exact ih v hv
/-- the slice value v reads as what is seen -/
def SnAt (w : World) (v : Value) (l : List Sn) : Prop :=
  ((∃ p c, v = .slice p 0 c) ∧ l = []) ∨
  ∃ b c, v = .slice (some ⟨b, 0, none⟩) l.length c ∧ b < w.heap.size ∧ ∀ j u, (snCells l)[j]? = some u → w.cell? ⟨b, j, none⟩ = some u
theorem SnAt.keptL {w w1 : World} {v : Value} {l : List Sn} {R : List Nat} (h : SnAt w v l) (hg : Lv w w1 R) (hr : ∀ g, v.ownBlock = some g → g ∉ R) : SnAt w1 v l := by
  rcases h with h | ⟨b, c, rfl, hb, hc⟩
  · exact .inl h
  · refine .inr ⟨b, c, rfl, Nat.lt_of_lt_of_le hb hg.size, fun j x hx => ?_⟩
    rw [hg.cell hb (hr b rfl)]
    exact hc j x hx
theorem SnAt.kept0 {w w1 : World} {v : Value} {l : List Sn} (h : SnAt w v l) (hg : w.grownBy w1 none) : SnAt w1 v l := h.keptL (Lv.of_none hg []) (by simp)
theorem SnAt.own {w : World} {B : Nat} {t : TypeId} {v : Value} {l : List Sn} (h : w.ownsRow B t 3 v l.length (snCells l)) : SnAt w v l := by
  obtain ⟨hl, h⟩ := h
  rcases h with ⟨rfl, h0⟩ | ⟨g, cap, cur, rfl, _, hg, _, _, _, ht⟩
  · exact .inl ⟨⟨_, _, rfl⟩, List.eq_nil_of_length_eq_zero h0⟩
  · refine .inr ⟨g, cap, rfl, (Array.getElem?_eq_some_iff.1 hg).1, fun j u hu => ?_⟩
    rw [cell_of_row w g _ _ t _ hg]
    have := congrArg (·[j]?) ht
    simp only [List.getElem?_take, hu] at this
    have hj : j < (snCells l).length := (List.getElem?_eq_some_iff.1 hu).1
    rw [hl] at hj
    rw [if_pos hj] at this
    simpa using this
theorem SnAt.len {w : World} {v : Value} {l : List Sn} (h : SnAt w v l) : ∃ p c, v = .slice p l.length c := by
  rcases h with ⟨⟨p, c, rfl⟩, rfl⟩ | ⟨b, c, rfl, _⟩
  · exact ⟨_, _, rfl⟩
  · exact ⟨_, _, rfl⟩
/-! ### devices -/
structure DvS where
  Q : List Int
  S : List Int
  fr : Int
  af : Int
  sn : List Sn
structure DevIs (cur : Array Value) (f : Nat) (x : DvS) (v : Value) : Prop where
  size : cur.size = 85
  one : ∀ (k : Nat) (u : Value), cur[k]? = some u → u.oneCell' = true
  f64 : f < 64
  first : cur[64]? = some (.int .i64 f)
  ring : ∀ (j : Nat) (y : Int), x.Q[j]? = some y → cur[(f + j) % 64]? = some (.int .u32 y)
  count : cur[65]? = some (.int .i64 x.Q.length)
  q64 : x.Q.length ≤ 64
  sec : ∀ (k : Nat) (y : Int), x.S[k]? = some y → cur[66 + k]? = some (.int .u32 y)
  s16 : x.S.length = 16
  frm : cur[82]? = some (.int .i64 x.fr)
  aft : cur[83]? = some (.int .u32 x.af)
  seen : cur[84]? = some v
theorem set_ne {cur : Array Value} {k j : Nat} (u : Value) (h : k ≠ j) : (cur.setIfInBounds k u)[j]? = cur[j]? := by
  rw [Array.getElem?_setIfInBounds, if_neg h]
theorem set_eq {cur : Array Value} {k : Nat} (u : Value) (h : k < cur.size) : (cur.setIfInBounds k u)[k]? = some u := by
  rw [Array.getElem?_setIfInBounds, if_pos rfl, if_pos h]
theorem set_one {cur : Array Value} (h : ∀ (k : Nat) (u : Value), cur[k]? = some u → u.oneCell' = true) (k : Nat) {v : Value} (hv : v.oneCell' = true) : ∀ (j : Nat) (u : Value), (cur.setIfInBounds k v)[j]? = some u → u.oneCell' = true := by
  intro j u hu
  rw [Array.getElem?_setIfInBounds] at hu
  split at hu
  · split at hu
    · obtain rfl := Option.some.inj hu; exact hv
    · cases hu
  · exact h j u hu
section
variable {cur : Array Value} {f : Nat} {x : DvS} {v : Value}
theorem DevIs.push (h : DevIs cur f x v) (hq : x.Q.length < 64) (key : Int) :
    DevIs ((cur.setIfInBounds ((f + x.Q.length) % 64) (.int .u32 key)).setIfInBounds 65 (.int .i64 (x.Q.length + 1 : Nat))) f { x with Q := x.Q ++ [key] } v := by
  have hs := h.size
  have hf := h.f64
  refine ⟨by simp [hs], set_one (set_one h.one _ rfl) _ rfl, h.f64, ?_, ?_, ?_, by simp; omega, ?_, h.s16, ?_, ?_, ?_⟩
  · rw [set_ne _ (by omega), set_ne _ (by omega)]; exact h.first
  · intro j y hy
    rw [set_ne _ (by omega)]
    simp only [List.getElem?_append] at hy
    split at hy
    · rename_i hj
      rw [set_ne _ (by omega)]
      exact h.ring j y hy
    · rename_i hj
      have e : j = x.Q.length := by
        have := (List.getElem?_eq_some_iff.1 hy).1
        simp at this; omega
      subst e
      simp at hy
      subst hy
      rw [set_eq _ (by omega)]
  · rw [set_eq _ (by simp; omega)]; simp
  · intro k y hy
    have hk := (List.getElem?_eq_some_iff.1 hy).1
    have := h.s16
    rw [set_ne _ (by omega), set_ne _ (by omega)]; exact h.sec k y hy
  · rw [set_ne _ (by omega), set_ne _ (by omega)]; exact h.frm
  · rw [set_ne _ (by omega), set_ne _ (by omega)]; exact h.aft
  · rw [set_ne _ (by omega), set_ne _ (by omega)]; exact h.seen
theorem DevIs.pop (h : DevIs cur f x v) {key : Int} {r : List Int} (hq : x.Q = key :: r) :
    DevIs ((cur.setIfInBounds 64 (.int .i64 ((f + 1) % 64 : Nat))).setIfInBounds 65 (.int .i64 r.length)) ((f + 1) % 64) { x with Q := r } v := by
  have hs := h.size
  have hf := h.f64
  have h64 := h.q64
  rw [hq] at h64
  refine ⟨by simp [hs], set_one (set_one h.one _ rfl) _ rfl, by omega, ?_, ?_, ?_, by simp at h64 ⊢; omega, ?_, h.s16, ?_, ?_, ?_⟩
  · rw [set_ne _ (by omega), set_eq _ (by omega)]
  · intro j y hy
    have := h.ring (j + 1) y (by rw [hq]; simpa using hy)
    rw [set_ne _ (by omega), set_ne _ (by omega), show ((f + 1) % 64 + j) % 64 = (f + (j + 1)) % 64 by omega]
    exact this
  · rw [set_eq _ (by simp; omega)]
  · intro k y hy
    have hk := (List.getElem?_eq_some_iff.1 hy).1
    have := h.s16
    rw [set_ne _ (by omega), set_ne _ (by omega)]; exact h.sec k y hy
  · rw [set_ne _ (by omega), set_ne _ (by omega)]; exact h.frm
  · rw [set_ne _ (by omega), set_ne _ (by omega)]; exact h.aft
  · rw [set_ne _ (by omega), set_ne _ (by omega)]; exact h.seen
theorem DevIs.put (h : DevIs cur f x v) {k : Nat} (hk : k < 16) (y : Int) : DevIs (cur.setIfInBounds (66 + k) (.int .u32 y)) f { x with S := x.S.set k y } v := by
  have hs := h.size
  have hf := h.f64
  refine ⟨by simp [hs], set_one h.one _ rfl, h.f64, ?_, ?_, ?_, h.q64, ?_, by simpa using h.s16, ?_, ?_, ?_⟩
  · rw [set_ne _ (by omega)]; exact h.first
  · intro j z hz
    rw [set_ne _ (by omega)]; exact h.ring j z hz
  · rw [set_ne _ (by omega)]; exact h.count
  · intro j z hz
    rw [List.getElem?_set] at hz
    by_cases e : k = j
    · subst e
      rw [if_pos rfl, if_pos (by rw [h.s16]; exact hk)] at hz
      rw [set_eq _ (by omega), Option.some.inj hz]
    · rw [if_neg e] at hz
      rw [set_ne _ (by omega)]; exact h.sec j z hz
  · rw [set_ne _ (by omega)]; exact h.frm
  · rw [set_ne _ (by omega)]; exact h.aft
  · rw [set_ne _ (by omega)]; exact h.seen
theorem DevIs.timer (h : DevIs cur f x v) (a b : Int) : DevIs ((cur.setIfInBounds 82 (.int .i64 a)).setIfInBounds 83 (.int .u32 b)) f { x with fr := a, af := b } v := by
  have hs := h.size
  have hf := h.f64
  refine ⟨by simp [hs], set_one (set_one h.one _ rfl) _ rfl, h.f64, ?_, ?_, ?_, h.q64, ?_, h.s16, ?_, ?_, ?_⟩
  · rw [set_ne _ (by omega), set_ne _ (by omega)]; exact h.first
  · intro j z hz
    rw [set_ne _ (by omega), set_ne _ (by omega)]; exact h.ring j z hz
  · rw [set_ne _ (by omega), set_ne _ (by omega)]; exact h.count
  · intro j z hz
    have hk : j < x.S.length := (List.getElem?_eq_some_iff.1 hz).1
    have := h.s16
    rw [set_ne _ (by omega), set_ne _ (by omega)]; exact h.sec j z hz
  · rw [set_ne _ (by omega), set_eq _ (by omega)]
  · rw [set_eq _ (by simp; omega)]
  · rw [set_ne _ (by omega), set_ne _ (by omega)]; exact h.seen
theorem DevIs.show (h : DevIs cur f x v) {u : Value} (hu : u.oneCell' = true) (l : List Sn) : DevIs (cur.setIfInBounds 84 u) f { x with sn := l } u := by
  have hs := h.size
  have hf := h.f64
  refine ⟨by simp [hs], set_one h.one _ hu, h.f64, ?_, ?_, ?_, h.q64, ?_, h.s16, ?_, ?_, ?_⟩
  · rw [set_ne _ (by omega)]; exact h.first
  · intro j z hz
    rw [set_ne _ (by omega)]; exact h.ring j z hz
  · rw [set_ne _ (by omega)]; exact h.count
  · intro j z hz
    have hk : j < x.S.length := (List.getElem?_eq_some_iff.1 hz).1
    have := h.s16
    rw [set_ne _ (by omega)]; exact h.sec j z hz
  · rw [set_ne _ (by omega)]; exact h.frm
  · rw [set_ne _ (by omega)]; exact h.aft
  · rw [set_eq _ (by omega)]
end
/-- devices at block d; v: what is seen; all of it lies at B and above -/
structure DevAt (w : World) (B d : Nat) (x : DvS) (v : Value) : Prop where
  hd : ∃ cur f, w.heap[d]? = some (.cells cur 176 (0, 0)) ∧ DevIs cur f x v
  own : w.ownsRow B 282 3 v x.sn.length (snCells x.sn)
  ge : B ≤ d
def foot (d : Nat) (v : Value) : List Nat := d :: v.ownBlock.toList
theorem mem_foot {d i : Nat} {v : Value} : i ∈ foot d v ↔ i = d ∨ v.ownBlock = some i := by
  unfold foot
  rw [List.mem_cons, Option.mem_toList]
section
variable {w w1 : World} {B B' d : Nat} {x : DvS} {v : Value} {R : List Nat}
theorem DevAt.lt (h : DevAt w B d x v) : d < w.heap.size := by
  obtain ⟨cur, f, hb, _⟩ := h.hd
  exact (Array.getElem?_eq_some_iff.1 hb).1
theorem DevAt.foot_lt (h : DevAt w B d x v) : ∀ i ∈ foot d v, i < w.heap.size := by
  intro i hi
  rcases mem_foot.1 hi with rfl | hi
  · exact h.lt
  · exact (h.own.lt i hi).2
theorem DevAt.foot_ge (h : DevAt w B d x v) : ∀ i ∈ foot d v, B ≤ i := by
  intro i hi
  rcases mem_foot.1 hi with rfl | hi
  · exact h.ge
  · exact (h.own.lt i hi).1
/-- what is seen lies in no block of devices -/
theorem DevAt.own_ne (h : DevAt w B d x v) : v.ownBlock ≠ some d := by
  obtain ⟨cur, f, hb, _⟩ := h.hd
  rcases h.own.2 with ⟨rfl, _⟩ | ⟨g, cap, cu, rfl, _, hg, _⟩
  · simp [Value.ownBlock]
  · intro e
    obtain rfl : g = d := by simpa [Value.ownBlock] using e
    rw [hb] at hg
    simp at hg
theorem DevAt.keptL (h : DevAt w B d x v) (hg : Lv w w1 R) (hr : ∀ i ∈ foot d v, i ∉ R) : DevAt w1 B d x v := by
  obtain ⟨cur, f, hb, hi⟩ := h.hd
  refine ⟨⟨cur, f, (hg.block d h.lt (hr d (mem_foot.2 (.inl rfl)))).trans hb, hi⟩, own_keptL h.own hg (fun g hgv => hr g (mem_foot.2 (.inr hgv))), h.ge⟩
theorem DevAt.kept0 (h : DevAt w B d x v) (hg : w.grownBy w1 none) : DevAt w1 B d x v := h.keptL (Lv.of_none hg []) (by simp)
theorem DevAt.base (h : DevAt w B' d x v) (hB : B ≤ B') : DevAt w B d x v := ⟨h.hd, own_base h.own hB, Nat.le_trans hB h.ge⟩
theorem DevAt.sees (h : DevAt w B d x v) : SnAt w v x.sn := SnAt.own h.own
theorem DevAt.q64 (h : DevAt w B d x v) : x.Q.length ≤ 64 := by
  obtain ⟨cur, f, hb, hi⟩ := h.hd
  exact hi.q64
theorem DevAt.s16 (h : DevAt w B d x v) : x.S.length = 16 := by
  obtain ⟨cur, f, hb, hi⟩ := h.hd
  exact hi.s16
end
/-- what was written is new, or was its own -/
def Mine (w : World) (v v' : Value) : Prop := v'.ownBlock = v.ownBlock ∨ ∀ g, v'.ownBlock = some g → w.heap.size ≤ g
/-- two that share nothing -/
def Apart (R R' : List Nat) : Prop := ∀ i ∈ R, i ∉ R'
theorem Apart.symm {R R' : List Nat} (h : Apart R R') : Apart R' R := fun i hi k => h i k hi
theorem Apart.mine {w : World} {d : Nat} {v v' : Value} {R : List Nat} (h : Apart (foot d v) R) (hm : Mine w v v') (hR : ∀ i ∈ R, i < w.heap.size) : Apart (foot d v') R := by
  intro i hi hi2
  rcases mem_foot.1 hi with rfl | hi
  · exact h _ (mem_foot.2 (.inl rfl)) hi2
  · rcases hm with hm | hm
    · exact h i (mem_foot.2 (.inr (hm.symm.trans hi))) hi2
    · have := hm i hi; have := hR i hi2; omega
end Go.Proofs.YtpkgckjlhjcdmaaDoor
/- A processor (api.CPU) as a value, in a block; how that is carried on. -/
namespace Go.Proofs.YtpkgckjlhjcdmaaDoor
open Go.RowKit
/-- a processor -/
structure Cp where
  l : List Int
  pc : Int
  ie : Bool
  eie : Bool
  epc : Int
  tv : Int
  ca : Int
  ad : Int
def cpuL (x : Cp) : List Value := x.l.map (Value.int .u32) ++ [.int .u32 x.pc, .bool x.ie, .bool x.eie, .int .u32 x.epc, .int .u32 x.tv, .int .u32 x.ca, .int .u32 x.ad]
def cpuC (x : Cp) : Array Value := (cpuL x).toArray
/-- a block holds a processor -/
structure CpuAt (w : World) (B : Nat) (x : Cp) : Prop where
  blk : w.heap[B]? = some (.cells (cpuC x) 69 (0, 0))
  len : x.l.length = 16
theorem cpu_info : (Tryd.prog.info? 69).map (·.size) = some 23 := by kernel_rfl
theorem cpu_one (x : Cp) : (cpuC x).all (·.oneCell') = true := by
  rw [Array.all_eq_true_iff_forall_mem]
  intro v hv
  simp only [cpuC, cpuL, List.mem_toArray, List.mem_append, List.mem_map, List.mem_cons, List.not_mem_nil, or_false] at hv
  rcases hv with ⟨x, _, rfl⟩ | rfl | rfl | rfl | rfl | rfl | rfl | rfl <;> rfl
section
variable {x : Cp} (h : x.l.length = 16)
include h
theorem cpu_size : (cpuC x).size = 23 := by simp [cpuC, cpuL, h]
theorem cpu_size_info : (Tryd.prog.info? 69).map (·.size) = some (cpuC x).size := by rw [cpu_info, cpu_size h]
theorem cpu_tail (k : Nat) : (cpuC x)[16 + k]? = [Value.int .u32 x.pc, .bool x.ie, .bool x.eie, .int .u32 x.epc, .int .u32 x.tv, .int .u32 x.ca, .int .u32 x.ad][k]? := by
  simp only [cpuC, cpuL, List.getElem?_toArray]
  rw [List.getElem?_append_right (by simp [h])]
  simp [h]
theorem cpu_set (k : Nat) (v : Value) : (cpuC x).setIfInBounds (16 + k) v = (x.l.map (Value.int .u32) ++ ([Value.int .u32 x.pc, .bool x.ie, .bool x.eie, .int .u32 x.epc, .int .u32 x.tv, .int .u32 x.ca, .int .u32 x.ad].set k v)).toArray := by
  simp only [cpuC, cpuL, List.setIfInBounds_toArray]
  rw [List.set_append_right _ _ (by simp [h])]
  simp [h]
end
section
variable {w w1 : World} {B : Nat} {x : Cp}
theorem CpuAt.lt (h : CpuAt w B x) : B < w.heap.size := (Array.getElem?_eq_some_iff.1 h.blk).1
theorem CpuAt.kept {r : Option Nat} (h : CpuAt w B x) (hg : w.grownBy w1 r) (hr : some B ≠ r) : CpuAt w1 B x := ⟨(hg.block _ h.lt hr).trans h.blk, h.len⟩
theorem CpuAt.kept0 (h : CpuAt w B x) (hg : w.grownBy w1 none) : CpuAt w1 B x := h.kept hg (by simp)
theorem CpuAt.keptL {R : List Nat} (h : CpuAt w B x) (hg : Lv w w1 R) (hr : B ∉ R) : CpuAt w1 B x := ⟨(hg.block _ h.lt hr).trans h.blk, h.len⟩
theorem CpuAt.alloc (h : CpuAt w B x) (o : Obj) : CpuAt (w.alloc o) B x := ⟨(heap_alloc_old _ _ h.lt).trans h.blk, h.len⟩
theorem CpuAt.new (w : World) (hl : x.l.length = 16) : CpuAt (w.alloc (.cells (cpuC x) 69)) w.heap.size x := ⟨heap_alloc_last w _, hl⟩
theorem CpuAt.new2 (w : World) (o : Obj) (hl : x.l.length = 16) : CpuAt ((w.alloc o).alloc (.cells (cpuC x) 69)) (w.heap.size + 1) x := ⟨heap_alloc2_new w _ _, hl⟩
theorem CpuAt.other (h : CpuAt w B x) (C k : Nat) (v : Value) (hC : B ≠ C) : CpuAt (w.setCell ⟨C, k, none⟩ v) B x := ⟨(heap_setCell_other _ _ _ _ hC).trans h.blk, h.len⟩
theorem CpuAt.free (h : CpuAt w B x) (k : Nat) : w.frozen? ⟨B, k, none⟩ = false := frozen_of_row w B k _ _ h.blk
theorem CpuAt.row (h : CpuAt w B x) {y : Cp} (hl : y.l.length = 16) : CpuAt (w.setRow B (cpuC y)) B y := ⟨setRow_heap _ _ _ _ _ _ h.blk, hl⟩
theorem CpuAt.cell (h : CpuAt w B x) (k : Nat) {v : Value} (hv : [Value.int .u32 x.pc, .bool x.ie, .bool x.eie, .int .u32 x.epc, .int .u32 x.tv, .int .u32 x.ca, .int .u32 x.ad][k]? = some v) : w.cell? ⟨B, 16 + k, none⟩ = some v := by
  rw [cell_of_row w B (16 + k) _ _ _ h.blk, cpu_tail h.len, hv]
theorem CpuAt.pc (h : CpuAt w B x) : w.cell? ⟨B, 16, none⟩ = some (.int .u32 x.pc) := h.cell 0 rfl
theorem CpuAt.ie (h : CpuAt w B x) : w.cell? ⟨B, 17, none⟩ = some (.bool x.ie) := h.cell 1 rfl
theorem CpuAt.eie (h : CpuAt w B x) : w.cell? ⟨B, 18, none⟩ = some (.bool x.eie) := h.cell 2 rfl
theorem CpuAt.epc (h : CpuAt w B x) : w.cell? ⟨B, 19, none⟩ = some (.int .u32 x.epc) := h.cell 3 rfl
theorem CpuAt.tv (h : CpuAt w B x) : w.cell? ⟨B, 20, none⟩ = some (.int .u32 x.tv) := h.cell 4 rfl
theorem CpuAt.ca (h : CpuAt w B x) : w.cell? ⟨B, 21, none⟩ = some (.int .u32 x.ca) := h.cell 5 rfl
theorem CpuAt.ad (h : CpuAt w B x) : w.cell? ⟨B, 22, none⟩ = some (.int .u32 x.ad) := h.cell 6 rfl
theorem CpuAt.sPc {l : List Int} {pc : Int} {ie eie : Bool} {epc tv ca ad : Int} (h : CpuAt w B ⟨l, pc, ie, eie, epc, tv, ca, ad⟩) (v : Int) : CpuAt (w.setCell ⟨B, 16, none⟩ (.int .u32 v)) B ⟨l, v, ie, eie, epc, tv, ca, ad⟩ :=
  ⟨by rw [heap_setCell_same w B 16 _ _ _ h.blk]; rw [cpu_set h.len 0]; rfl, h.len⟩
theorem CpuAt.sIe {l : List Int} {pc : Int} {ie eie : Bool} {epc tv ca ad : Int} (h : CpuAt w B ⟨l, pc, ie, eie, epc, tv, ca, ad⟩) (v : Bool) : CpuAt (w.setCell ⟨B, 17, none⟩ (.bool v)) B ⟨l, pc, v, eie, epc, tv, ca, ad⟩ :=
  ⟨by rw [heap_setCell_same w B 17 _ _ _ h.blk]; rw [cpu_set h.len 1]; rfl, h.len⟩
theorem CpuAt.sEie {l : List Int} {pc : Int} {ie eie : Bool} {epc tv ca ad : Int} (h : CpuAt w B ⟨l, pc, ie, eie, epc, tv, ca, ad⟩) (v : Bool) : CpuAt (w.setCell ⟨B, 18, none⟩ (.bool v)) B ⟨l, pc, ie, v, epc, tv, ca, ad⟩ :=
  ⟨by rw [heap_setCell_same w B 18 _ _ _ h.blk]; rw [cpu_set h.len 2]; rfl, h.len⟩
theorem CpuAt.sEpc {l : List Int} {pc : Int} {ie eie : Bool} {epc tv ca ad : Int} (h : CpuAt w B ⟨l, pc, ie, eie, epc, tv, ca, ad⟩) (v : Int) : CpuAt (w.setCell ⟨B, 19, none⟩ (.int .u32 v)) B ⟨l, pc, ie, eie, v, tv, ca, ad⟩ :=
  ⟨by rw [heap_setCell_same w B 19 _ _ _ h.blk]; rw [cpu_set h.len 3]; rfl, h.len⟩
theorem CpuAt.sTv {l : List Int} {pc : Int} {ie eie : Bool} {epc tv ca ad : Int} (h : CpuAt w B ⟨l, pc, ie, eie, epc, tv, ca, ad⟩) (v : Int) : CpuAt (w.setCell ⟨B, 20, none⟩ (.int .u32 v)) B ⟨l, pc, ie, eie, epc, v, ca, ad⟩ :=
  ⟨by rw [heap_setCell_same w B 20 _ _ _ h.blk]; rw [cpu_set h.len 4]; rfl, h.len⟩
theorem CpuAt.sCa {l : List Int} {pc : Int} {ie eie : Bool} {epc tv ca ad : Int} (h : CpuAt w B ⟨l, pc, ie, eie, epc, tv, ca, ad⟩) (v : Int) : CpuAt (w.setCell ⟨B, 21, none⟩ (.int .u32 v)) B ⟨l, pc, ie, eie, epc, tv, v, ad⟩ :=
  ⟨by rw [heap_setCell_same w B 21 _ _ _ h.blk]; rw [cpu_set h.len 5]; rfl, h.len⟩
theorem CpuAt.sAd {l : List Int} {pc : Int} {ie eie : Bool} {epc tv ca ad : Int} (h : CpuAt w B ⟨l, pc, ie, eie, epc, tv, ca, ad⟩) (v : Int) : CpuAt (w.setCell ⟨B, 22, none⟩ (.int .u32 v)) B ⟨l, pc, ie, eie, epc, tv, ca, v⟩ :=
  ⟨by rw [heap_setCell_same w B 22 _ _ _ h.blk]; rw [cpu_set h.len 6]; rfl, h.len⟩
/-- the registers of a processor lie ahead -/
theorem CpuAt.regs (h : CpuAt w B x) : w.rangeAt B 0 (x.l.map (Value.int .u32)) := by
  intro j v hv
  rw [cell_of_row w B (0 + j) _ _ _ h.blk, Nat.zero_add]
  simp only [cpuC, cpuL, List.getElem?_toArray]
  rw [List.getElem?_append_left (List.getElem?_eq_some_iff.1 hv).1]
  exact hv
end
/-! ### whole processors, loaded and stored -/
section
variable {ops : Array Oper} {rest : List Oper} {o : Oper} {a : Act} {w : World} {Q : Exit → Act → World → Prop} {g : Nat} {y : Cp}
theorem wpList_load_cpu (hgd : o.guard = none) (p : Operand) (ho : o.op = .load 69 p) (hx : a.eval p = .pointer (some ⟨g, 0, none⟩)) (hg : CpuAt w g y)
    (h : wpList Tryd.prog ops Q rest (a.put o.dst (.agg (cpuC y))) w) : wpList Tryd.prog ops Q (o :: rest) a w :=
  wpList_load_row hgd 69 p ho g hx _ _ _ _ hg.blk Tryd.underlying69 rfl (cpu_size_info hg.len) h
theorem wpList_store_cpu (hgd : o.guard = none) (p q : Operand) (ho : o.op = .store 69 p q) (hx : a.eval p = .pointer (some ⟨g, 0, none⟩)) (hy : a.eval q = .agg (cpuC y)) {z : Cp} (hg : CpuAt w g z) (hl : y.l.length = 16)
    (h : wpList Tryd.prog ops Q rest (a.put o.dst undef) (w.setRow g (cpuC y))) : wpList Tryd.prog ops Q (o :: rest) a w :=
  wpList_store_row hgd 69 p q ho g _ hx hy _ _ hg.blk (cpu_size_info hl) (by rw [cpu_size hg.len, cpu_size hl]) (cpu_one y) h
end
/-- a new processor -/
def zeroP : Cp := ⟨[0, 0, 0, 0, 0, 0, 0, 0, 0, 0, 0, 0, 0, 0, 0, 0], 0, false, false, 0, 0, 0, 0⟩
theorem zero_cpu (w : World) : (zeroValue 69).run Tryd.prog w = .ok (.agg (cpuC zeroP)) w := by kernel_rfl
/-! ### what the calls make of a processor -/
def enterP (x : Cp) (c a : Int) : Cp := if x.tv = 0 then x else { x with epc := x.pc, eie := x.ie, pc := x.tv, ie := false, ca := c % 4294967296, ad := a }
def retP (x : Cp) : Cp := { x with pc := x.epc, ie := x.eie, epc := 0, eie := false }
theorem enterP_l (x : Cp) (c a : Int) : (enterP x c a).l = x.l := by unfold enterP; split <;> rfl
theorem retP_l (x : Cp) : (retP x).l = x.l := rfl
/-- what was written is new -/
theorem grown_setN {w w1 : World} (h : w.grownBy w1 none) {B : Nat} (hB : w.heap.size ≤ B) (k : Nat) (v : Value) : w.grownBy (w1.setCell ⟨B, k, none⟩ v) none :=
  ⟨h.os, h.tape, h.output, by have := h.size; simpa using this, fun i hi hr => (heap_setCell_other _ _ _ _ (by show i ≠ B; omega)).trans (h.block i hi hr)⟩
end Go.Proofs.YtpkgckjlhjcdmaaDoor
/- A processor as an argument: opened. -/
namespace Go.Proofs.YtpkgckjlhjcdmaaDoor
open Go.Joins Go.ChangeShapes Go.WideShapes Go.RowKit
/-- a processor whose words are words -/
structure CpOk (x : Cp) : Prop where
  regs : Regs x.l
  pc0 : 0 ≤ x.pc
  pc1 : x.pc ≤ 4294967295
  epc0 : 0 ≤ x.epc
  epc1 : x.epc ≤ 4294967295
  tv0 : 0 ≤ x.tv
  tv1 : x.tv ≤ 4294967295
  ca0 : 0 ≤ x.ca
  ca1 : x.ca ≤ 4294967295
  ad0 : 0 ≤ x.ad
  ad1 : x.ad ≤ 4294967295
section
variable {H : Type} {enc : TypeId × Value → H} {w : World} {base : Nat} {spare : Nat → Bool} {held : Bool}
set_option maxRecDepth 100000 in
theorem regs_trod {n : Nat} {cs : List Value} {x : DataW H × List MemPlace} (hsz : cs.length = 16) (hf : DataW.trod enc Tryd.prog w base spare held n 67 cs = some x) :
    ∃ l : List Int, cs = l.map (Value.int .u32) ∧ Regs l := by
  have hu := Tryd.underlying67
  have c22 : Tryd.prog.cellsOf 25 = 1 := by kernel_rfl
  obtain ⟨xs, n, _, _, _, hlen, hg⟩ := DataW.trod_array hu hf
  have one : ∀ i, i < 16 → ∃ m : Int, cs[i]? = some (.int .u32 m) ∧ 0 ≤ m ∧ m < 4294967296 := by
    intro i hi
    have g := hg i hi
    simp only [c22, Nat.mul_one] at g
    have hx : xs[i]? = some (xs[i]'(by omega)) := List.getElem?_eq_getElem (by omega)
    rw [hx] at g
    obtain ⟨m, e, _, wf⟩ := DataW.trod_int Tryd.underlying25 g
    have hd : cs.drop i = cs[i]'(by omega) :: cs.drop (i + 1) := by
      rw [List.drop_eq_getElem_cons (by omega)]
    rw [hd] at e
    simp only [List.take_succ_cons, List.take_zero, List.cons.injEq, and_true] at e
    have hb := u32_bd wf
    exact ⟨m, by rw [List.getElem?_eq_getElem (by omega), e], hb.1, by omega⟩
  refine ⟨cs.map intOf, ?_, by simp [hsz], ?_⟩
  · apply List.ext_getElem?
    intro i
    rw [List.getElem?_map, List.getElem?_map]
    by_cases hi : i < 16
    · obtain ⟨m, hm, _⟩ := one i hi
      rw [hm]
      rfl
    · rw [List.getElem?_eq_none (by omega)]; rfl
  · intro x hx
    obtain ⟨v, hv, rfl⟩ := List.mem_map.1 hx
    obtain ⟨i, hi, rfl⟩ := List.getElem_of_mem hv
    obtain ⟨m, hm, h0, h1⟩ := one i (by omega)
    rw [List.getElem?_eq_getElem hi, Option.some.injEq] at hm
    rw [hm]
    exact ⟨h0, h1⟩
set_option maxRecDepth 100000 in
theorem open_cpu {r : Reach} {b0 : Nat} {v : Value} {d : DataW H} {p : List MemPlace}
    (hv : Value.okWide Tryd.prog w r b0 69 v) (h : DataW.Trod enc Tryd.prog w base spare held 69 v d p) :
    ∃ x : Cp, v = .agg (cpuC x) ∧ CpOk x := by
  have hs := Tryd.underlying69
  have hC : Tryd.prog.cellsOf 69 = 23 := by kernel_rfl
  have cb : Tryd.prog.cellsOf 4 = 1 := by kernel_rfl
  have c22 : Tryd.prog.cellsOf 25 = 1 := by kernel_rfl
  have cr : Tryd.prog.cellsOf 67 = 16 := by kernel_rfl
  obtain ⟨cs, rfl, hsz⟩ := okWide_struct hs hv
  obtain ⟨l⟩ := cs
  match l, hsz.trans hC with
  | [v0, v1, v2, v3, v4, v5, v6, v7, v8, v9, v10, v11, v12, v13, v14, v15, v16, v17, v18, v19, v20, v21, v22], _ =>
    obtain ⟨fuel, hf⟩ := h
    obtain ⟨xs, n, _, hx, _, hlen, hg⟩ := DataW.trod_struct hs hf
    match xs, hlen with
    | [y0, y1, y2, y3, y4, y5, y6, y7], _ =>
      have g0 := hg 0 _ rfl
      have g1 := hg 1 _ rfl
      have g2 := hg 2 _ rfl
      have g3 := hg 3 _ rfl
      have g4 := hg 4 _ rfl
      have g5 := hg 5 _ rfl
      have g6 := hg 6 _ rfl
      have g7 := hg 7 _ rfl
      clear hg hf hx hv
      simp [Value.cells, cb, c22, cr] at g0 g1 g2 g3 g4 g5 g6 g7
      obtain ⟨l, hl, hR⟩ := regs_trod rfl g0
      obtain ⟨pc, e1, _, w1⟩ := DataW.trod_int Tryd.underlying25 g1
      obtain ⟨ie, e2, _⟩ := DataW.trod_bool Tryd.underlying4 g2
      obtain ⟨eie, e3, _⟩ := DataW.trod_bool Tryd.underlying4 g3
      obtain ⟨epc, e4, _, w4⟩ := DataW.trod_int Tryd.underlying25 g4
      obtain ⟨tv, e5, _, w5⟩ := DataW.trod_int Tryd.underlying25 g5
      obtain ⟨ca, e6, _, w6⟩ := DataW.trod_int Tryd.underlying25 g6
      obtain ⟨ad, e7, _, w7⟩ := DataW.trod_int Tryd.underlying25 g7
      simp at e1 e2 e3 e4 e5 e6 e7
      subst e1; subst e2; subst e3; subst e4; subst e5; subst e6; subst e7
      refine ⟨⟨l, pc, ie, eie, epc, tv, ca, ad⟩, ?_, ⟨hR, (u32_bd w1).1, (u32_bd w1).2, (u32_bd w4).1, (u32_bd w4).2, (u32_bd w5).1, (u32_bd w5).2, (u32_bd w6).1, (u32_bd w6).2, (u32_bd w7).1, (u32_bd w7).2⟩⟩
      unfold cpuC cpuL
      simp only
      rw [← hl]
      rfl
end
end Go.Proofs.YtpkgckjlhjcdmaaDoor
