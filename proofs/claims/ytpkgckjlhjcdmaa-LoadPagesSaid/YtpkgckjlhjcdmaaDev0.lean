/- Devices (package dev): what is known of them in a world; how that is carried on. -/
import Derived.Test.YtpkgckjlhjcdmaaArgs
import Derived.Deep.AppendLies
import Derived.Laws.BitsLemmas
namespace Go.Proofs.Ytpkgckjlhjcdmaa
open Go.RowKit
/-! ### what a step leaves alone, but for some blocks -/
structure Lv (w w' : World) (R : List Nat) : Prop where
  os : w'.os = w.os
  tape : w'.tape = w.tape
  output : w'.output = w.output
  size : w.heap.size ≤ w'.heap.size
  block : ∀ k, k < w.heap.size → k ∉ R → w'.heap[k]? = w.heap[k]?
section
variable {w w0 w1 w2 : World} {R R' : List Nat}
theorem Lv.refl (w : World) (R : List Nat) : Lv w w R := ⟨rfl, rfl, rfl, Nat.le_refl _, fun _ _ _ => rfl⟩
theorem Lv.trans (h : Lv w w1 R) (k : Lv w1 w2 R) : Lv w w2 R :=
  ⟨k.os.trans h.os, k.tape.trans h.tape, k.output.trans h.output, Nat.le_trans h.size k.size, fun i hi hr => (k.block i (Nat.lt_of_lt_of_le hi h.size) hr).trans (h.block i hi hr)⟩
theorem Lv.mono (h : Lv w w1 R) (k : ∀ i ∈ R, i ∈ R') : Lv w w1 R' := ⟨h.os, h.tape, h.output, h.size, fun i hi hr => h.block i hi (fun e => hr (k i e))⟩
theorem Lv.of_none (h : w.grownBy w1 none) (R : List Nat) : Lv w w1 R := ⟨h.os, h.tape, h.output, h.size, fun i hi _ => h.block i hi (by simp)⟩
theorem Lv.of_row {r : Option Nat} (h : w.grownBy w1 r) : Lv w w1 r.toList := ⟨h.os, h.tape, h.output, h.size, fun i hi hr => h.block i hi (fun e => hr (by subst e; simp))⟩
theorem Lv.old (h : Lv w w1 R) (hR : ∀ i ∈ R, w.heap.size ≤ i) : w.grownBy w1 none :=
  ⟨h.os, h.tape, h.output, h.size, fun i hi _ => h.block i hi (fun e => by have := hR i e; omega)⟩
theorem Lv.after (h0 : w0.grownBy w none) (h : Lv w w1 R) (hR : ∀ i ∈ R, w0.heap.size ≤ i) : w0.grownBy w1 none :=
  ⟨h.os.trans h0.os, h.tape.trans h0.tape, h.output.trans h0.output, Nat.le_trans h0.size h.size, fun i hi _ => (h.block i (Nat.lt_of_lt_of_le hi h0.size) (fun e => by have := hR i e; omega)).trans (h0.block i hi (by simp))⟩
theorem Lv.cell (h : Lv w w1 R) {p : Addr} (hp : p.block < w.heap.size) (hr : p.block ∉ R) : w1.cell? p = w.cell? p := World.cell?_of_block (h.block _ hp hr)
theorem Lv.drew (h : Lv w w1 R) : Lv w w1.drew R := ⟨h.os, h.tape, h.output, h.size, h.block⟩
theorem Lv.drewN (h : Lv w w1 R) (n : Nat) : Lv w (w1.drewN n) R := ⟨h.os, h.tape, h.output, h.size, h.block⟩
theorem Lv.alloc (h : Lv w w1 R) (o : Obj) : Lv w (w1.alloc o) R := h.trans (Lv.of_none (World.grownBy_alloc _ _ _) _)
theorem Lv.set (h : Lv w w1 R) {b : Nat} (hb : b ∈ R) (k : Nat) (v : Value) : Lv w (w1.setCell ⟨b, k, none⟩ v) R :=
  h.trans ⟨rfl, rfl, rfl, by simp, fun i _ hi => heap_setCell_other _ _ _ _ (fun e => hi (by rw [e]; exact hb))⟩
theorem own_keptL {B : Nat} {e : TypeId} {size : Nat} {v : Value} {n : Nat} {l : List Value} (h : w.ownsRow B e size v n l) (hg : Lv w w1 R) (hr : ∀ g, v.ownBlock = some g → g ∉ R) : w1.ownsRow B e size v n l := by
  refine ⟨h.1, ?_⟩
  rcases h.2 with hn | ⟨g, cap, cur, rfl, hb, hgg, rest⟩
  · exact .inl hn
  · refine .inr ⟨g, cap, cur, rfl, hb, ?_, rest⟩
    rw [hg.block g (Array.getElem?_eq_some_iff.1 hgg).1 (hr g rfl)]
    exact hgg
theorem own_base {B B' : Nat} {e : TypeId} {size : Nat} {v : Value} {n : Nat} {l : List Value} (h : w.ownsRow B' e size v n l) (hB : B ≤ B') : w.ownsRow B e size v n l := by
  refine ⟨h.1, ?_⟩
  rcases h.2 with hn | ⟨g, cap, cur, rfl, hb, rest⟩
  · exact .inl hn
  · exact .inr ⟨g, cap, cur, rfl, Nat.le_trans hB hb, rest⟩
end
theorem wrap_i64_id {n : Int} (h0 : -9223372036854775808 ≤ n) (h1 : n ≤ 9223372036854775807) : IntKind.i64.wrap n = n := by
  rw [IntKind.wrap_i64]; omega
/-! ### what is seen -/
abbrev Sn := Int × Int × Int
def snCells : List Sn → List Value
  | [] => []
  | s :: r => .int .i64 s.1 :: .int .u32 s.2.1 :: .int .u32 s.2.2 :: snCells r
theorem snCells_length : ∀ l : List Sn, (snCells l).length = l.length * 3
  | [] => rfl
  | s :: r => by simp only [snCells, List.length_cons, snCells_length r]; omega
theorem snCells_append : ∀ l m : List Sn, snCells (l ++ m) = snCells l ++ snCells m
  | [], _ => rfl
  | s :: r, m => by simp only [List.cons_append, snCells, snCells_append r m]
theorem snCells_get : ∀ (l : List Sn) (k : Nat) (s : Sn), l[k]? = some s → (snCells l)[k * 3]? = some (.int .i64 s.1) ∧ (snCells l)[k * 3 + 1]? = some (.int .u32 s.2.1) ∧ (snCells l)[k * 3 + 2]? = some (.int .u32 s.2.2)
  | [], _, _, h => by simp at h
  | x :: r, 0, s, h => by
    obtain rfl : x = s := by simpa using h
    exact ⟨rfl, rfl, rfl⟩
  | x :: r, k + 1, s, h => by
    have := snCells_get r k s (by simpa using h)
    rw [show (k + 1) * 3 = k * 3 + 3 by omega]
    exact this
theorem snCells_one (l : List Sn) : ∀ v ∈ snCells l, v.oneCell' = true := by
  induction l with
  | nil => simp [snCells]
  | cons s r ih =>
    intro v hv
    simp only [snCells, List.mem_cons] at hv
    rcases hv with rfl | rfl | rfl | hv
    · rfl
    · rfl
    · rfl
    · exact ih v hv
/-- the slice value v reads as what is seen -/
def SnAt (w : World) (v : Value) (l : List Sn) : Prop :=
  ((∃ p c, v = .slice p 0 c) ∧ l = []) ∨
  ∃ b c, v = .slice (some ⟨b, 0, none⟩) l.length c ∧ b < w.heap.size ∧ ∀ j u, (snCells l)[j]? = some u → w.cell? ⟨b, j, none⟩ = some u
theorem SnAt.keptL {w w1 : World} {v : Value} {l : List Sn} {R : List Nat} (h : SnAt w v l) (hg : Lv w w1 R) (hr : ∀ g, v.ownBlock = some g → g ∉ R) : SnAt w1 v l := by
  rcases h with h | ⟨b, c, rfl, hb, hc⟩
  · exact .inl h
  · refine .inr ⟨b, c, rfl, Nat.lt_of_lt_of_le hb hg.size, fun j x hx => ?_⟩
    rw [hg.cell hb (hr b rfl)]
    exact hc j x hx
theorem SnAt.kept0 {w w1 : World} {v : Value} {l : List Sn} (h : SnAt w v l) (hg : w.grownBy w1 none) : SnAt w1 v l := h.keptL (Lv.of_none hg []) (by simp)
theorem SnAt.own {w : World} {B : Nat} {t : TypeId} {v : Value} {l : List Sn} (h : w.ownsRow B t 3 v l.length (snCells l)) : SnAt w v l := by
  obtain ⟨hl, h⟩ := h
  rcases h with ⟨rfl, h0⟩ | ⟨g, cap, cur, rfl, _, hg, _, _, _, ht⟩
  · exact .inl ⟨⟨_, _, rfl⟩, List.eq_nil_of_length_eq_zero h0⟩
  · refine .inr ⟨g, cap, rfl, (Array.getElem?_eq_some_iff.1 hg).1, fun j u hu => ?_⟩
    rw [cell_of_row w g _ _ t _ hg]
    have := congrArg (·[j]?) ht
    simp only [List.getElem?_take, hu] at this
    have hj : j < (snCells l).length := (List.getElem?_eq_some_iff.1 hu).1
    rw [hl] at hj
    rw [if_pos hj] at this
    simpa using this
theorem SnAt.len {w : World} {v : Value} {l : List Sn} (h : SnAt w v l) : ∃ p c, v = .slice p l.length c := by
  rcases h with ⟨⟨p, c, rfl⟩, rfl⟩ | ⟨b, c, rfl, _⟩
  · exact ⟨_, _, rfl⟩
  · exact ⟨_, _, rfl⟩
/-! ### devices -/
structure DvS where
  Q : List Int
  S : List Int
  fr : Int
  af : Int
  sn : List Sn
structure DevIs (cur : Array Value) (f : Nat) (x : DvS) (v : Value) : Prop where
  size : cur.size = 85
  one : ∀ (k : Nat) (u : Value), cur[k]? = some u → u.oneCell' = true
  f64 : f < 64
  first : cur[64]? = some (.int .i64 f)
  ring : ∀ (j : Nat) (y : Int), x.Q[j]? = some y → cur[(f + j) % 64]? = some (.int .u32 y)
  count : cur[65]? = some (.int .i64 x.Q.length)
  q64 : x.Q.length ≤ 64
  sec : ∀ (k : Nat) (y : Int), x.S[k]? = some y → cur[66 + k]? = some (.int .u32 y)
  s16 : x.S.length = 16
  frm : cur[82]? = some (.int .i64 x.fr)
  aft : cur[83]? = some (.int .u32 x.af)
  seen : cur[84]? = some v
theorem set_ne {cur : Array Value} {k j : Nat} (u : Value) (h : k ≠ j) : (cur.setIfInBounds k u)[j]? = cur[j]? := by
  rw [Array.getElem?_setIfInBounds, if_neg h]
theorem set_eq {cur : Array Value} {k : Nat} (u : Value) (h : k < cur.size) : (cur.setIfInBounds k u)[k]? = some u := by
  rw [Array.getElem?_setIfInBounds, if_pos rfl, if_pos h]
theorem set_one {cur : Array Value} (h : ∀ (k : Nat) (u : Value), cur[k]? = some u → u.oneCell' = true) (k : Nat) {v : Value} (hv : v.oneCell' = true) : ∀ (j : Nat) (u : Value), (cur.setIfInBounds k v)[j]? = some u → u.oneCell' = true := by
  intro j u hu
  rw [Array.getElem?_setIfInBounds] at hu
  split at hu
  · split at hu
    · obtain rfl := Option.some.inj hu; exact hv
    · cases hu
  · exact h j u hu
section
variable {cur : Array Value} {f : Nat} {x : DvS} {v : Value}
theorem DevIs.push (h : DevIs cur f x v) (hq : x.Q.length < 64) (key : Int) :
    DevIs ((cur.setIfInBounds ((f + x.Q.length) % 64) (.int .u32 key)).setIfInBounds 65 (.int .i64 (x.Q.length + 1 : Nat))) f { x with Q := x.Q ++ [key] } v := by
  have hs := h.size
  have hf := h.f64
  refine ⟨by simp [hs], set_one (set_one h.one _ rfl) _ rfl, h.f64, ?_, ?_, ?_, by simp; omega, ?_, h.s16, ?_, ?_, ?_⟩
  · rw [set_ne _ (by omega), set_ne _ (by omega)]; exact h.first
  · intro j y hy
    rw [set_ne _ (by omega)]
    simp only [List.getElem?_append] at hy
    split at hy
    · rename_i hj
      rw [set_ne _ (by omega)]
      exact h.ring j y hy
    · rename_i hj
      have e : j = x.Q.length := by
        have := (List.getElem?_eq_some_iff.1 hy).1
        simp at this; omega
      subst e
      simp at hy
      subst hy
      rw [set_eq _ (by omega)]
  · rw [set_eq _ (by simp; omega)]; simp
  · intro k y hy
    have hk := (List.getElem?_eq_some_iff.1 hy).1
    have := h.s16
    rw [set_ne _ (by omega), set_ne _ (by omega)]; exact h.sec k y hy
  · rw [set_ne _ (by omega), set_ne _ (by omega)]; exact h.frm
  · rw [set_ne _ (by omega), set_ne _ (by omega)]; exact h.aft
  · rw [set_ne _ (by omega), set_ne _ (by omega)]; exact h.seen
theorem DevIs.pop (h : DevIs cur f x v) {key : Int} {r : List Int} (hq : x.Q = key :: r) :
    DevIs ((cur.setIfInBounds 64 (.int .i64 ((f + 1) % 64 : Nat))).setIfInBounds 65 (.int .i64 r.length)) ((f + 1) % 64) { x with Q := r } v := by
  have hs := h.size
  have hf := h.f64
  have h64 := h.q64
  rw [hq] at h64
  refine ⟨by simp [hs], set_one (set_one h.one _ rfl) _ rfl, by omega, ?_, ?_, ?_, by simp at h64 ⊢; omega, ?_, h.s16, ?_, ?_, ?_⟩
  · rw [set_ne _ (by omega), set_eq _ (by omega)]
  · intro j y hy
    have := h.ring (j + 1) y (by rw [hq]; simpa using hy)
    rw [set_ne _ (by omega), set_ne _ (by omega), show ((f + 1) % 64 + j) % 64 = (f + (j + 1)) % 64 by omega]
    exact this
  · rw [set_eq _ (by simp; omega)]
  · intro k y hy
    have hk := (List.getElem?_eq_some_iff.1 hy).1
    have := h.s16
    rw [set_ne _ (by omega), set_ne _ (by omega)]; exact h.sec k y hy
  · rw [set_ne _ (by omega), set_ne _ (by omega)]; exact h.frm
  · rw [set_ne _ (by omega), set_ne _ (by omega)]; exact h.aft
  · rw [set_ne _ (by omega), set_ne _ (by omega)]; exact h.seen
theorem DevIs.put (h : DevIs cur f x v) {k : Nat} (hk : k < 16) (y : Int) : DevIs (cur.setIfInBounds (66 + k) (.int .u32 y)) f { x with S := x.S.set k y } v := by
  have hs := h.size
  have hf := h.f64
  refine ⟨by simp [hs], set_one h.one _ rfl, h.f64, ?_, ?_, ?_, h.q64, ?_, by simpa using h.s16, ?_, ?_, ?_⟩
  · rw [set_ne _ (by omega)]; exact h.first
  · intro j z hz
    rw [set_ne _ (by omega)]; exact h.ring j z hz
  · rw [set_ne _ (by omega)]; exact h.count
  · intro j z hz
    rw [List.getElem?_set] at hz
    by_cases e : k = j
    · subst e
      rw [if_pos rfl, if_pos (by rw [h.s16]; exact hk)] at hz
      rw [set_eq _ (by omega), Option.some.inj hz]
    · rw [if_neg e] at hz
      rw [set_ne _ (by omega)]; exact h.sec j z hz
  · rw [set_ne _ (by omega)]; exact h.frm
  · rw [set_ne _ (by omega)]; exact h.aft
  · rw [set_ne _ (by omega)]; exact h.seen
theorem DevIs.timer (h : DevIs cur f x v) (a b : Int) : DevIs ((cur.setIfInBounds 82 (.int .i64 a)).setIfInBounds 83 (.int .u32 b)) f { x with fr := a, af := b } v := by
  have hs := h.size
  have hf := h.f64
  refine ⟨by simp [hs], set_one (set_one h.one _ rfl) _ rfl, h.f64, ?_, ?_, ?_, h.q64, ?_, h.s16, ?_, ?_, ?_⟩
  · rw [set_ne _ (by omega), set_ne _ (by omega)]; exact h.first
  · intro j z hz
    rw [set_ne _ (by omega), set_ne _ (by omega)]; exact h.ring j z hz
  · rw [set_ne _ (by omega), set_ne _ (by omega)]; exact h.count
  · intro j z hz
    have hk : j < x.S.length := (List.getElem?_eq_some_iff.1 hz).1
    have := h.s16
    rw [set_ne _ (by omega), set_ne _ (by omega)]; exact h.sec j z hz
  · rw [set_ne _ (by omega), set_eq _ (by omega)]
  · rw [set_eq _ (by simp; omega)]
  · rw [set_ne _ (by omega), set_ne _ (by omega)]; exact h.seen
theorem DevIs.show (h : DevIs cur f x v) {u : Value} (hu : u.oneCell' = true) (l : List Sn) : DevIs (cur.setIfInBounds 84 u) f { x with sn := l } u := by
  have hs := h.size
  have hf := h.f64
  refine ⟨by simp [hs], set_one h.one _ hu, h.f64, ?_, ?_, ?_, h.q64, ?_, h.s16, ?_, ?_, ?_⟩
  · rw [set_ne _ (by omega)]; exact h.first
  · intro j z hz
    rw [set_ne _ (by omega)]; exact h.ring j z hz
  · rw [set_ne _ (by omega)]; exact h.count
  · intro j z hz
    have hk : j < x.S.length := (List.getElem?_eq_some_iff.1 hz).1
    have := h.s16
    rw [set_ne _ (by omega)]; exact h.sec j z hz
  · rw [set_ne _ (by omega)]; exact h.frm
  · rw [set_ne _ (by omega)]; exact h.aft
  · rw [set_eq _ (by omega)]
end
def foot (d : Nat) (v : Value) : List Nat := d :: v.ownBlock.toList
theorem mem_foot {d i : Nat} {v : Value} : i ∈ foot d v ↔ i = d ∨ v.ownBlock = some i := by
  unfold foot
  rw [List.mem_cons, Option.mem_toList]
section
variable {w w1 : World} {B B' d : Nat} {x : DvS} {v : Value} {R : List Nat}
end
/-- what was written is new, or was its own -/
def Mine (w : World) (v v' : Value) : Prop := v'.ownBlock = v.ownBlock ∨ ∀ g, v'.ownBlock = some g → w.heap.size ≤ g
/-- two that share nothing -/
def Apart (R R' : List Nat) : Prop := ∀ i ∈ R, i ∉ R'
theorem Apart.symm {R R' : List Nat} (h : Apart R R') : Apart R' R := fun i hi k => h i k hi
theorem Apart.mine {w : World} {d : Nat} {v v' : Value} {R : List Nat} (h : Apart (foot d v) R) (hm : Mine w v v') (hR : ∀ i ∈ R, i < w.heap.size) : Apart (foot d v') R := by
  intro i hi hi2
  rcases mem_foot.1 hi with rfl | hi
  · exact h _ (mem_foot.2 (.inl rfl)) hi2
  · rcases hm with hm | hm
    · exact h i (mem_foot.2 (.inr (hm.symm.trans hi))) hi2
    · have := hm i hi; have := hR i hi2; omega
end Go.Proofs.Ytpkgckjlhjcdmaa
