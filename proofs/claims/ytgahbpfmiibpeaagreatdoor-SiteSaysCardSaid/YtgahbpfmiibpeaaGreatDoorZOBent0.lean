/- A byte that is turned: plain facts; bytes of the law's own, read again. -/
import Derived.Test.YtgahbpfmiibpeaaGreatDoorZGObjM
import Derived.Test.YtgahbpfmiibpeaaGreatDoorZGRead
import Derived.Test.YtgahbpfmiibpeaaGreatDoorZObjS
namespace Go.Proofs.YtgahbpfmiibpeaaGreatDoor
open Go.RowKit
theorem ll_of_light {x : PO} {n : Int} (h : LightP x n) (hn : n ≤ 1000) : Ll x := ⟨by have := h.d; omega, by have := h.c; omega, by have := h.m; omega, by have := h.r; omega, by have := h.q; omega, by have := h.s; omega⟩
/-- bytes that the law has made, one of them written -/
theorem by_set {B : Nat} {w : World} {v : Value} {bs : List Int} (h : By B w v bs) {k : Nat} (hk : k < bs.length) : ∃ g cap, v = .slice (some ⟨g, 0, none⟩) bs.length cap ∧ B ≤ g ∧ g < w.heap.size ∧ w.cell? ⟨g, k, none⟩ = some (.int .u8 (bs.getD k 0)) ∧ w.frozen? ⟨g, k, none⟩ = false ∧
    ∀ y, BvAt (w.setCell ⟨g, k, none⟩ (.int .u8 y)) v (bs.set k y) := by
  have hs := SlAt.own h.own
  rcases h.own.2 with ⟨_, h0⟩ | ⟨g, cap, cur, rfl, hB, hblk, hnc, hcm, _, _⟩
  · omega
  · obtain ⟨b, o, c, hv, hb, hc⟩ := hs.at_ (by omega)
    simp only [Value.slice.injEq, Option.some.injEq, Addr.mk.injEq, and_true] at hv
    obtain ⟨⟨rfl, rfl⟩, _, rfl⟩ := hv
    have hck := hc k _ (List.getElem?_eq_getElem hk)
    rw [Nat.zero_add] at hck
    refine ⟨g, cap, rfl, hB, hb, ?_, frozen_of_row w g k _ _ hblk, fun y => .inr ⟨g, 0, cap, by simp, by simpa using hnc, by unfold maxLen at hcm; omega, by simpa using hb, fun j z hz => ?_⟩⟩
    · rw [List.getD_eq_getElem?_getD, List.getElem?_eq_getElem hk]; exact hck
    · rw [List.getElem?_set] at hz
      rw [Nat.zero_add, cell_of_row _ g _ _ _ _ (heap_setCell_same w g k _ _ _ hblk), Array.getElem?_setIfInBounds]
      have hj := hc j
      rw [Nat.zero_add, cell_of_row w g _ _ _ _ hblk] at hj
      rw [cell_of_row w g _ _ _ _ hblk] at hck
      have hsz : k < cur.size := (Array.getElem?_eq_some_iff.1 hck).1
      by_cases e : k = j
      · subst e
        rw [if_pos rfl, if_pos hk] at hz
        rw [if_pos rfl, if_pos hsz, ← Option.some.inj hz]
      · rw [if_neg e] at hz
        rw [if_neg e]
        exact hj z hz
theorem bent_bit {N : Nat} {old : Int} (hN : N < 8) (h0 : 0 ≤ old) (h1 : old < 256) : 0 ≤ bits BinOp.xor IntKind.u8 old (2 ^ min N 8 % 256) ∧ bits BinOp.xor IntKind.u8 old (2 ^ min N 8 % 256) < 256 ∧ bits BinOp.xor IntKind.u8 old (2 ^ min N 8 % 256) ≠ old := by
  obtain ⟨n, rfl⟩ := Int.eq_ofNat_of_zero_le h0
  have key : ((List.range 8).all fun N => (List.range 256).all fun n => decide (0 ≤ bits BinOp.xor IntKind.u8 (n : Int) (2 ^ min N 8 % 256) ∧ bits BinOp.xor IntKind.u8 (n : Int) (2 ^ min N 8 % 256) < 256 ∧ bits BinOp.xor IntKind.u8 (n : Int) (2 ^ min N 8 % 256) ≠ (n : Int))) = true := by kernel_rfl
  have h2 := List.all_eq_true.1 key N (List.mem_range.2 hN)
  have h3 := List.all_eq_true.1 h2 n (List.mem_range.2 (by omega))
  exact of_decide_eq_true h3
theorem run_at_eq_nil (B : Nat) (w : World) : (binOp .eql 35 (atV B) .nilIface).run Tryz.prog w = .ok (.bool false) w := by
  have h : ∀ d : Nat, (Op.equalIn (d + 1) 35 (atV B) .nilIface).run Tryz.prog w = .ok false w := fun d => by simp [Op.equalIn, run_underlying Tryz.underlying35]
  simp only [binOp]
  simp [Op.equal, Op.maxDepth, h 9999]
theorem flt_is_e {A : Nat → Addr} {w : World} {v : Value} {y : Fl} (h : FltAt A w v y) (hy : y ≠ none) : ∃ t p, v = .iface t p ∧ (∀ W, (binOp .eql 35 (.iface t p) .nilIface).run Tryz.prog W = .ok (.bool false) W) ∧ ∀ W, (binOp .neq 35 (.iface t p) .nilIface).run Tryz.prog W = .ok (.bool true) W := by
  match y, h with
  | none, _ => exact absurd rfl hy
  | some (c, none), h => exact ⟨_, _, h, fun W => run_err_nil (A c) W, fun W => run_err_neq_nil (A c) W⟩
  | some (c, some p), ⟨B, hv, _⟩ => exact ⟨_, _, hv, fun W => run_at_eq_nil B W, fun W => run_at_neq_nil B W⟩
theorem bt_set {bs : List Int} (h : BtB bs) (k : Nat) {y : Int} (h0 : 0 ≤ y) (h1 : y < 256) : BtB (bs.set k y) := by
  intro b hb
  rcases List.mem_or_eq_of_mem_set hb with hb | rfl
  · exact h b hb
  · exact ⟨h0, h1⟩
theorem bytes_len {x : PO} (h : OkP x) : 24 ≤ (bytesP x).length ∧ (bytesP x).length ≤ 100000 := by
  have h1 := part_len h
  have h2 := sysB_le x.S 32 (fun s hs => (names_of h s hs).1)
  have h3 := many_of h
  unfold bytesP
  simp only [List.length_append, wsB_length, List.length_cons, List.length_nil, rlsB_length]
  have : (lensI x).length = 5 := rfl
  have := h.len
  omega
theorem bytes_bt {x : PO} (_h : OkP x) (hf : OFit x) : BtB (bytesP x) := by
  have hw : ∀ l : List Int, BtB (wsB l) := by
    intro l
    induction l with
    | nil => intro b hb; cases hb
    | cons n l ih =>
      intro b hb
      rw [wsB, List.mem_append] at hb
      rcases hb with hb | hb
      · simp only [w4, List.mem_cons, List.not_mem_nil, or_false] at hb
        omega
      · exact ih b hb
  have hr : ∀ l : List Rl, BtB (rlsB l) := by
    intro l
    induction l with
    | nil => intro b hb; cases hb
    | cons n l ih =>
      intro b hb
      rw [rlsB, List.mem_append] at hb
      rcases hb with hb | hb
      · exact hw _ b hb
      · exact ih b hb
  have hs : ∀ l : List Sy, BtB (sysB l) := by
    intro l
    induction l with
    | nil => intro b hb; cases hb
    | cons n l ih =>
      intro b hb
      rw [sysB, List.mem_append] at hb
      rcases hb with hb | hb
      · rw [syB, List.mem_append] at hb
        rcases hb with hb | hb
        · exact hw _ b hb
        · unfold strI at hb
          obtain ⟨u, _, rfl⟩ := List.mem_map.1 hb
          have := u.toNat_lt
          omega
      · exact ih b hb
  intro b hb
  unfold bytesP at hb
  simp only [List.mem_append] at hb
  rcases hb with ((((((hb | hb) | hb) | hb) | hb) | hb) | hb) | hb
  · exact hw _ b hb
  · exact hw _ b hb
  · exact hw _ b hb
  · exact hw _ b hb
  · exact hf.m b hb
  · exact hr _ b hb
  · exact hr _ b hb
  · exact hs _ b hb
end Go.Proofs.YtgahbpfmiibpeaaGreatDoor
