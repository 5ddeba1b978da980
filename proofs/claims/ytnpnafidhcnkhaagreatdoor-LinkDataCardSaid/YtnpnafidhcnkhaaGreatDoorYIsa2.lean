/- What the calls of package isa do: mayBe, Word, Of, Disp: contracts. -/
import Derived.Test.YtnpnafidhcnkhaaGreatDoorYBase
import Derived.BigGuardPart
import Derived.Deep.RegionHeld3
import Derived.BigQuiet
import Derived.LoopTactic
import Derived.WideShapes
namespace Go.Proofs.YtnpnafidhcnkhaaGreatDoor
open Go.RowKit
theorem ret_wb {k : IntKind} {a b : Int} {c : Bool} (h : a = b) : Ending.returned (.tuple #[.int k a, .bool c]) = .returned (.tuple #[.int k b, .bool c]) := by rw [h]
theorem ins_ways (op a b c imm : Int) :
    ((clsI op == 0) = true ∧ Hid (insB op a b c imm = false)) ∨
    ((clsI op == 0) = false ∧ alwB (hasA op) a = false ∧ Hid (insB op a b c imm = false)) ∨
    ((clsI op == 0) = false ∧ alwB (hasA op) a = true ∧ alwB (hasB op) b = false ∧ Hid (insB op a b c imm = false)) ∨
    ((clsI op == 0) = false ∧ alwB (hasA op) a = true ∧ alwB (hasB op) b = true ∧ alwB (hasC op) c = false ∧ Hid (insB op a b c imm = false)) ∨
    ((clsI op == 0) = false ∧ alwB (hasA op) a = true ∧ alwB (hasB op) b = true ∧ alwB (hasC op) c = true ∧ (imm == 0) = true ∧ Hid (insB op a b c imm = true)) ∨
    ((clsI op == 0) = false ∧ alwB (hasA op) a = true ∧ alwB (hasB op) b = true ∧ alwB (hasC op) c = true ∧ (imm == 0) = false ∧ Hid (insB op a b c imm = twoB op)) := by
  unfold Hid
  unfold insB
  by_cases h0 : clsI op = 0
  · left; simp [h0]
  · right
    cases h1 : alwB (hasA op) a
    · left; simp [h0]
    · right
      cases h2 : alwB (hasB op) b
      · left; simp [h0]
      · right
        cases h3 : alwB (hasC op) c
        · left; simp [h0]
        · right
          by_cases h4 : imm = 0
          · left; simp [h0, h4]
          · right; simp [h0, h4]
set_option maxHeartbeats 1000000 in
theorem mayBe_any (op a b c imm : Int) (w : World) :
    Calls Tryz.prog 79 #[.agg #[.int .i64 op, .int .i64 a, .int .i64 b, .int .i64 c, .int .u32 imm]] w fun e w' => e = .returned (.bool (insB op a b c imm)) ∧ Below w.heap.size w w' := by
  rcases ins_ways op a b c imm with ⟨h0, hv⟩ | ⟨h0, h1, hv⟩ | ⟨h0, h1, h2, hv⟩ | ⟨h0, h1, h2, h3, hv⟩ | ⟨h0, h1, h2, h3, h4, hv⟩ | ⟨h0, h1, h2, h3, h4, hv⟩
  all_goals
    go_enter Tryz.func79, Tryz.ntmps79
    go_wp2_with (first | (go_at_call 99; refine (askc_any _ _).mono ?_; rintro e w' ⟨rfl, rfl⟩) | (go_at_call 100; refine (operands_any _ _).mono ?_; rintro e w' ⟨rfl, hb⟩; obtain ⟨hc, hf⟩ := bcell hb; have hz : w.heap.size < w'.heap.size := (by have := hb.size; simp only [World.size_alloc] at this; omega); have hB : Below w.heap.size w w' := (by refine Below.trans ?_ (hb.mono ?_) <;> go_grown)) | (go_at_call 101; refine (allows_any _ _ _).mono ?_; rintro e w' ⟨rfl, rfl⟩) | (go_at_call 90; refine (askt_any _ _).mono ?_; rintro e w' ⟨rfl, rfl⟩))
    go_ret
    refine ⟨ret_b hv.out.symm, ?_⟩
    go_grown
/-- the four bytes of a word -/
theorem wrd_or (op a b c : Int) (h0 : 0 ≤ op ∧ op ≤ 255) (h1 : 0 ≤ a ∧ a ≤ 255) (h2 : 0 ≤ b ∧ b ≤ 255) (h3 : 0 ≤ c ∧ c ≤ 255) :
    bits BinOp.or IntKind.u32 (bits BinOp.or IntKind.u32 (bits BinOp.or IntKind.u32 (op * 16777216) (a * 65536)) (b * 256)) c = wrdI op a b c := by
  obtain ⟨n0, rfl⟩ := Int.eq_ofNat_of_zero_le h0.1
  obtain ⟨n1, rfl⟩ := Int.eq_ofNat_of_zero_le h1.1
  obtain ⟨n2, rfl⟩ := Int.eq_ofNat_of_zero_le h2.1
  obtain ⟨n3, rfl⟩ := Int.eq_ofNat_of_zero_le h3.1
  have q1 : n0 * 16777216 ||| n1 * 65536 = n0 * 16777216 + n1 * 65536 := nat_join 24 _ _ (by omega) (by omega)
  have q2 : (n0 * 16777216 + n1 * 65536) ||| n2 * 256 = n0 * 16777216 + n1 * 65536 + n2 * 256 := nat_join 16 _ _ (by omega) (by omega)
  have q3 : (n0 * 16777216 + n1 * 65536 + n2 * 256) ||| n3 = n0 * 16777216 + n1 * 65536 + n2 * 256 + n3 := nat_join 8 _ _ (by omega) (by omega)
  have e0 : ((n0 : Int) * 16777216) = ((n0 * 16777216 : Nat) : Int) := by omega
  have e1 : ((n1 : Int) * 65536) = ((n1 * 65536 : Nat) : Int) := by omega
  have e2 : ((n2 : Int) * 256) = ((n2 * 256 : Nat) : Int) := by omega
  unfold wrdI
  rw [e0, e1, e2, u32_or_nat (n0 * 16777216) (n1 * 65536) (by omega) (by omega), q1, u32_or_nat _ (n2 * 256) (by omega) (by omega), q2, u32_or_nat _ n3 (by omega) (by omega), q3]
  omega
theorem and_255 (x : Int) (h : 0 ≤ x) (h' : x < 4294967296) : bits BinOp.and IntKind.u32 x 255 = x % 256 := by
  obtain ⟨n, rfl⟩ := Int.eq_ofNat_of_zero_le h
  rw [show (255 : Int) = ((255 : Nat) : Int) from rfl, u32_and_nat n 255 (by omega) (by decide), nat_mask8]
  omega
set_option maxHeartbeats 1000000 in
theorem word_yes (op a b c imm : Int) (w : World) (h : insB op a b c imm = true) :
    Calls Tryz.prog 60 #[.agg #[.int .i64 op, .int .i64 a, .int .i64 b, .int .i64 c, .int .u32 imm]] w fun e w' => e = .returned (.tuple #[.int .u32 (wrdI op a b c), .bool true]) ∧ Below w.heap.size w w' := by
  obtain ⟨⟨o1, o2⟩, ⟨a1, a2⟩, ⟨b1, b2⟩, ⟨c1, c2⟩⟩ := ins_bd h
  have H : Hid (bits BinOp.or IntKind.u32 (bits BinOp.or IntKind.u32 (bits BinOp.or IntKind.u32 (op * 16777216) (a * 65536)) (b * 256)) c = wrdI op a b c) := wrd_or op a b c ⟨by omega, by omega⟩ ⟨a1, a2⟩ ⟨b1, b2⟩ ⟨c1, c2⟩
  go_enter Tryz.func60, Tryz.ntmps60
  go_wp2_with (go_at_call 79; refine (mayBe_any _ _ _ _ _ _).mono ?_; rintro e w' ⟨rfl, hb⟩; obtain ⟨hc, hf⟩ := bcell hb; have hz : w.heap.size < w'.heap.size := (by have := hb.size; simp only [World.size_alloc] at this; omega); have hB : Below w.heap.size w w' := (by refine Below.trans ?_ (hb.mono ?_) <;> go_grown))
  go_ret2
  exact ⟨ret_wb H.out, hB⟩
set_option maxHeartbeats 1000000 in
theorem word_no (op a b c imm : Int) (w : World) (h : insB op a b c imm = false) :
    Calls Tryz.prog 60 #[.agg #[.int .i64 op, .int .i64 a, .int .i64 b, .int .i64 c, .int .u32 imm]] w fun e w' => e = .returned (.tuple #[.int .u32 0, .bool false]) ∧ Below w.heap.size w w' := by
  go_enter Tryz.func60, Tryz.ntmps60
  go_wp2_with (go_at_call 79; refine (mayBe_any _ _ _ _ _ _).mono ?_; rintro e w' ⟨rfl, hb⟩; have hB : Below w.heap.size w w' := (by refine Below.trans ?_ (hb.mono ?_) <;> go_grown))
  go_ret2
  exact ⟨rfl, hB⟩
def wantImm (op imm : Int) : Int := if twoB op = true then imm else 0
theorem wantImm_yes {op imm : Int} (h : twoB op = true) : wantImm op imm = imm := by unfold wantImm; rw [if_pos h]
theorem wantImm_no {op imm : Int} (h : twoB op = false) : wantImm op imm = 0 := by unfold wantImm; rw [if_neg (by simp [h])]
theorem ret_of {op a b c i op' a' b' c' i' : Int} {t : Bool} (h0 : op = op') (h1 : a = a') (h2 : b = b') (h3 : c = c') (h4 : i = i') :
    Ending.returned (.tuple #[.agg #[.int .i64 op, .int .i64 a, .int .i64 b, .int .i64 c, .int .u32 i], .bool t]) = .returned (.tuple #[.agg #[.int .i64 op', .int .i64 a', .int .i64 b', .int .i64 c', .int .u32 i'], .bool t]) := by rw [h0, h1, h2, h3, h4]
set_option maxHeartbeats 1000000 in
theorem of_yes (x imm : Int) (w : World) (hx0 : 0 ≤ x) (hx1 : x < 4294967296) (h : insB (x / 16777216) (x / 65536 % 256) (x / 256 % 256) (x % 256) (wantImm (x / 16777216) imm) = true) :
    Calls Tryz.prog 73 #[.int .u32 x, .int .u32 imm] w fun e w' => e = .returned (.tuple #[.agg #[.int .i64 (x / 16777216), .int .i64 (x / 65536 % 256), .int .i64 (x / 256 % 256), .int .i64 (x % 256), .int .u32 (wantImm (x / 16777216) imm)], .bool true]) ∧ Below w.heap.size w w' := by
  have E1 := and_255 (x / 65536) (by omega) (by omega)
  have E2 := and_255 (x / 256) (by omega) (by omega)
  have E3 := and_255 x (by omega) (by omega)
  cases ht : twoB (x / 16777216)
  · have hw : Hid (wantImm (x / 16777216) imm = 0) := wantImm_no ht
    rw [wantImm_no ht] at h
    go_enter Tryz.func73, Tryz.ntmps73
    go_wp2_with (first | (go_at_call 90; refine (askt_any _ _).mono ?_; rintro e w' ⟨rfl, rfl⟩) | (go_at_call 79; refine (mayBe_any _ _ _ _ _ _).mono ?_; rintro e w' ⟨rfl, hb⟩; obtain ⟨hc, hf⟩ := bcell hb; have hz1 : w.heap.size + 1 < w'.heap.size := (by have := hb.size; simp only [World.size_alloc] at this; omega); have hz : w.heap.size < w'.heap.size := (by omega); have hB : Below w.heap.size w w' := (by refine Below.trans ?_ (hb.mono ?_) <;> go_grown); have k0 : w'.cell? ⟨w.heap.size, 0, none⟩ = some (.int .i64 0) := ((hc _ _ (by simp only [World.size_alloc]; omega)).trans (by simp [go_sem])); have k1 : w'.cell? ⟨w.heap.size, 1, none⟩ = some (.int .i64 0) := ((hc _ _ (by simp only [World.size_alloc]; omega)).trans (by simp [go_sem])); have k2 : w'.cell? ⟨w.heap.size, 2, none⟩ = some (.int .i64 0) := ((hc _ _ (by simp only [World.size_alloc]; omega)).trans (by simp [go_sem])); have k3 : w'.cell? ⟨w.heap.size, 3, none⟩ = some (.int .i64 0) := ((hc _ _ (by simp only [World.size_alloc]; omega)).trans (by simp [go_sem])); have k4 : w'.cell? ⟨w.heap.size, 4, none⟩ = some (.int .u32 0) := ((hc _ _ (by simp only [World.size_alloc]; omega)).trans (by simp [go_sem]))))
    refine bodyPost_ret (v := .tuple #[.agg #[.int .i64 (x / 16777216), .int .i64 (x / 65536 % 256), .int .i64 (x / 256 % 256), .int .i64 (x % 256), .int .u32 0], .bool true]) (by simp [results, Tryz.results73, k0, k1, k2, k3, k4, go_sem]) rfl ?_
    exact ⟨ret_of rfl rfl rfl rfl hw.out.symm, by go_grown⟩
  · have hw : Hid (wantImm (x / 16777216) imm = imm) := wantImm_yes ht
    rw [wantImm_yes ht] at h
    go_enter Tryz.func73, Tryz.ntmps73
    go_wp2_with (first | (go_at_call 90; refine (askt_any _ _).mono ?_; rintro e w' ⟨rfl, rfl⟩) | (go_at_call 79; refine (mayBe_any _ _ _ _ _ _).mono ?_; rintro e w' ⟨rfl, hb⟩; obtain ⟨hc, hf⟩ := bcell hb; have hz1 : w.heap.size + 1 < w'.heap.size := (by have := hb.size; simp only [World.size_alloc] at this; omega); have hz : w.heap.size < w'.heap.size := (by omega); have hB : Below w.heap.size w w' := (by refine Below.trans ?_ (hb.mono ?_) <;> go_grown); have k0 : w'.cell? ⟨w.heap.size, 0, none⟩ = some (.int .i64 0) := ((hc _ _ (by simp only [World.size_alloc]; omega)).trans (by simp [go_sem])); have k1 : w'.cell? ⟨w.heap.size, 1, none⟩ = some (.int .i64 0) := ((hc _ _ (by simp only [World.size_alloc]; omega)).trans (by simp [go_sem])); have k2 : w'.cell? ⟨w.heap.size, 2, none⟩ = some (.int .i64 0) := ((hc _ _ (by simp only [World.size_alloc]; omega)).trans (by simp [go_sem])); have k3 : w'.cell? ⟨w.heap.size, 3, none⟩ = some (.int .i64 0) := ((hc _ _ (by simp only [World.size_alloc]; omega)).trans (by simp [go_sem])); have k4 : w'.cell? ⟨w.heap.size, 4, none⟩ = some (.int .u32 0) := ((hc _ _ (by simp only [World.size_alloc]; omega)).trans (by simp [go_sem]))))
    refine bodyPost_ret (v := .tuple #[.agg #[.int .i64 (x / 16777216), .int .i64 (x / 65536 % 256), .int .i64 (x / 256 % 256), .int .i64 (x % 256), .int .u32 imm], .bool true]) (by simp [results, Tryz.results73, k0, k1, k2, k3, k4, go_sem]) rfl ?_
    exact ⟨ret_of rfl rfl rfl rfl hw.out.symm, by go_grown⟩
set_option maxHeartbeats 1000000 in
theorem of_no (x imm : Int) (w : World) (hx0 : 0 ≤ x) (hx1 : x < 4294967296) (h : insB (x / 16777216) (x / 65536 % 256) (x / 256 % 256) (x % 256) (wantImm (x / 16777216) imm) = false) :
    Calls Tryz.prog 73 #[.int .u32 x, .int .u32 imm] w fun e w' => e = .returned (.tuple #[.agg #[.int .i64 0, .int .i64 0, .int .i64 0, .int .i64 0, .int .u32 0], .bool false]) ∧ Below w.heap.size w w' := by
  have E1 := and_255 (x / 65536) (by omega) (by omega)
  have E2 := and_255 (x / 256) (by omega) (by omega)
  have E3 := and_255 x (by omega) (by omega)
  cases ht : twoB (x / 16777216)
  · have hw : Hid (wantImm (x / 16777216) imm = 0) := wantImm_no ht
    rw [wantImm_no ht] at h
    go_enter Tryz.func73, Tryz.ntmps73
    go_wp2_with (first | (go_at_call 90; refine (askt_any _ _).mono ?_; rintro e w' ⟨rfl, rfl⟩) | (go_at_call 79; refine (mayBe_any _ _ _ _ _ _).mono ?_; rintro e w' ⟨rfl, hb⟩; obtain ⟨hc, hf⟩ := bcell hb; have hz1 : w.heap.size + 1 < w'.heap.size := (by have := hb.size; simp only [World.size_alloc] at this; omega); have hz : w.heap.size < w'.heap.size := (by omega); have hB : Below w.heap.size w w' := (by refine Below.trans ?_ (hb.mono ?_) <;> go_grown); have k0 : w'.cell? ⟨w.heap.size, 0, none⟩ = some (.int .i64 0) := ((hc _ _ (by simp only [World.size_alloc]; omega)).trans (by simp [go_sem])); have k1 : w'.cell? ⟨w.heap.size, 1, none⟩ = some (.int .i64 0) := ((hc _ _ (by simp only [World.size_alloc]; omega)).trans (by simp [go_sem])); have k2 : w'.cell? ⟨w.heap.size, 2, none⟩ = some (.int .i64 0) := ((hc _ _ (by simp only [World.size_alloc]; omega)).trans (by simp [go_sem])); have k3 : w'.cell? ⟨w.heap.size, 3, none⟩ = some (.int .i64 0) := ((hc _ _ (by simp only [World.size_alloc]; omega)).trans (by simp [go_sem])); have k4 : w'.cell? ⟨w.heap.size, 4, none⟩ = some (.int .u32 0) := ((hc _ _ (by simp only [World.size_alloc]; omega)).trans (by simp [go_sem]))))
    refine bodyPost_ret (v := .tuple #[.agg #[.int .i64 0, .int .i64 0, .int .i64 0, .int .i64 0, .int .u32 0], .bool false]) (by simp [results, Tryz.results73, k0, k1, k2, k3, k4, go_sem]) rfl ?_
    exact ⟨ret_of rfl rfl rfl rfl rfl, by go_grown⟩
  · have hw : Hid (wantImm (x / 16777216) imm = imm) := wantImm_yes ht
    rw [wantImm_yes ht] at h
    go_enter Tryz.func73, Tryz.ntmps73
    go_wp2_with (first | (go_at_call 90; refine (askt_any _ _).mono ?_; rintro e w' ⟨rfl, rfl⟩) | (go_at_call 79; refine (mayBe_any _ _ _ _ _ _).mono ?_; rintro e w' ⟨rfl, hb⟩; obtain ⟨hc, hf⟩ := bcell hb; have hz1 : w.heap.size + 1 < w'.heap.size := (by have := hb.size; simp only [World.size_alloc] at this; omega); have hz : w.heap.size < w'.heap.size := (by omega); have hB : Below w.heap.size w w' := (by refine Below.trans ?_ (hb.mono ?_) <;> go_grown); have k0 : w'.cell? ⟨w.heap.size, 0, none⟩ = some (.int .i64 0) := ((hc _ _ (by simp only [World.size_alloc]; omega)).trans (by simp [go_sem])); have k1 : w'.cell? ⟨w.heap.size, 1, none⟩ = some (.int .i64 0) := ((hc _ _ (by simp only [World.size_alloc]; omega)).trans (by simp [go_sem])); have k2 : w'.cell? ⟨w.heap.size, 2, none⟩ = some (.int .i64 0) := ((hc _ _ (by simp only [World.size_alloc]; omega)).trans (by simp [go_sem])); have k3 : w'.cell? ⟨w.heap.size, 3, none⟩ = some (.int .i64 0) := ((hc _ _ (by simp only [World.size_alloc]; omega)).trans (by simp [go_sem])); have k4 : w'.cell? ⟨w.heap.size, 4, none⟩ = some (.int .u32 0) := ((hc _ _ (by simp only [World.size_alloc]; omega)).trans (by simp [go_sem]))))
    refine bodyPost_ret (v := .tuple #[.agg #[.int .i64 0, .int .i64 0, .int .i64 0, .int .i64 0, .int .u32 0], .bool false]) (by simp [results, Tryz.results73, k0, k1, k2, k3, k4, go_sem]) rfl ?_
    exact ⟨ret_of rfl rfl rfl rfl rfl, by go_grown⟩
end Go.Proofs.YtnpnafidhcnkhaaGreatDoor
namespace Go.Proofs.YtnpnafidhcnkhaaGreatDoor
open Go.RowKit
/-! ### cells in a slice -/
/-- the slice value v has n elements, whose cells are these -/
def CsAt (w : World) (v : Value) (n : Nat) (cs : List Value) : Prop :=
  ((∃ p c, v = .slice p 0 c) ∧ n = 0 ∧ cs = []) ∨
  ∃ b o c, v = .slice (some ⟨b, o, none⟩) n c ∧ n ≤ c ∧ b < w.heap.size ∧ ∀ j u, cs[j]? = some u → w.cell? ⟨b, o + j, none⟩ = some u
section
variable {w w1 : World} {v : Value} {n : Nat} {cs : List Value}
theorem CsAt.kept0 (h : CsAt w v n cs) (hg : w.grownBy w1 none) : CsAt w1 v n cs := by
  rcases h with h | ⟨b, o, c, rfl, hn, hb, hc⟩
  · exact .inl h
  · refine .inr ⟨b, o, c, rfl, hn, Nat.lt_of_lt_of_le hb hg.size, fun j x hx => ?_⟩
    rw [grown_cell hg hb (by simp)]
    exact hc j x hx
theorem CsAt.len (h : CsAt w v n cs) : ∃ p c, v = .slice p n c := by
  rcases h with ⟨⟨p, c, rfl⟩, rfl, rfl⟩ | ⟨b, o, c, rfl, _⟩
  · exact ⟨_, _, rfl⟩
  · exact ⟨_, _, rfl⟩
theorem CsAt.own {base : Nat} {t : TypeId} {size : Nat} (h : w.ownsRow base t size v n cs) : CsAt w v n cs := by
  obtain ⟨hl, h⟩ := h
  rcases h with ⟨rfl, h0⟩ | ⟨g, cap, cur, rfl, _, hg, hcl, _, _, ht⟩
  · subst h0
    exact .inl ⟨⟨_, _, rfl⟩, rfl, List.eq_nil_of_length_eq_zero (by omega)⟩
  · refine .inr ⟨g, 0, cap, rfl, hcl, (Array.getElem?_eq_some_iff.1 hg).1, fun j u hu => ?_⟩
    rw [cell_of_row w g _ _ t _ hg, Nat.zero_add]
    have := congrArg (·[j]?) ht
    simp only [List.getElem?_take, hu] at this
    have hj : j < cs.length := (List.getElem?_eq_some_iff.1 hu).1
    rw [hl] at hj
    rw [if_pos hj] at this
    simpa using this
theorem CsAt.at_ (h : CsAt w v n cs) (hn : 0 < n) : ∃ b o c, v = .slice (some ⟨b, o, none⟩) n c ∧ n ≤ c ∧ b < w.heap.size ∧ ∀ j u, cs[j]? = some u → w.cell? ⟨b, o + j, none⟩ = some u := by
  rcases h with ⟨_, h0, _⟩ | h
  · omega
  · exact h
theorem SlAt.at_ {k : IntKind} {xs : List Int} (h : SlAt w k v xs) (hn : 0 < xs.length) : ∃ b o c, v = .slice (some ⟨b, o, none⟩) xs.length c ∧ b < w.heap.size ∧ ∀ j x, xs[j]? = some x → w.cell? ⟨b, o + j, none⟩ = some (.int k x) := by
  rcases h with ⟨_, rfl⟩ | h
  · simp at hn
  · exact h
theorem SlAt.len' {k : IntKind} {ls : List Int} (h : SlAt w k v ls) : ∃ p c', v = .slice p ls.length c' := by
  rcases h with ⟨⟨p, c, rfl⟩, rfl⟩ | ⟨b, o, c, rfl, _⟩
  · exact ⟨_, _, rfl⟩
  · exact ⟨_, _, rfl⟩
end
/-! ### relocations and symbols -/
def rlC (r : Rl) : List Value := [.int .i64 r.a, .int .i64 r.k, .int .i64 r.s, .int .i64 r.d]
def syC (s : Sy) : List Value := [.string s.n, .int .i64 s.i, .int .i64 s.v, .bool s.g]
def rlsC : List Rl → List Value
  | [] => []
  | r :: l => rlC r ++ rlsC l
def sysC : List Sy → List Value
  | [] => []
  | r :: l => syC r ++ sysC l
theorem rlsC_length : ∀ l : List Rl, (rlsC l).length = l.length * 4
  | [] => rfl
  | s :: r => by rw [rlsC, List.length_append, rlsC_length r, List.length_cons]; simp [rlC]; omega
theorem rlsC_append : ∀ l m : List Rl, rlsC (l ++ m) = rlsC l ++ rlsC m
  | [], _ => rfl
  | s :: r, m => by rw [List.cons_append, rlsC, rlsC_append r m, rlsC, List.append_assoc]
theorem sysC_append : ∀ l m : List Sy, sysC (l ++ m) = sysC l ++ sysC m
  | [], _ => rfl
  | s :: r, m => by rw [List.cons_append, sysC, sysC_append r m, sysC, List.append_assoc]
theorem rlsC_get : ∀ (l : List Rl) (k j : Nat) (s : Rl), l[k]? = some s → j < 4 → (rlsC l)[k * 4 + j]? = (rlC s)[j]?
  | [], _, _, _, h, _ => by simp at h
  | x :: r, 0, j, s, h, hj => by
    obtain rfl : x = s := by simpa using h
    rw [rlsC, Nat.zero_mul, Nat.zero_add, List.getElem?_append_left (by simpa [rlC] using hj)]
  | x :: r, k + 1, j, s, h, hj => by
    have := rlsC_get r k j s (by simpa using h) hj
    rw [rlsC, List.getElem?_append_right (by simp [rlC]; omega)]
    rw [← this]
    congr 1
    simp [rlC]; omega
theorem sysC_get : ∀ (l : List Sy) (k j : Nat) (s : Sy), l[k]? = some s → j < 4 → (sysC l)[k * 4 + j]? = (syC s)[j]?
  | [], _, _, _, h, _ => by simp at h
  | x :: r, 0, j, s, h, hj => by
    obtain rfl : x = s := by simpa using h
    rw [sysC, Nat.zero_mul, Nat.zero_add, List.getElem?_append_left (by simpa [syC] using hj)]
  | x :: r, k + 1, j, s, h, hj => by
    have := sysC_get r k j s (by simpa using h) hj
    rw [sysC, List.getElem?_append_right (by simp [syC]; omega)]
    rw [← this]
    congr 1
    simp [syC]; omega
theorem rlsC_one (l : List Rl) : ∀ v ∈ rlsC l, v.oneCell' = true := by
  induction l with
  | nil => simp [rlsC]
  | cons s r ih =>
    intro v hv
    rw [rlsC, List.mem_append] at hv
    rcases hv with hv | hv
    · simp only [rlC, List.mem_cons, List.not_mem_nil, or_false] at hv
      rcases hv with rfl | rfl | rfl | rfl <;> rfl
    · exact ih v hv
abbrev RlAt (w : World) (v : Value) (l : List Rl) : Prop := CsAt w v l.length (rlsC l)
abbrev SyAt (w : World) (v : Value) (l : List Sy) : Prop := CsAt w v l.length (sysC l)
/-! ### objects -/
/-- the six slices of an object -/
structure OV where
  d : Value
  c : Value
  m : Value
  r : Value
  q : Value
  s : Value
def OV.cells (V : OV) : Array Value := #[V.d, V.c, V.m, V.r, V.q, V.s]
abbrev OV.agg (V : OV) : Value := .agg #[V.d, V.c, V.m, V.r, V.q, V.s]
/-- this value is this object -/
structure OAt (w : World) (V : OV) (x : PO) : Prop where
  d : SlAt w .u32 V.d x.D
  c : SlAt w .u32 V.c x.C
  m : SlAt w .u8 V.m x.M
  r : RlAt w V.r x.R
  q : RlAt w V.q x.Q
  s : SyAt w V.s x.S
theorem OAt.kept0 {w w1 : World} {V : OV} {x : PO} (h : OAt w V x) (hg : w.grownBy w1 none) : OAt w1 V x :=
  ⟨h.d.kept0 hg, h.c.kept0 hg, h.m.kept0 hg, h.r.kept0 hg, h.q.kept0 hg, h.s.kept0 hg⟩
/-- its numbers are as wide as they may be -/
structure OFit (x : PO) : Prop where
  d : ∀ n ∈ x.D, 0 ≤ n ∧ n < 4294967296
  c : ∀ n ∈ x.C, 0 ≤ n ∧ n < 4294967296
  m : ∀ n ∈ x.M, 0 ≤ n ∧ n < 256
  l : x.D.length ≤ maxLen ∧ x.C.length ≤ maxLen ∧ x.M.length ≤ maxLen ∧ x.R.length ≤ maxLen ∧ x.Q.length ≤ maxLen ∧ x.S.length ≤ maxLen
theorem info_object : (Tryz.prog.info? 41).map (·.size) = some 6 := by kernel_rfl
theorem info_object' : (Tryz.prog.info? 176).map (·.size) = some 6 := by kernel_rfl
theorem info_rel : (Tryz.prog.info? 65).map (·.size) = some 4 := by kernel_rfl
theorem info_sym : (Tryz.prog.info? 63).map (·.size) = some 4 := by kernel_rfl
/-- nothing is wrong, or this error -/
def evV (A : Nat → Addr) : Option Nat → Value
  | none => .nilIface
  | some c => errV (A c)
/-- the errors of what is wrong lie in their variables -/
structure ErrC (w : World) (A : Nat → Addr) : Prop where
  c1 : w.cell? ⟨3, 0, none⟩ = some (errV (A 1))
  c2 : w.cell? ⟨6, 0, none⟩ = some (errV (A 2))
  c3 : w.cell? ⟨1, 0, none⟩ = some (errV (A 3))
  c4 : w.cell? ⟨9, 0, none⟩ = some (errV (A 4))
  c5 : w.cell? ⟨2, 0, none⟩ = some (errV (A 5))
  c6 : w.cell? ⟨0, 0, none⟩ = some (errV (A 6))
  c8 : w.cell? ⟨5, 0, none⟩ = some (errV (A 8))
theorem ErrC.kept0 {w w1 : World} {A : Nat → Addr} (h : ErrC w A) (hg : w.grownBy w1 none) : ErrC w1 A := by
  have k : ∀ {g : Nat} {v : Value}, w.cell? ⟨g, 0, none⟩ = some v → w1.cell? ⟨g, 0, none⟩ = some v := fun hc => by
    rw [grown_cell hg (World.block_lt_of_cell? w _ hc) (by simp)]; exact hc
  exact ⟨k h.c1, k h.c2, k h.c3, k h.c4, k h.c5, k h.c6, k h.c8⟩
end Go.Proofs.YtnpnafidhcnkhaaGreatDoor
namespace Go.Proofs.YtnpnafidhcnkhaaGreatDoor
open Go.RowKit
theorem wantImm_zero (op : Int) : wantImm op 0 = 0 := by unfold wantImm; split <;> rfl
/-- behind Of: the operation -/
def OpAt (w : World) (n : Int) (e : Ending) (w' : World) : Prop :=
  ∃ a b c d : Int, ∃ t : Bool, e = .returned (.tuple #[.agg #[.int .i64 n, .int .i64 a, .int .i64 b, .int .i64 c, .int .u32 d], .bool t]) ∧ w.grownBy w' none
theorem of_op (x : Int) (w : World) (h : 0 ≤ x ∧ x < 4294967296) : Calls Tryz.prog 73 #[.int .u32 x, .int .u32 0] w (OpAt w (opW x)) := by
  unfold opW
  by_cases hi : insB (x / 16777216) (x / 65536 % 256) (x / 256 % 256) (x % 256) 0 = true
  · rw [if_pos hi]
    refine (of_yes x 0 w h.1 h.2 (by rw [wantImm_zero]; exact hi)).mono ?_
    rintro e w' ⟨rfl, hb⟩
    exact ⟨_, _, _, _, _, rfl, below_is_grown hb⟩
  · rw [if_neg hi]
    refine (of_no x 0 w h.1 h.2 (by rw [wantImm_zero]; simpa using hi)).mono ?_
    rintro e w' ⟨rfl, hb⟩
    exact ⟨_, _, _, _, _, rfl, below_is_grown hb⟩
section
variable {w : World} {V : OV} {x : PO}
theorem op_neg (h : OAt w V x) (k : Int) (hk : k < 0) : Calls Tryz.prog 110 #[V.agg, .int .i64 k] w fun e w' => e = .returned (.int .i64 0) ∧ w.grownBy w' none := by
  obtain ⟨d, c, m, r, q, s⟩ := V
  have HG := hid (World.grownBy_alloc w (.cells #[d, c, m, r, q, s] 176) none)
  clear h
  go_enter Tryz.func110, Tryz.ntmps110
  go_wp2
  go_ret
  exact ⟨rfl, HG.out⟩
theorem op_none (h : OAt w V x) (k : Nat) {y : Int} (hy : x.M[k]? = some y) (h1 : y ≠ 1) : Calls Tryz.prog 110 #[V.agg, .int .i64 k] w fun e w' => e = .returned (.int .i64 0) ∧ w.grownBy w' none := by
  obtain ⟨d, c, m, r, q, s⟩ := V
  have hk := (List.getElem?_eq_some_iff.1 hy).1
  have HG := hid (World.grownBy_alloc w (.cells #[d, c, m, r, q, s] 176) none)
  have H := hid (h.kept0 HG.out)
  have HB := hid (RwAt.new w 176 #[d, c, m, r, q, s])
  obtain ⟨b, o, cp, hm, _, hc⟩ := H.out.m.at_ (by omega)
  obtain rfl : m = _ := hm
  have ek := hc k y hy
  clear hc h
  have k0 : (0 : Int) ≤ (k : Int) := by omega
  have kn : (k : Int) < (x.M.length : Int) := by omega
  have hz : (y != 1) = true := by simpa using h1
  go_enter Tryz.func110, Tryz.ntmps110
  go_upto_region 1 with (fail)
  generalize w.alloc (.cells #[d, c, .slice (some ⟨b, o, none⟩) x.M.length cp, r, q, s] 176) = w1 at HG H HB ek ⊢
  have e2 := HB.out.cell 2 rfl
  go_wp2
  go_ret
  exact ⟨rfl, HG.out⟩
set_option maxHeartbeats 1000000 in
theorem op_yes (h : OAt w V x) (hf : OFit x) (hl : x.M.length = x.C.length) (k : Nat) (hy : x.M[k]? = some 1) : Calls Tryz.prog 110 #[V.agg, .int .i64 k] w fun e w' => e = .returned (.int .i64 (opW (x.C.getD k 0))) ∧ w.grownBy w' none := by
  obtain ⟨d, c, m, r, q, s⟩ := V
  have hk := (List.getElem?_eq_some_iff.1 hy).1
  have HG := hid (World.grownBy_alloc w (.cells #[d, c, m, r, q, s] 176) none)
  have H := hid (h.kept0 HG.out)
  have HB := hid (RwAt.new w 176 #[d, c, m, r, q, s])
  obtain ⟨z, hz⟩ : ∃ z, x.C[k]? = some z := ⟨_, List.getElem?_eq_getElem (by omega)⟩
  have hzd : x.C.getD k 0 = z := by rw [List.getD_eq_getElem?_getD, hz]; rfl
  rw [hzd]
  have HF := hid (hf.c z (List.mem_of_getElem? hz))
  obtain ⟨b, o, cp, hm, _, hc⟩ := H.out.m.at_ (by omega)
  obtain rfl : m = _ := hm
  have ek := hc k 1 hy
  obtain ⟨b2, o2, cp2, hm2, _, hc2⟩ := H.out.c.at_ (by omega)
  obtain rfl : c = _ := hm2
  have ez := hc2 k z hz
  clear hc hc2 h hf hzd
  have k0 : (0 : Int) ≤ (k : Int) := by omega
  have kn : (k : Int) < (x.M.length : Int) := by omega
  have kn2 : (k : Int) < (x.C.length : Int) := by omega
  clear hl
  go_enter Tryz.func110, Tryz.ntmps110
  go_upto_region 1 with (fail)
  generalize w.alloc (.cells #[d, .slice (some ⟨b2, o2, none⟩) x.C.length cp2, .slice (some ⟨b, o, none⟩) x.M.length cp, r, q, s] 176) = w1 at HG H HB ek ez ⊢
  have e2 := HB.out.cell 2 rfl
  have e1 := HB.out.cell 1 rfl
  go_wp2_with fail
  refine (of_op z w1 HF.out).mono ?_
  rintro e w2 ⟨a', b', c', d', t', rfl, hg⟩
  have HG2 := hid (grown_trans HG.out hg)
  clear hg
  obtain ⟨n, Hn⟩ : ∃ n, Hid (opW z = n) := ⟨_, hid rfl⟩
  rw [Hn.out]
  have HB2 := hid (RwAt.new w2 29 (inC n a' b' c' d'))
  go_wp2
  go_ret
  refine ⟨ret_i Hn.out.symm, ?_⟩
  first | exact grown_alloc HG2.out _ | exact grown_setRow (grown_alloc HG2.out _) HG2.out.size _ | trace_state
end
theorem branches_any (op : Int) (w : World) : Calls Tryz.prog 117 #[.int .i64 op] w fun e w' => e = .returned (.bool (brB op)) ∧ w = w' := by
  go_enter Tryz.func117, Tryz.ntmps117
  go_wp2
  all_goals
    go_ret
    refine ⟨ret_b ?_, rfl⟩
    unfold brB
    first | (simp only [true_eq_decide_iff]; omega) | (rw [Bool.eq_iff_iff]; simp only [beq_iff_eq, decide_eq_true_eq]; omega)
theorem far_any (op : Int) (w : World) : Calls Tryz.prog 119 #[.int .i64 op] w fun e w' => e = .returned (.bool (farB op)) ∧ w = w' := by
  go_enter Tryz.func119, Tryz.ntmps119
  go_wp2
  all_goals
    go_ret
    refine ⟨ret_b ?_, rfl⟩
    unfold farB
    first | (simp only [true_eq_decide_iff]; omega) | (rw [Bool.eq_iff_iff]; simp only [beq_iff_eq, decide_eq_true_eq]; omega)
end Go.Proofs.YtnpnafidhcnkhaaGreatDoor
namespace Go.Proofs.YtnpnafidhcnkhaaGreatDoor
open Go.RowKit
theorem tables_g (w : World) : Calls Tryz.prog 77 #[] w fun e w' => e = .returned (.agg #[]) ∧ w.grownBy w' none :=
  (tables_any w).mono fun _ _ ⟨he, hw⟩ => ⟨he, by rw [hw]; exact World.grownBy_alloc _ _ _⟩
theorem class_g (op n : Int) (hn : clsI op = n) (w : World) : Calls Tryz.prog 78 #[.agg #[], .int .i64 op] w fun e w' => e = .returned (.int .i64 n) ∧ w.grownBy w' none :=
  (class_any op w).mono fun _ _ ⟨he, hw⟩ => ⟨by rw [he, hn], by rw [hw]; exact World.grownBy_alloc _ _ _⟩
theorem two_g (op : Int) (t : Bool) (ht : twoB op = t) (w : World) : Calls Tryz.prog 91 #[.agg #[], .int .i64 op] w fun e w' => e = .returned (.bool t) ∧ w.grownBy w' none :=
  (two_any op w).mono fun _ _ ⟨he, hw⟩ => ⟨by rw [he, ht], by rw [hw]; exact World.grownBy_alloc _ _ _⟩
/-- an object in a block of the function's own, and all that is known beside it -/
structure Bx (w0 w : World) (B : Nat) (t : TypeId) (cs : Array Value) (V : OV) (x : PO) (A : Nat → Addr) : Prop where
  box : RwAt w B t cs
  o : OAt w V x
  e : ErrC w A
  g : w0.grownBy w none
section
variable {w0 w w1 : World} {B : Nat} {t : TypeId} {cs : Array Value} {V : OV} {x : PO} {A : Nat → Addr}
theorem Bx.kept0 (h : Bx w0 w B t cs V x A) (hg : w.grownBy w1 none) : Bx w0 w1 B t cs V x A := ⟨h.box.kept0 hg, h.o.kept0 hg, h.e.kept0 hg, grown_trans h.g hg⟩
theorem Bx.alloc (h : Bx w0 w B t cs V x A) (o : Obj) : Bx w0 (w.alloc o) B t cs V x A := h.kept0 (World.grownBy_alloc _ _ _)
theorem Bx.new (h : OAt w V x) (he : ErrC w A) (t : TypeId) (cs : Array Value) : Bx w (w.alloc (.cells cs t)) w.heap.size t cs V x A :=
  have hg := World.grownBy_alloc w (.cells cs t) none
  ⟨RwAt.new w t cs, h.kept0 hg, he.kept0 hg, hg⟩
end
section
variable {w : World} {V : OV} {x : PO} {A : Nat → Addr}
theorem op_any (h : OAt w V x) (hf : OFit x) (hl : x.M.length = x.C.length) (k : Nat) (hk : k < x.C.length) (n : Int) (hn : opN x k = n) :
    Calls Tryz.prog 110 #[V.agg, .int .i64 k] w fun e w' => e = .returned (.int .i64 n) ∧ w.grownBy w' none := by
  subst hn
  obtain ⟨y, hy⟩ : ∃ y, x.M[k]? = some y := ⟨_, List.getElem?_eq_getElem (by omega)⟩
  have hm : mapN x k = y := by unfold mapN; rw [List.getD_eq_getElem?_getD, hy]; rfl
  unfold opN
  rw [hm]
  by_cases h1 : y = 1
  · subst h1
    rw [if_pos rfl]
    exact op_yes h hf hl k hy
  · rw [if_neg h1]
    exact op_none h k hy h1
theorem opb_any (h : OAt w V x) (hf : OFit x) (hl : x.M.length = x.C.length) (k : Nat) (hk : k ≤ x.C.length) (j : Int) (hj : j = (k : Int) - 1) (n : Int) (hn : opB x k = n) :
    Calls Tryz.prog 110 #[V.agg, .int .i64 j] w fun e w' => e = .returned (.int .i64 n) ∧ w.grownBy w' none := by
  subst hn
  unfold opB
  by_cases h0 : k = 0
  · rw [if_pos h0]
    exact op_neg h j (by omega)
  · rw [if_neg h0]
    obtain ⟨i, rfl⟩ : ∃ i, k = i + 1 := ⟨k - 1, by omega⟩
    obtain rfl : j = (i : Int) := by omega
    exact op_any h hf hl i (by omega) _ rfl
set_option maxHeartbeats 1000000 in
theorem first_no (h : OAt w V x) (he : ErrC w A) (hf : OFit x) (hl : x.M.length = x.C.length) (k : Nat) (hk : k < x.C.length) (hn : opN x k = 0 ∨ clsI (opN x k) = 4) :
    Calls Tryz.prog 109 #[V.agg, .int .i64 k] w fun e w' => e = .returned (errV (A 4)) ∧ w.grownBy w' none := by
  obtain ⟨d, c, m, r, q, s⟩ := V
  have HX := hid (Bx.new h he 176 #[d, c, m, r, q, s])
  obtain ⟨n, Hn⟩ : ∃ n, Hid (opN x k = n) := ⟨_, hid rfl⟩
  obtain ⟨z, Hz⟩ : ∃ z, Hid (clsI n = z) := ⟨_, hid rfl⟩
  rw [Hn.out, Hz.out] at hn
  have HN := hid hn
  have HP := hid (And.intro hf (And.intro hl hk))
  clear h he hf hl hk hn
  go_enter Tryz.func109, Tryz.ntmps109
  go_upto_region 1 with (fail)
  generalize w.alloc (.cells #[d, c, m, r, q, s] 176) = w1 at HX ⊢
  go_wp2_with (first
    | (refine wpList_load_rw rfl 176 _ rfl rfl HX.out.box rfl Tryz.underlying176 info_object' ?_)
    | fail)
  refine (op_any HX.out.o HP.out.1 HP.out.2.1 k HP.out.2.2 n Hn.out).mono ?_
  rintro e w2 ⟨rfl, hg⟩
  have HX2 := hid (HX.out.kept0 hg)
  clear hg HX
  by_cases h0 : n = 0
  · have hz : (n == 0) = true := by simpa using h0
    have e4 := HX2.out.e.c4
    unfold errV at e4
    clear h0
    go_wp2
    go_ret
    exact ⟨rfl, HX2.out.g⟩
  · have hz : (n == 0) = false := by simpa using h0
    have h4 : (z == 4) = true := by rcases HN.out with h | h; exact absurd h h0; simpa using h
    clear h0
    go_wp2_with fail
    refine (tables_g _).mono ?_
    rintro e w3 ⟨rfl, hg⟩
    have HX3 := hid (HX2.out.kept0 hg)
    clear hg HX2
    go_wp2_with fail
    refine (class_g n z Hz.out _).mono ?_
    rintro e w4 ⟨rfl, hg⟩
    have HX4 := hid (HX3.out.kept0 hg)
    clear hg HX3
    have e4 := HX4.out.e.c4
    unfold errV at e4
    go_wp2
    go_ret
    exact ⟨rfl, HX4.out.g⟩
set_option maxHeartbeats 2000000 in
theorem first_any' (h : OAt w V x) (he : ErrC w A) (hf : OFit x) (hl : x.M.length = x.C.length) (k : Nat) (hk : k < x.C.length) (hn : ¬(opN x k = 0 ∨ clsI (opN x k) = 4)) (rr : Option Nat) (hr : firstF x k = rr) :
    Calls Tryz.prog 109 #[V.agg, .int .i64 k] w fun e w' => e = .returned (evV A rr) ∧ w.grownBy w' none := by
  obtain ⟨d, c, m, r, q, s⟩ := V
  have HX := hid (Bx.new h he 176 #[d, c, m, r, q, s])
  have hrr : rr = if twoB (opN x k) = true ∧ (k + 1 = x.C.length ∨ mapN x (k + 1) ≠ 0) then some 8 else none := by
    rw [← hr]; unfold firstF; rw [if_neg hn]
  obtain ⟨n, Hn⟩ : ∃ n, Hid (opN x k = n) := ⟨_, hid rfl⟩
  obtain ⟨z, Hz⟩ : ∃ z, Hid (clsI n = z) := ⟨_, hid rfl⟩
  rw [Hn.out] at hrr
  rw [Hn.out, Hz.out, not_or] at hn
  have hz : (n == 0) = false := by simpa using hn.1
  have h4 : (z == 4) = false := by simpa using hn.2
  have HP := hid (And.intro hf (And.intro hl hk))
  have HR := hid hrr
  have k0 : (0 : Int) ≤ (k : Int) := by omega
  have kn : (k : Int) + 1 ≤ (x.C.length : Int) := by omega
  have kl : (x.C.length : Int) ≤ 9223372036854775807 := by have := hf.l.2.1; unfold maxLen at this; omega
  clear h he hf hn hr hrr
  obtain ⟨pc, cc, hc⟩ : ∃ p cc, c = .slice p x.C.length cc := HX.out.o.c.len'
  obtain rfl := hc
  go_enter Tryz.func109, Tryz.ntmps109
  go_upto_region 1 with (fail)
  generalize w.alloc (.cells #[d, .slice pc x.C.length cc, m, r, q, s] 176) = w1 at HX ⊢
  go_wp2_with (first
    | (refine wpList_load_rw rfl 176 _ rfl rfl HX.out.box rfl Tryz.underlying176 info_object' ?_)
    | fail)
  refine (op_any HX.out.o HP.out.1 HP.out.2.1 k HP.out.2.2 n Hn.out).mono ?_
  rintro e w2 ⟨rfl, hg⟩
  have HX2 := hid (HX.out.kept0 hg)
  clear hg HX
  go_wp2_with fail
  refine (tables_g _).mono ?_
  rintro e w3 ⟨rfl, hg⟩
  have HX3 := hid (HX2.out.kept0 hg)
  clear hg HX2
  go_wp2_with fail
  refine (class_g n z Hz.out _).mono ?_
  rintro e w4 ⟨rfl, hg⟩
  have HX4 := hid (HX3.out.kept0 hg)
  clear hg HX3
  go_wp2_with fail
  refine (tables_g _).mono ?_
  rintro e w5 ⟨rfl, hg⟩
  have HX5 := hid (HX4.out.kept0 hg)
  clear hg HX4
  go_wp2_with fail
  cases ht : twoB n
  · have Ht := hid ht
    clear ht
    refine (two_g n false Ht.out _).mono ?_
    rintro e w6 ⟨rfl, hg⟩
    have HX6 := hid (HX5.out.kept0 hg)
    clear hg HX5
    have e1 := HX6.out.box.cell 1 rfl
    have e2 := HX6.out.box.cell 2 rfl
    go_wp2
    go_ret
    refine ⟨?_, HX6.out.g⟩
    rw [HR.out, if_neg (by rw [Ht.out]; simp)]
    rfl
  · have Ht := hid ht
    clear ht
    refine (two_g n true Ht.out _).mono ?_
    rintro e w6 ⟨rfl, hg⟩
    have HX6 := hid (HX5.out.kept0 hg)
    clear hg HX5
    have e1 := HX6.out.box.cell 1 rfl
    by_cases hlast : k + 1 = x.C.length
    · have hz1 : ((k : Int) + 1 == (x.C.length : Int)) = true := by simp; omega
      have e8 := HX6.out.e.c8
      have hr8 : evV A rr = errV (A 8) := by rw [HR.out, if_pos ⟨Ht.out, .inl hlast⟩]; rfl
      have H8 := hid hr8
      unfold errV at e8
      clear hr8 hlast kn
      go_wp2
      go_ret
      exact ⟨by rw [H8.out]; rfl, HX6.out.g⟩
    · have hz1 : ((k : Int) + 1 == (x.C.length : Int)) = false := by simp; omega
      obtain ⟨y, hy⟩ : ∃ y, x.M[k + 1]? = some y := ⟨_, List.getElem?_eq_getElem (by omega)⟩
      have hm : mapN x (k + 1) = y := by unfold mapN; rw [List.getD_eq_getElem?_getD, hy]; rfl
      obtain ⟨b, o, cp, hmm, _, hc⟩ := HX6.out.o.m.at_ (by omega)
      obtain rfl : m = _ := hmm
      have ek := hc (k + 1) y hy
      have e2 := HX6.out.box.cell 2 rfl
      have kn2 : (k : Int) + 1 < (x.M.length : Int) := by omega
      have kM : ((k + 1 : Nat) : Int) = (k : Int) + 1 := by omega
      have kN : ((k : Int) + 1).toNat = k + 1 := by omega
      have h48 : (x.M.length : Int) ≤ 9223372036854775807 := by rw [hl]; exact kl
      clear hc hl kM
      by_cases hy0 : y = 0
      · have hyz : (y != 0) = false := by simpa using hy0
        have hr8 : evV A rr = .nilIface := by rw [HR.out, if_neg (by rw [hm]; intro h; rcases h.2 with h | h; exact hlast h; exact h hy0)]; rfl
        have H8 := hid hr8
        clear hr8 hm hy hy0 hlast
        go_wp2
        go_ret
        exact ⟨by rw [H8.out]; rfl, HX6.out.g⟩
      · have hyz : (y != 0) = true := by simpa using hy0
        have e8 := HX6.out.e.c8
        have hr8 : evV A rr = errV (A 8) := by rw [HR.out, if_pos ⟨Ht.out, .inr (by rw [hm]; exact hy0)⟩]; rfl
        have H8 := hid hr8
        unfold errV at e8
        clear hr8 hm hy hy0 hlast
        go_wp2
        go_ret
        exact ⟨by rw [H8.out]; rfl, HX6.out.g⟩
theorem first_any9 (h : OAt w V x) (he : ErrC w A) (hf : OFit x) (hl : x.M.length = x.C.length) (k : Nat) (hk : k < x.C.length) :
    Calls Tryz.prog 109 #[V.agg, .int .i64 k] w fun e w' => e = .returned (evV A (firstF x k)) ∧ w.grownBy w' none := by
  by_cases hn : opN x k = 0 ∨ clsI (opN x k) = 4
  · have : firstF x k = some 4 := by unfold firstF; rw [if_pos hn]
    rw [this]
    exact first_no h he hf hl k hk hn
  · exact first_any' h he hf hl k hk hn _ rfl
end
end Go.Proofs.YtnpnafidhcnkhaaGreatDoor
namespace Go.Proofs.YtnpnafidhcnkhaaGreatDoor
open Go.RowKit
theorem Bx.six {w0 w : World} {B : Nat} {t : TypeId} {a0 a1 a2 a3 a4 a5 : Value} {V : OV} {x : PO} {A : Nat → Addr} (h : Bx w0 w B t #[a0, a1, a2, a3, a4, a5] V x A) :
    w.cell? ⟨B, 0, none⟩ = some a0 ∧ w.cell? ⟨B, 1, none⟩ = some a1 ∧ w.cell? ⟨B, 2, none⟩ = some a2 ∧ w.cell? ⟨B, 3, none⟩ = some a3 ∧ w.cell? ⟨B, 4, none⟩ = some a4 ∧ w.cell? ⟨B, 5, none⟩ = some a5 ∧ Hid (Bx w0 w B t #[a0, a1, a2, a3, a4, a5] V x A) :=
  ⟨h.box.cell 0 rfl, h.box.cell 1 rfl, h.box.cell 2 rfl, h.box.cell 3 rfl, h.box.cell 4 rfl, h.box.cell 5 rfl, hid h⟩
section
variable {w : World} {V : OV} {x : PO} {A : Nat → Addr}
set_option maxHeartbeats 1000000 in
theorem word_first (h : OAt w V x) (he : ErrC w A) (hf : OFit x) (hl : x.M.length = x.C.length) (k : Nat) (hk : k < x.C.length) (hy : x.M[k]? = some 1) (rr : Option Nat) (hr : firstF x k = rr) :
    Calls Tryz.prog 94 #[V.agg, .int .i64 k] w fun e w' => e = .returned (evV A rr) ∧ w.grownBy w' none := by
  obtain ⟨d, c, m, r, q, s⟩ := V
  have HX := hid (Bx.new h he 176 #[d, c, m, r, q, s])
  have HP := hid (And.intro hf (And.intro hl (And.intro hk hr)))
  have k0 : (0 : Int) ≤ (k : Int) := by omega
  have kn : (k : Int) < (x.M.length : Int) := by omega
  obtain ⟨b, o, cp, hmm, _, hc⟩ := HX.out.o.m.at_ (by omega)
  obtain rfl : m = _ := hmm
  have ek := hc k 1 hy
  clear h he hf hl hk hy hc hr
  go_enter Tryz.func94, Tryz.ntmps94
  go_upto_region 1 with (fail)
  generalize w.alloc (.cells #[d, c, .slice (some ⟨b, o, none⟩) x.M.length cp, r, q, s] 176) = w1 at HX ek ⊢
  have e2 := HX.out.box.cell 2 rfl
  go_wp2_with (first
    | (refine wpList_load_rw rfl 176 _ rfl rfl HX.out.box rfl Tryz.underlying176 info_object' ?_)
    | fail)
  have Hc := hid (first_any9 HX.out.o HX.out.e HP.out.1 HP.out.2.1 k HP.out.2.2.1)
  rw [HP.out.2.2.2] at Hc
  refine Hc.out.mono ?_
  rintro e w2 ⟨rfl, hg⟩
  have HX2 := hid (HX.out.kept0 hg)
  clear hg HX ek e2 Hc
  go_wp2
  go_ret
  exact ⟨rfl, HX2.out.g⟩
set_option maxHeartbeats 1000000 in
theorem word_more (h : OAt w V x) (he : ErrC w A) (k : Nat) {y : Int} (hy : x.M[k]? = some y) (h0 : y ≠ 0) (h1 : y ≠ 1) (rr : Option Nat) (hr : (if y = 2 then none else some 8) = rr) :
    Calls Tryz.prog 94 #[V.agg, .int .i64 k] w fun e w' => e = .returned (evV A rr) ∧ w.grownBy w' none := by
  obtain ⟨d, c, m, r, q, s⟩ := V
  have hk := (List.getElem?_eq_some_iff.1 hy).1
  have HX := hid (Bx.new h he 176 #[d, c, m, r, q, s])
  have k0 : (0 : Int) ≤ (k : Int) := by omega
  have kn : (k : Int) < (x.M.length : Int) := by omega
  obtain ⟨b, o, cp, hmm, _, hc⟩ := HX.out.o.m.at_ (by omega)
  obtain rfl : m = _ := hmm
  have ek := hc k y hy
  have z0 : (y == 0) = false := by simpa using h0
  have z1 : (y == 1) = false := by simpa using h1
  clear h he hc hy h0 h1
  by_cases h2 : y = 2
  · have z2 : (y == 2) = true := by simpa using h2
    rw [if_pos h2] at hr
    have HR := hid hr
    clear hr h2
    go_enter Tryz.func94, Tryz.ntmps94
    go_upto_region 1 with (fail)
    generalize w.alloc (.cells #[d, c, .slice (some ⟨b, o, none⟩) x.M.length cp, r, q, s] 176) = w1 at HX ek ⊢
    have e2 := HX.out.box.cell 2 rfl
    go_wp2
    go_ret
    exact ⟨by rw [← HR.out]; rfl, HX.out.g⟩
  · have z2 : (y == 2) = false := by simpa using h2
    rw [if_neg h2] at hr
    have HR := hid hr
    clear hr h2
    go_enter Tryz.func94, Tryz.ntmps94
    go_upto_region 1 with (fail)
    generalize w.alloc (.cells #[d, c, .slice (some ⟨b, o, none⟩) x.M.length cp, r, q, s] 176) = w1 at HX ek ⊢
    have e2 := HX.out.box.cell 2 rfl
    have e8 := HX.out.e.c8
    unfold errV at e8
    go_wp2
    go_ret
    exact ⟨by rw [← HR.out]; rfl, HX.out.g⟩
set_option maxRecDepth 100000 in
set_option maxHeartbeats 2000000 in
theorem word_second (h : OAt w V x) (he : ErrC w A) (hf : OFit x) (hl : x.M.length = x.C.length) (k : Nat) (hk : k < x.C.length) (hy : x.M[k]? = some 0) (rr : Option Nat) (hr : (if twoB (opB x k) = true then none else some 8) = rr) :
    Calls Tryz.prog 94 #[V.agg, .int .i64 k] w fun e w' => e = .returned (evV A rr) ∧ w.grownBy w' none := by
  obtain ⟨d, c, m, r, q, s⟩ := V
  have HX := hid (Bx.new h he 176 #[d, c, m, r, q, s])
  have HP := hid (And.intro hf (And.intro hl (Nat.le_of_lt hk)))
  have k0 : (0 : Int) ≤ (k : Int) := by omega
  have kn : (k : Int) < (x.M.length : Int) := by omega
  have kl : (x.M.length : Int) ≤ 9223372036854775807 := by have := hf.l.2.2.1; unfold maxLen at this; omega
  obtain ⟨b, o, cp, hmm, _, hc⟩ := HX.out.o.m.at_ (by omega)
  obtain rfl : m = _ := hmm
  have ek := hc k 0 hy
  obtain ⟨n, Hn⟩ : ∃ n, Hid (opB x k = n) := ⟨_, hid rfl⟩
  rw [Hn.out] at hr
  obtain ⟨T, Ht⟩ : ∃ T, Hid (twoB n = T) := ⟨_, hid rfl⟩
  rw [Ht.out] at hr
  have HR := hid hr
  clear h he hf hl hk hy hc hr
  go_enter Tryz.func94, Tryz.ntmps94
  go_upto_region 1 with (fail)
  generalize w.alloc (.cells #[d, c, .slice (some ⟨b, o, none⟩) x.M.length cp, r, q, s] 176) = w1 at HX ek ⊢
  have e2 := HX.out.box.cell 2 rfl
  go_upto_region 6 with (fail)
  have Hw := hid (wrap_i64_id (n := (k : Int) - 1) (by omega) (by omega))
  have Hw := hid (wrap_i64_id (n := (k : Int) - 1) (by omega) (by omega))
  clear e2 ek
  refine wp_region_held_drew (S := fun W => Bx w W w.heap.size 176 #[d, c, .slice (some ⟨b, o, none⟩) x.M.length cp, r, q, s] ⟨d, c, .slice (some ⟨b, o, none⟩) x.M.length cp, r, q, s⟩ x A) (by kernel_rfl) ?_ (fun hS0 => ?_)
  · exact HX.out.kept0 (grown_drew (grown_refl _ _))
  refine wpAnyH_take (i := 1) (v := .agg #[d, c, .slice (some ⟨b, o, none⟩) x.M.length cp, r, q, s]) rfl (by kernel_rfl) (by kernel_rfl) (by kernel_rfl) (fun _ _ _ h => h) (Or.inl ⟨by kernel_rfl, fun w hSw => run_load_row _ _ rfl rfl hSw.box.blk rfl Tryz.underlying176 info_object'⟩) (by assumption) ?_
  try simp only [Act.put, List.setIfInBounds_toArray, List.set_cons_zero, List.set_cons_succ, List.getElem_toArray, List.getElem_cons_succ, List.getElem_cons_zero]
  refine wpAnyH_take (i := 2) (v := ?_) rfl (by kernel_rfl) (by kernel_rfl) (by kernel_rfl) (fun _ _ _ h => h) (Or.inl ⟨by kernel_rfl, ?_⟩) (by assumption) ?_
  rotate_left
  · (intro w hSw; clear hSw; go_simp; try with_reducible rfl)
  try simp only [Act.put, List.setIfInBounds_toArray, List.set_cons_zero, List.set_cons_succ, List.getElem_toArray, List.getElem_cons_succ, List.getElem_cons_zero]
  refine wpAnyH_take (i := 3) (v := .int .i64 ((k : Int) - 1)) rfl (by kernel_rfl) (by kernel_rfl) (by kernel_rfl) (fun _ _ _ h => h) (Or.inl ⟨by kernel_rfl, ?_⟩) (by assumption) ?_
  · (intro w hSw; clear hSw; go_simp; first | done | rw [Hw.out] | simp only [Hw.out])
  try simp only [Act.put, List.setIfInBounds_toArray, List.set_cons_zero, List.set_cons_succ, List.getElem_toArray, List.getElem_cons_succ, List.getElem_cons_zero]
  refine wpAnyH_ready (rs := [0]) (by kernel_rfl) (by simp) ?_
  refine AllReadyH.cons rfl (fun KK hKK => ?_) AllReadyH.nil
  go_simp
  refine (tables_g _).mono ?_
  rintro e w' ⟨rfl, hcb⟩
  refine hKK.out _ _ ?_ (fun hHeld => ?_)
  · exact Bx.kept0 (by assumption) hcb
  clear hKK KK hcb
  try simp only [Act.put, List.setIfInBounds_toArray, List.set_cons_zero, List.set_cons_succ, List.getElem_toArray, List.getElem_cons_succ, List.getElem_cons_zero]
  refine wpAnyH_ready (rs := [4]) (by kernel_rfl) (by simp) ?_
  refine AllReadyH.cons rfl (fun KK hKK => ?_) AllReadyH.nil
  go_simp
  refine (opb_any hHeld.o HP.out.1 HP.out.2.1 k HP.out.2.2 _ rfl n Hn.out).mono ?_
  rintro e w' ⟨rfl, hcb⟩
  refine hKK.out _ _ ?_ (fun hHeld => ?_)
  · exact Bx.kept0 (by assumption) hcb
  clear hKK KK hcb
  try simp only [Act.put, List.setIfInBounds_toArray, List.set_cons_zero, List.set_cons_succ, List.getElem_toArray, List.getElem_cons_succ, List.getElem_cons_zero]
  refine wpAnyH_ready (rs := [5]) (by kernel_rfl) (by simp) ?_
  refine AllReadyH.cons rfl (fun KK hKK => ?_) AllReadyH.nil
  go_simp
  refine (two_g n T Ht.out _).mono ?_
  rintro e w' ⟨rfl, hcb⟩
  refine hKK.out _ _ ?_ (fun hHeld => ?_)
  · exact Bx.kept0 (by assumption) hcb
  clear hKK KK hcb
  try simp only [Act.put, List.setIfInBounds_toArray, List.set_cons_zero, List.set_cons_succ, List.getElem_toArray, List.getElem_cons_succ, List.getElem_cons_zero]
  refine wpAnyH_take (i := 6) (v := ?_) rfl (by kernel_rfl) (by kernel_rfl) (by kernel_rfl) (fun _ _ _ h => h) (Or.inl ⟨by kernel_rfl, ?_⟩) (by assumption) ?_
  rotate_left
  · (intro w hSw; clear hSw; go_simp; try with_reducible rfl)
  try simp only [Act.put, List.setIfInBounds_toArray, List.set_cons_zero, List.set_cons_succ, List.getElem_toArray, List.getElem_cons_succ, List.getElem_cons_zero]
  refine wpAnyH_done (by kernel_rfl) ?_ _
  have HX' := hid hHeld
  cases T
  · have e8 := HX'.out.e.c8
    unfold errV at e8
    go_wp2
    go_ret
    exact ⟨by rw [← HR.out]; rfl, HX'.out.g⟩
  · go_wp2
    go_ret
    exact ⟨by rw [← HR.out]; rfl, HX'.out.g⟩
theorem word_any9 (h : OAt w V x) (he : ErrC w A) (hf : OFit x) (hl : x.M.length = x.C.length) (k : Nat) (hk : k < x.C.length) :
    Calls Tryz.prog 94 #[V.agg, .int .i64 k] w fun e w' => e = .returned (evV A (wordF x k)) ∧ w.grownBy w' none := by
  obtain ⟨y, hy⟩ : ∃ y, x.M[k]? = some y := ⟨_, List.getElem?_eq_getElem (by omega)⟩
  have hm : mapN x k = y := by unfold mapN; rw [List.getD_eq_getElem?_getD, hy]; rfl
  by_cases h1 : y = 1
  · subst h1
    exact word_first h he hf hl k hk hy _ (by unfold wordF; rw [hm]; simp)
  · by_cases h0 : y = 0
    · subst h0
      exact word_second h he hf hl k hk hy _ (by unfold wordF; rw [hm]; simp)
    · exact word_more h he k hy h0 h1 _ (by unfold wordF; rw [hm, if_neg h1, if_neg h0])
end
end Go.Proofs.YtnpnafidhcnkhaaGreatDoor
namespace Go.Proofs.YtnpnafidhcnkhaaGreatDoor
open Go.RowKit
abbrev Sy.agg (s : Sy) : Value := .agg #[.string s.n, .int .i64 s.i, .int .i64 s.v, .bool s.g]
abbrev Rl.agg (r : Rl) : Value := .agg #[.int .i64 r.a, .int .i64 r.k, .int .i64 r.s, .int .i64 r.d]
/-- four cells in a row -/
structure C4 (w : World) (b o : Nat) (v0 v1 v2 v3 : Value) : Prop where
  c0 : w.cell? ⟨b, o, none⟩ = some v0
  c1 : w.cell? ⟨b, o + 1, none⟩ = some v1
  c2 : w.cell? ⟨b, o + 2, none⟩ = some v2
  c3 : w.cell? ⟨b, o + 3, none⟩ = some v3
theorem C4.kept0 {w w1 : World} {b o : Nat} {v0 v1 v2 v3 : Value} (h : C4 w b o v0 v1 v2 v3) (hg : w.grownBy w1 none) : C4 w1 b o v0 v1 v2 v3 := by
  have k : ∀ {j : Nat} {v : Value}, w.cell? ⟨b, j, none⟩ = some v → w1.cell? ⟨b, j, none⟩ = some v := fun hc => by
    rw [grown_cell hg (World.block_lt_of_cell? w _ hc) (by simp)]; exact hc
  exact ⟨k h.c0, k h.c1, k h.c2, k h.c3⟩
theorem SyAt.cells {w : World} {b o : Nat} {l : List Sy} (h : ∀ j u, (sysC l)[j]? = some u → w.cell? ⟨b, o + j, none⟩ = some u) {k : Nat} {s : Sy} (hs : l[k]? = some s) :
    C4 w b (o + k * 4) (.string s.n) (.int .i64 s.i) (.int .i64 s.v) (.bool s.g) := by
  have g := fun j hj => sysC_get l k j s hs hj
  exact ⟨h (k * 4 + 0) _ (g 0 (by omega)), h (k * 4 + 1) _ (g 1 (by omega)), h (k * 4 + 2) _ (g 2 (by omega)), h (k * 4 + 3) _ (g 3 (by omega))⟩
theorem RlAt.cells {w : World} {b o : Nat} {l : List Rl} (h : ∀ j u, (rlsC l)[j]? = some u → w.cell? ⟨b, o + j, none⟩ = some u) {k : Nat} {s : Rl} (hs : l[k]? = some s) :
    C4 w b (o + k * 4) (.int .i64 s.a) (.int .i64 s.k) (.int .i64 s.s) (.int .i64 s.d) := by
  have g := fun j hj => rlsC_get l k j s hs hj
  exact ⟨h (k * 4 + 0) _ (g 0 (by omega)), h (k * 4 + 1) _ (g 1 (by omega)), h (k * 4 + 2) _ (g 2 (by omega)), h (k * 4 + 3) _ (g 3 (by omega))⟩
theorem toList_iff {x y : ByteArray} : x.toList = y.toList ↔ x = y := ⟨fun e => WideShapes.bytes_inj (by rw [← ByteArray.toList_eq, ← ByteArray.toList_eq]; exact e), fun e => by rw [e]⟩
section
variable {w : World}
theorem named_any (s : Sy) (B : Nat) (n : ByteArray) (hB : w.cell? ⟨B, 0, none⟩ = some (.string n)) (t : Bool) (ht : decide (s.n = n) = t) :
    Calls Tryz.prog 112 #[s.agg, .pointer (some ⟨B, 0, none⟩)] w fun e w' => e = .returned (.bool t) ∧ w.grownBy w' none := by
  have hlt := World.block_lt_of_cell? w _ hB
  have Ht := hid ht
  have HG := hid (World.grownBy_alloc w (.cells #[.string s.n, .int .i64 s.i, .int .i64 s.v, .bool s.g] 63) none)
  clear ht
  go_enter Tryz.func112, Tryz.ntmps112
  go_wp2
  go_ret
  exact ⟨ret_b (by rw [← Ht.out]; rw [Bool.eq_iff_iff]; simp [toList_iff]), HG.out⟩
set_option maxHeartbeats 1000000 in
theorem index_any {v : Value} {l : List Sy} (h : SyAt w v l) (hl : l.length ≤ maxLen) (B : Nat) (n : ByteArray) (hB : w.cell? ⟨B, 0, none⟩ = some (.string n)) (z : Bool) (hz : l.any (fun s => decide (s.n = n)) = z) :
    Calls Tryz.prog 124 #[v, .func (.func 112) #[] #[.pointer (some ⟨B, 0, none⟩)]] w fun e w' => (∃ r : Int, e = .returned (.int .i64 r) ∧ decide (0 ≤ r) = z) ∧ w.grownBy w' none := by
  have H := hid h
  have HB := hid hB
  have Hz := hid hz
  have HL := hid hl
  have kl : (l.length : Int) ≤ 9223372036854775807 := by unfold maxLen at hl; omega
  obtain ⟨p, c, rfl⟩ := h.len
  have HG := hid (grown_refl w none)
  clear h hB hz hl
  go_enter Tryz.func124, Tryz.ntmps124
  go_wp2
  go_loopw [8] (fun i wr => ∃ k : Nat, k ≤ l.length ∧ i = .int .i64 k ∧ Hid (w.grownBy wr none ∧ (l.take k).any (fun s => decide (s.n = n)) = false)) (fun i _ => l.length - (intOf i).toNat)
  case atStart => exact ⟨0, Nat.zero_le _, rfl, hid ⟨grown_refl _ _, by simp⟩⟩
  case round =>
    obtain ⟨k, hk, rfl, HR⟩ := hrel
    have hk0 : (0 : Int) ≤ (k : Int) := by omega
    by_cases hlt : k < l.length
    · obtain ⟨s, hs⟩ : ∃ s, l[k]? = some s := ⟨_, List.getElem?_eq_getElem hlt⟩
      obtain ⟨b, o, c', hv, _, hb, hc⟩ := H.out.at_ (by omega)
      obtain ⟨rfl, rfl⟩ : p = some ⟨b, o, none⟩ ∧ c = c' := by simpa using hv
      have h4 := (SyAt.cells hc hs).kept0 HR.out.1
      have e0 := h4.c0
      have e1 := h4.c1
      have e2 := h4.c2
      have e3 := h4.c3
      have kn : (k : Int) < (l.length : Int) := by omega
      obtain ⟨t, Ht⟩ : ∃ t, Hid (decide (s.n = n) = t) := ⟨_, hid rfl⟩
      have Hc := hid (fun wq (hq : w.grownBy wq none) => named_any s B n ((grown_cell hq (World.block_lt_of_cell? w _ HB.out) (by simp)).trans HB.out) t Ht.out)
      have Hs := hid hs
      clear hc h4 hs hv hb
      go_wp2_with fail
      refine (Hc.out _ HR.out.1).mono ?_
      rintro e w2 ⟨rfl, hg⟩
      have HG2 := hid (grown_trans HR.out.1 hg)
      clear hg
      cases t
      · go_wp2
        go_roundw
        case rel =>
          refine ⟨k + 1, by omega, by go_num, hid ⟨HG2.out, ?_⟩⟩
          rw [List.take_add_one, Hs.out, List.any_append, HR.out.2]
          simpa using Ht.out
        case measure => simp [intOf]; omega
      · go_wp2
        go_ret
        refine ⟨⟨k, rfl, ?_⟩, HG2.out⟩
        rw [← Hz.out]
        have : l.any (fun s => decide (s.n = n)) = true := List.any_eq_true.2 ⟨s, List.mem_of_getElem? Hs.out, Ht.out⟩
        rw [this]
        simp
    · obtain rfl : k = l.length := by omega
      clear hlt
      go_wp2
      go_ret
      refine ⟨⟨-1, rfl, ?_⟩, HR.out.1⟩
      rw [← Hz.out]
      have := HR.out.2
      rw [List.take_length] at this
      rw [this]
      rfl
theorem contains_any {v : Value} {l : List Sy} (h : SyAt w v l) (hl : l.length ≤ maxLen) (B : Nat) (n : ByteArray) (hB : w.cell? ⟨B, 0, none⟩ = some (.string n)) (z : Bool) (hz : l.any (fun s => decide (s.n = n)) = z) :
    Calls Tryz.prog 111 #[v, .func (.func 112) #[] #[.pointer (some ⟨B, 0, none⟩)]] w fun e w' => e = .returned (.bool z) ∧ w.grownBy w' none := by
  have Hi := hid (index_any h hl B n hB z hz)
  clear h hl hB hz
  go_enter Tryz.func111, Tryz.ntmps111
  go_wp2_with fail
  refine Hi.out.mono ?_
  rintro e w2 ⟨⟨r, rfl, hr⟩, hg⟩
  have Hr := hid hr
  have HG := hid hg
  clear hr hg
  obtain ⟨y, hy⟩ : ∃ y, decide (0 ≤ r) = y := ⟨_, rfl⟩
  have Hy := hid hy
  cases y
  · have h0 : ¬ (0 ≤ r) := by simpa using hy
    clear hy
    go_wp2
    go_ret
    exact ⟨ret_b (by rw [← Hr.out, Hy.out]), HG.out⟩
  · have h0 : 0 ≤ r := by simpa using hy
    clear hy
    go_wp2
    go_ret
    exact ⟨ret_b (by rw [← Hr.out, Hy.out]), HG.out⟩
end
end Go.Proofs.YtnpnafidhcnkhaaGreatDoor
