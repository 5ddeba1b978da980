/- What the calls of package isa do: mayBe, Word, Of, Disp: contracts. -/
import Derived.Test.YteanoklaammpiaaDoorZIsa1
namespace Go.Proofs.YteanoklaammpiaaDoor
open Go.RowKit

theorem ret_wb {k : IntKind} {a b : Int} {c : Bool} (h : a = b) : Ending.returned (.tuple #[.int k a, .bool c]) = .returned (.tuple #[.int k b, .bool c]) := by rw [h]

theorem ins_ways (op a b c imm : Int) :
    ((clsI op == 0) = true ∧ Hid (insB op a b c imm = false)) ∨
    ((clsI op == 0) = false ∧ alwB (hasA op) a = false ∧ Hid (insB op a b c imm = false)) ∨
    ((clsI op == 0) = false ∧ alwB (hasA op) a = true ∧ alwB (hasB op) b = false ∧ Hid (insB op a b c imm = false)) ∨
    ((clsI op == 0) = false ∧ alwB (hasA op) a = true ∧ alwB (hasB op) b = true ∧ alwB (hasC op) c = false ∧ Hid (insB op a b c imm = false)) ∨
    ((clsI op == 0) = false ∧ alwB (hasA op) a = true ∧ alwB (hasB op) b = true ∧ alwB (hasC op) c = true ∧ (imm == 0) = true ∧ Hid (insB op a b c imm = true)) ∨
    ((clsI op == 0) = false ∧ alwB (hasA op) a = true ∧ alwB (hasB op) b = true ∧ alwB (hasC op) c = true ∧ (imm == 0) = false ∧ Hid (insB op a b c imm = twoB op)) := by
  unfold Hid
  unfold insB
  by_cases h0 : clsI op = 0
  · left; simp [h0]
  · right
    cases h1 : alwB (hasA op) a
    · left; simp [h0]
    · right
      cases h2 : alwB (hasB op) b
      · left; simp [h0]
      · right
        cases h3 : alwB (hasC op) c
        · left; simp [h0]
        · right
          by_cases h4 : imm = 0
          · left; simp [h0, h4]
          · right; simp [h0, h4]

set_option maxHeartbeats 1000000 in
theorem mayBe_any (op a b c imm : Int) (w : World) :
    Calls Tryd.prog 86 #[.agg #[.int .i64 op, .int .i64 a, .int .i64 b, .int .i64 c, .int .u32 imm]] w fun e w' => e = .returned (.bool (insB op a b c imm)) ∧ Below w.heap.size w w' := by
  rcases ins_ways op a b c imm with ⟨h0, hv⟩ | ⟨h0, h1, hv⟩ | ⟨h0, h1, h2, hv⟩ | ⟨h0, h1, h2, h3, hv⟩ | ⟨h0, h1, h2, h3, h4, hv⟩ | ⟨h0, h1, h2, h3, h4, hv⟩
  all_goals
    go_enter Tryd.func86, Tryd.ntmps86
    go_wp2_with (first | (go_at_call 105; refine (askc_any _ _).mono ?_; rintro e w' ⟨rfl, rfl⟩) | (go_at_call 106; refine (operands_any _ _).mono ?_; rintro e w' ⟨rfl, hb⟩; obtain ⟨hc, hf⟩ := bcell hb; have hz : w.heap.size < w'.heap.size := (by have := hb.size; simp only [World.size_alloc] at this; omega); have hB : Below w.heap.size w w' := (by refine Below.trans ?_ (hb.mono ?_) <;> go_grown)) | (go_at_call 107; refine (allows_any _ _ _).mono ?_; rintro e w' ⟨rfl, rfl⟩) | (go_at_call 85; refine (askt_any _ _).mono ?_; rintro e w' ⟨rfl, rfl⟩))
    go_ret
    refine ⟨ret_b hv.out.symm, ?_⟩
    go_grown

/-- the four bytes of a word -/
theorem wrd_or (op a b c : Int) (h0 : 0 ≤ op ∧ op ≤ 255) (h1 : 0 ≤ a ∧ a ≤ 255) (h2 : 0 ≤ b ∧ b ≤ 255) (h3 : 0 ≤ c ∧ c ≤ 255) :
    bits BinOp.or IntKind.u32 (bits BinOp.or IntKind.u32 (bits BinOp.or IntKind.u32 (op * 16777216) (a * 65536)) (b * 256)) c = wrdI op a b c := by
  obtain ⟨n0, rfl⟩ := Int.eq_ofNat_of_zero_le h0.1
  obtain ⟨n1, rfl⟩ := Int.eq_ofNat_of_zero_le h1.1
  obtain ⟨n2, rfl⟩ := Int.eq_ofNat_of_zero_le h2.1
  obtain ⟨n3, rfl⟩ := Int.eq_ofNat_of_zero_le h3.1
  have q1 : n0 * 16777216 ||| n1 * 65536 = n0 * 16777216 + n1 * 65536 := nat_join 24 _ _ (by omega) (by omega)
  have q2 : (n0 * 16777216 + n1 * 65536) ||| n2 * 256 = n0 * 16777216 + n1 * 65536 + n2 * 256 := nat_join 16 _ _ (by omega) (by omega)
  have q3 : (n0 * 16777216 + n1 * 65536 + n2 * 256) ||| n3 = n0 * 16777216 + n1 * 65536 + n2 * 256 + n3 := nat_join 8 _ _ (by omega) (by omega)
  have e0 : ((n0 : Int) * 16777216) = ((n0 * 16777216 : Nat) : Int) := by omega
  have e1 : ((n1 : Int) * 65536) = ((n1 * 65536 : Nat) : Int) := by omega
  have e2 : ((n2 : Int) * 256) = ((n2 * 256 : Nat) : Int) := by omega
  unfold wrdI
  rw [e0, e1, e2, u32_or_nat (n0 * 16777216) (n1 * 65536) (by omega) (by omega), q1, u32_or_nat _ (n2 * 256) (by omega) (by omega), q2, u32_or_nat _ n3 (by omega) (by omega), q3]
  omega
theorem and_255 (x : Int) (h : 0 ≤ x) (h' : x < 4294967296) : bits BinOp.and IntKind.u32 x 255 = x % 256 := by
  obtain ⟨n, rfl⟩ := Int.eq_ofNat_of_zero_le h
  rw [show (255 : Int) = ((255 : Nat) : Int) from rfl, u32_and_nat n 255 (by omega) (by decide), nat_mask8]
  omega

set_option maxHeartbeats 1000000 in
theorem word_yes (op a b c imm : Int) (w : World) (h : insB op a b c imm = true) :
    Calls Tryd.prog 70 #[.agg #[.int .i64 op, .int .i64 a, .int .i64 b, .int .i64 c, .int .u32 imm]] w fun e w' => e = .returned (.tuple #[.int .u32 (wrdI op a b c), .bool true]) ∧ Below w.heap.size w w' := by
  obtain ⟨⟨o1, o2⟩, ⟨a1, a2⟩, ⟨b1, b2⟩, ⟨c1, c2⟩⟩ := ins_bd h
  have H : Hid (bits BinOp.or IntKind.u32 (bits BinOp.or IntKind.u32 (bits BinOp.or IntKind.u32 (op * 16777216) (a * 65536)) (b * 256)) c = wrdI op a b c) := wrd_or op a b c ⟨by omega, by omega⟩ ⟨a1, a2⟩ ⟨b1, b2⟩ ⟨c1, c2⟩
  go_enter Tryd.func70, Tryd.ntmps70
  go_wp2_with (go_at_call 86; refine (mayBe_any _ _ _ _ _ _).mono ?_; rintro e w' ⟨rfl, hb⟩; obtain ⟨hc, hf⟩ := bcell hb; have hz : w.heap.size < w'.heap.size := (by have := hb.size; simp only [World.size_alloc] at this; omega); have hB : Below w.heap.size w w' := (by refine Below.trans ?_ (hb.mono ?_) <;> go_grown))
  go_ret2
  exact ⟨ret_wb H.out, hB⟩
set_option maxHeartbeats 1000000 in
theorem word_no (op a b c imm : Int) (w : World) (h : insB op a b c imm = false) :
    Calls Tryd.prog 70 #[.agg #[.int .i64 op, .int .i64 a, .int .i64 b, .int .i64 c, .int .u32 imm]] w fun e w' => e = .returned (.tuple #[.int .u32 0, .bool false]) ∧ Below w.heap.size w w' := by
  go_enter Tryd.func70, Tryd.ntmps70
  go_wp2_with (go_at_call 86; refine (mayBe_any _ _ _ _ _ _).mono ?_; rintro e w' ⟨rfl, hb⟩; have hB : Below w.heap.size w w' := (by refine Below.trans ?_ (hb.mono ?_) <;> go_grown))
  go_ret2
  exact ⟨rfl, hB⟩

def wantImm (op imm : Int) : Int := if twoB op = true then imm else 0
theorem wantImm_yes {op imm : Int} (h : twoB op = true) : wantImm op imm = imm := by unfold wantImm; rw [if_pos h]
theorem wantImm_no {op imm : Int} (h : twoB op = false) : wantImm op imm = 0 := by unfold wantImm; rw [if_neg (by simp [h])]
theorem ret_of {op a b c i op' a' b' c' i' : Int} {t : Bool} (h0 : op = op') (h1 : a = a') (h2 : b = b') (h3 : c = c') (h4 : i = i') :
    Ending.returned (.tuple #[.agg #[.int .i64 op, .int .i64 a, .int .i64 b, .int .i64 c, .int .u32 i], .bool t]) = .returned (.tuple #[.agg #[.int .i64 op', .int .i64 a', .int .i64 b', .int .i64 c', .int .u32 i'], .bool t]) := by rw [h0, h1, h2, h3, h4]

set_option maxHeartbeats 1000000 in
theorem of_yes (x imm : Int) (w : World) (hx0 : 0 ≤ x) (hx1 : x < 4294967296) (h : insB (x / 16777216) (x / 65536 % 256) (x / 256 % 256) (x % 256) (wantImm (x / 16777216) imm) = true) :
    Calls Tryd.prog 55 #[.int .u32 x, .int .u32 imm] w fun e w' => e = .returned (.tuple #[.agg #[.int .i64 (x / 16777216), .int .i64 (x / 65536 % 256), .int .i64 (x / 256 % 256), .int .i64 (x % 256), .int .u32 (wantImm (x / 16777216) imm)], .bool true]) ∧ Below w.heap.size w w' := by
  have E1 := and_255 (x / 65536) (by omega) (by omega)
  have E2 := and_255 (x / 256) (by omega) (by omega)
  have E3 := and_255 x (by omega) (by omega)
  cases ht : twoB (x / 16777216)
  · have hw : Hid (wantImm (x / 16777216) imm = 0) := wantImm_no ht
    rw [wantImm_no ht] at h
    go_enter Tryd.func55, Tryd.ntmps55
    go_wp2_with (first | (go_at_call 85; refine (askt_any _ _).mono ?_; rintro e w' ⟨rfl, rfl⟩) | (go_at_call 86; refine (mayBe_any _ _ _ _ _ _).mono ?_; rintro e w' ⟨rfl, hb⟩; obtain ⟨hc, hf⟩ := bcell hb; have hz1 : w.heap.size + 1 < w'.heap.size := (by have := hb.size; simp only [World.size_alloc] at this; omega); have hz : w.heap.size < w'.heap.size := (by omega); have hB : Below w.heap.size w w' := (by refine Below.trans ?_ (hb.mono ?_) <;> go_grown); have k0 : w'.cell? ⟨w.heap.size, 0, none⟩ = some (.int .i64 0) := ((hc _ _ (by simp only [World.size_alloc]; omega)).trans (by simp [go_sem])); have k1 : w'.cell? ⟨w.heap.size, 1, none⟩ = some (.int .i64 0) := ((hc _ _ (by simp only [World.size_alloc]; omega)).trans (by simp [go_sem])); have k2 : w'.cell? ⟨w.heap.size, 2, none⟩ = some (.int .i64 0) := ((hc _ _ (by simp only [World.size_alloc]; omega)).trans (by simp [go_sem])); have k3 : w'.cell? ⟨w.heap.size, 3, none⟩ = some (.int .i64 0) := ((hc _ _ (by simp only [World.size_alloc]; omega)).trans (by simp [go_sem])); have k4 : w'.cell? ⟨w.heap.size, 4, none⟩ = some (.int .u32 0) := ((hc _ _ (by simp only [World.size_alloc]; omega)).trans (by simp [go_sem]))))
    refine bodyPost_ret (v := .tuple #[.agg #[.int .i64 (x / 16777216), .int .i64 (x / 65536 % 256), .int .i64 (x / 256 % 256), .int .i64 (x % 256), .int .u32 0], .bool true]) (by simp [results, Tryd.results55, k0, k1, k2, k3, k4, go_sem]) rfl ?_
    exact ⟨ret_of rfl rfl rfl rfl hw.out.symm, by go_grown⟩
  · have hw : Hid (wantImm (x / 16777216) imm = imm) := wantImm_yes ht
    rw [wantImm_yes ht] at h
    go_enter Tryd.func55, Tryd.ntmps55
    go_wp2_with (first | (go_at_call 85; refine (askt_any _ _).mono ?_; rintro e w' ⟨rfl, rfl⟩) | (go_at_call 86; refine (mayBe_any _ _ _ _ _ _).mono ?_; rintro e w' ⟨rfl, hb⟩; obtain ⟨hc, hf⟩ := bcell hb; have hz1 : w.heap.size + 1 < w'.heap.size := (by have := hb.size; simp only [World.size_alloc] at this; omega); have hz : w.heap.size < w'.heap.size := (by omega); have hB : Below w.heap.size w w' := (by refine Below.trans ?_ (hb.mono ?_) <;> go_grown); have k0 : w'.cell? ⟨w.heap.size, 0, none⟩ = some (.int .i64 0) := ((hc _ _ (by simp only [World.size_alloc]; omega)).trans (by simp [go_sem])); have k1 : w'.cell? ⟨w.heap.size, 1, none⟩ = some (.int .i64 0) := ((hc _ _ (by simp only [World.size_alloc]; omega)).trans (by simp [go_sem])); have k2 : w'.cell? ⟨w.heap.size, 2, none⟩ = some (.int .i64 0) := ((hc _ _ (by simp only [World.size_alloc]; omega)).trans (by simp [go_sem])); have k3 : w'.cell? ⟨w.heap.size, 3, none⟩ = some (.int .i64 0) := ((hc _ _ (by simp only [World.size_alloc]; omega)).trans (by simp [go_sem])); have k4 : w'.cell? ⟨w.heap.size, 4, none⟩ = some (.int .u32 0) := ((hc _ _ (by simp only [World.size_alloc]; omega)).trans (by simp [go_sem]))))
    refine bodyPost_ret (v := .tuple #[.agg #[.int .i64 (x / 16777216), .int .i64 (x / 65536 % 256), .int .i64 (x / 256 % 256), .int .i64 (x % 256), .int .u32 imm], .bool true]) (by simp [results, Tryd.results55, k0, k1, k2, k3, k4, go_sem]) rfl ?_
    exact ⟨ret_of rfl rfl rfl rfl hw.out.symm, by go_grown⟩
set_option maxHeartbeats 1000000 in
theorem of_no (x imm : Int) (w : World) (hx0 : 0 ≤ x) (hx1 : x < 4294967296) (h : insB (x / 16777216) (x / 65536 % 256) (x / 256 % 256) (x % 256) (wantImm (x / 16777216) imm) = false) :
    Calls Tryd.prog 55 #[.int .u32 x, .int .u32 imm] w fun e w' => e = .returned (.tuple #[.agg #[.int .i64 0, .int .i64 0, .int .i64 0, .int .i64 0, .int .u32 0], .bool false]) ∧ Below w.heap.size w w' := by
  have E1 := and_255 (x / 65536) (by omega) (by omega)
  have E2 := and_255 (x / 256) (by omega) (by omega)
  have E3 := and_255 x (by omega) (by omega)
  cases ht : twoB (x / 16777216)
  · have hw : Hid (wantImm (x / 16777216) imm = 0) := wantImm_no ht
    rw [wantImm_no ht] at h
    go_enter Tryd.func55, Tryd.ntmps55
    go_wp2_with (first | (go_at_call 85; refine (askt_any _ _).mono ?_; rintro e w' ⟨rfl, rfl⟩) | (go_at_call 86; refine (mayBe_any _ _ _ _ _ _).mono ?_; rintro e w' ⟨rfl, hb⟩; obtain ⟨hc, hf⟩ := bcell hb; have hz1 : w.heap.size + 1 < w'.heap.size := (by have := hb.size; simp only [World.size_alloc] at this; omega); have hz : w.heap.size < w'.heap.size := (by omega); have hB : Below w.heap.size w w' := (by refine Below.trans ?_ (hb.mono ?_) <;> go_grown); have k0 : w'.cell? ⟨w.heap.size, 0, none⟩ = some (.int .i64 0) := ((hc _ _ (by simp only [World.size_alloc]; omega)).trans (by simp [go_sem])); have k1 : w'.cell? ⟨w.heap.size, 1, none⟩ = some (.int .i64 0) := ((hc _ _ (by simp only [World.size_alloc]; omega)).trans (by simp [go_sem])); have k2 : w'.cell? ⟨w.heap.size, 2, none⟩ = some (.int .i64 0) := ((hc _ _ (by simp only [World.size_alloc]; omega)).trans (by simp [go_sem])); have k3 : w'.cell? ⟨w.heap.size, 3, none⟩ = some (.int .i64 0) := ((hc _ _ (by simp only [World.size_alloc]; omega)).trans (by simp [go_sem])); have k4 : w'.cell? ⟨w.heap.size, 4, none⟩ = some (.int .u32 0) := ((hc _ _ (by simp only [World.size_alloc]; omega)).trans (by simp [go_sem]))))
    refine bodyPost_ret (v := .tuple #[.agg #[.int .i64 0, .int .i64 0, .int .i64 0, .int .i64 0, .int .u32 0], .bool false]) (by simp [results, Tryd.results55, k0, k1, k2, k3, k4, go_sem]) rfl ?_
    exact ⟨ret_of rfl rfl rfl rfl rfl, by go_grown⟩
  · have hw : Hid (wantImm (x / 16777216) imm = imm) := wantImm_yes ht
    rw [wantImm_yes ht] at h
    go_enter Tryd.func55, Tryd.ntmps55
    go_wp2_with (first | (go_at_call 85; refine (askt_any _ _).mono ?_; rintro e w' ⟨rfl, rfl⟩) | (go_at_call 86; refine (mayBe_any _ _ _ _ _ _).mono ?_; rintro e w' ⟨rfl, hb⟩; obtain ⟨hc, hf⟩ := bcell hb; have hz1 : w.heap.size + 1 < w'.heap.size := (by have := hb.size; simp only [World.size_alloc] at this; omega); have hz : w.heap.size < w'.heap.size := (by omega); have hB : Below w.heap.size w w' := (by refine Below.trans ?_ (hb.mono ?_) <;> go_grown); have k0 : w'.cell? ⟨w.heap.size, 0, none⟩ = some (.int .i64 0) := ((hc _ _ (by simp only [World.size_alloc]; omega)).trans (by simp [go_sem])); have k1 : w'.cell? ⟨w.heap.size, 1, none⟩ = some (.int .i64 0) := ((hc _ _ (by simp only [World.size_alloc]; omega)).trans (by simp [go_sem])); have k2 : w'.cell? ⟨w.heap.size, 2, none⟩ = some (.int .i64 0) := ((hc _ _ (by simp only [World.size_alloc]; omega)).trans (by simp [go_sem])); have k3 : w'.cell? ⟨w.heap.size, 3, none⟩ = some (.int .i64 0) := ((hc _ _ (by simp only [World.size_alloc]; omega)).trans (by simp [go_sem])); have k4 : w'.cell? ⟨w.heap.size, 4, none⟩ = some (.int .u32 0) := ((hc _ _ (by simp only [World.size_alloc]; omega)).trans (by simp [go_sem]))))
    refine bodyPost_ret (v := .tuple #[.agg #[.int .i64 0, .int .i64 0, .int .i64 0, .int .i64 0, .int .u32 0], .bool false]) (by simp [results, Tryd.results55, k0, k1, k2, k3, k4, go_sem]) rfl ?_
    exact ⟨ret_of rfl rfl rfl rfl rfl, by go_grown⟩

end Go.Proofs.YteanoklaammpiaaDoor
