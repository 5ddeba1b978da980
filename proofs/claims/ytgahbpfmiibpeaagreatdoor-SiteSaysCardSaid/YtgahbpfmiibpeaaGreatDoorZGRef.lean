/- The document's own answers: second words, jumps, operands, distances, words: contracts. -/
import Derived.Test.YtgahbpfmiibpeaaGreatDoorZGIsa
import Derived.Test.YtgahbpfmiibpeaaGreatDoorZGMem
import Derived.BigGuardPart
namespace Go.Proofs.YtgahbpfmiibpeaaGreatDoor
open Go.RowKit

set_option maxHeartbeats 1000000 in
theorem rtwo_any (op : Int) (w : World) :
    Calls Tryz.prog 57 #[.int .i64 op] w fun e w' => e = .returned (.bool (twoB op)) ∧ w = w' := by
  go_enter Tryz.func57, Tryz.ntmps57
  go_wp2
  all_goals
    go_ret
    refine ⟨ret_b ?_, rfl⟩
    rw [Bool.eq_iff_iff]
    unfold twoB
    simp only [beq_iff_eq, decide_eq_true_eq] at *
    first | omega | (simp_all; done) | (simp_all; omega)

set_option maxHeartbeats 1000000 in
theorem rjumps_any (op : Int) (w : World) :
    Calls Tryz.prog 35 #[.int .i64 op] w fun e w' => e = .returned (.bool (jmpB op)) ∧ w = w' := by
  go_enter Tryz.func35, Tryz.ntmps35
  go_wp2
  all_goals
    go_ret
    refine ⟨ret_b ?_, rfl⟩
    rw [Bool.eq_iff_iff]
    unfold jmpB
    simp only [decide_eq_true_eq]
    first | omega | (simp; omega)

def regB (n : Int) (has : Bool) : Bool := decide (n = 0) || has && decide (0 < n) && decide (n < 16)
set_option maxHeartbeats 1000000 in
theorem reg_any (n : Int) (has : Bool) (w : World) :
    Calls Tryz.prog 90 #[.int .i64 n, .bool has] w fun e w' => e = .returned (.bool (regB n has)) ∧ w = w' := by
  by_cases h0 : n = 0
  · subst h0
    go_enter Tryz.func90, Tryz.ntmps90
    go_wp2
    go_ret
    exact ⟨ret_b (by simp [regB]), rfl⟩
  · have e0 : (n == 0) = false := by simpa using h0
    have H0 := hid h0
    clear h0
    cases has
    · go_enter Tryz.func90, Tryz.ntmps90
      go_wp2
      go_ret
      exact ⟨ret_b (by simp [regB, H0.out]), rfl⟩
    · by_cases h1 : 0 < n
      · go_enter Tryz.func90, Tryz.ntmps90
        go_wp2
        go_ret
        exact ⟨ret_b (by simp [regB, H0.out, h1]), rfl⟩
      · go_enter Tryz.func90, Tryz.ntmps90
        go_wp2
        go_ret
        exact ⟨ret_b (by simp [regB, H0.out]; try omega), rfl⟩


theorem alw_reg (x : Bool) (n : Int) : alwB (if x = true then 1 else 0) n = regB n x := by
  unfold alwB regB
  cases x
  · simp
  · rw [Bool.eq_iff_iff]; simp; omega
theorem ins_ref (op a b c imm : Int) : insB op a b c imm = (decide (clsI op ≠ 0) && regB a (rA op) && regB b (rB op) && (twoB op || decide (imm = 0)) && (if rN op = true then decide (0 ≤ c ∧ c ≤ 255) else regB c (rC op))) := by
  unfold insB
  by_cases h : clsI op = 0
  · simp [h]
  · rw [rA_has h, rB_has, alw_reg, alw_reg]
    have hC : alwB (hasC op) c = (if rN op = true then decide (0 ≤ c ∧ c ≤ 255) else regB c (rC op)) := by
      rw [rC_has]
      cases hn : rN op
      · simp only [Bool.false_eq_true, if_false]
        exact alw_reg _ _
      · have hc : rC op = true := by
          unfold rN at hn; have := of_decide_eq_true hn
          unfold rC; exact decide_eq_true (by omega)
        rw [hc]; unfold alwB; simp
    rw [hC]
    cases regB a (rA op) <;> cases regB b (rB op) <;> cases twoB op <;> simp [h, Bool.and_comm]
end Go.Proofs.YtgahbpfmiibpeaaGreatDoor
/- The document's own word of an instruction, and back: contracts. -/
namespace Go.Proofs.YtgahbpfmiibpeaaGreatDoor
open Go.RowKit

theorem rins_yes {op a b c imm : Int} (h : insB op a b c imm = true) :
    (clsI op != 0) = true ∧ regB a (rA op) = true ∧ regB b (rB op) = true ∧ (twoB op = true ∨ twoB op = false ∧ (imm == 0) = true) ∧ (rN op = true ∨ rN op = false ∧ regB c (rC op) = true) := by
  rw [ins_ref] at h
  simp only [Bool.and_eq_true, Bool.or_eq_true, decide_eq_true_eq] at h
  obtain ⟨⟨⟨⟨h1, h2⟩, h3⟩, h4⟩, h5⟩ := h
  refine ⟨by simpa using h1, h2, h3, ?_, ?_⟩
  · cases ht : twoB op
    · right; simp [ht] at h4; simp [h4]
    · left; rfl
  · cases hn : rN op
    · right; simp [hn] at h5; simp [h5]
    · left; rfl
theorem rins_no {op a b c imm : Int} (h : insB op a b c imm = false) :
    ((clsI op != 0) = false ∧ rN op = rN op) ∨
    ((clsI op != 0) = true ∧ regB a (rA op) = false) ∨
    ((clsI op != 0) = true ∧ regB a (rA op) = true ∧ regB b (rB op) = false) ∨
    ((clsI op != 0) = true ∧ regB a (rA op) = true ∧ regB b (rB op) = true ∧ twoB op = false ∧ (imm == 0) = false) ∨
    ((clsI op != 0) = true ∧ regB a (rA op) = true ∧ regB b (rB op) = true ∧ twoB op = true ∧ rN op = true ∧ c < 0) ∨
    ((clsI op != 0) = true ∧ regB a (rA op) = true ∧ regB b (rB op) = true ∧ twoB op = true ∧ rN op = true ∧ 0 ≤ c ∧ decide (c ≤ 255) = false) ∨
    ((clsI op != 0) = true ∧ regB a (rA op) = true ∧ regB b (rB op) = true ∧ twoB op = true ∧ rN op = false ∧ regB c (rC op) = false) ∨
    ((clsI op != 0) = true ∧ regB a (rA op) = true ∧ regB b (rB op) = true ∧ twoB op = false ∧ (imm == 0) = true ∧ rN op = true ∧ c < 0) ∨
    ((clsI op != 0) = true ∧ regB a (rA op) = true ∧ regB b (rB op) = true ∧ twoB op = false ∧ (imm == 0) = true ∧ rN op = true ∧ 0 ≤ c ∧ decide (c ≤ 255) = false) ∨
    ((clsI op != 0) = true ∧ regB a (rA op) = true ∧ regB b (rB op) = true ∧ twoB op = false ∧ (imm == 0) = true ∧ rN op = false ∧ regB c (rC op) = false) := by
  rw [ins_ref] at h
  by_cases h1 : clsI op = 0
  · left; simp [h1]
  · right
    have e1 : (clsI op != 0) = true := by simpa using h1
    cases h2 : regB a (rA op)
    · left; simp [e1]
    · right
      cases h3 : regB b (rB op)
      · left; simp [e1]
      · right
        cases ht : twoB op
        · by_cases hi : imm = 0
          · right; right; right; right
            cases hn : rN op
            · right; right
              simp [h1, h2, h3, ht, hi, hn] at h; simp [e1, hi, h]
            · simp [h1, h2, h3, ht, hi, hn] at h
              by_cases hc : c < 0
              · left; simp [e1, hi, hc]
              · right; left; simp [e1, hi]; omega
          · left; simp [e1, hi]
        · right
          cases hn : rN op
          · right; right; left
            simp [h1, h2, h3, ht, hn] at h; simp [e1, h]
          · simp [h1, h2, h3, ht, hn] at h
            by_cases hc : c < 0
            · left; simp [e1, hc]
            · right; left; simp [e1]; omega

set_option maxHeartbeats 2000000 in
theorem rword_yes (op a b c imm : Int) (w : World) (h : insB op a b c imm = true) :
    Calls Tryz.prog 56 #[.agg #[.int .i64 op, .int .i64 a, .int .i64 b, .int .i64 c, .int .u32 imm]] w fun e w' => e = .returned (.tuple #[.int .u32 (wrdI op a b c), .bool true]) ∧ Below w.heap.size w w' := by
  obtain ⟨⟨o1, o2⟩, ⟨a1, a2⟩, ⟨b1, b2⟩, ⟨c1, c2⟩⟩ := ins_bd h
  have H : Hid (bits BinOp.or IntKind.u32 (bits BinOp.or IntKind.u32 (bits BinOp.or IntKind.u32 (op * 16777216) (a * 65536)) (b * 256)) c = wrdI op a b c) := wrd_or op a b c ⟨by omega, by omega⟩ ⟨a1, a2⟩ ⟨b1, b2⟩ ⟨c1, c2⟩
  obtain ⟨h1, h2, h3, h4, h5⟩ := rins_yes h
  clear h
  rcases h4 with h4 | ⟨h4, h6⟩ <;> rcases h5 with h5 | ⟨h5, h7⟩
  all_goals
    go_enter Tryz.func56, Tryz.ntmps56
    go_wp2_with (first | (go_at_call 87; refine (uses_any _ _).mono ?_; rintro e w' ⟨rfl, rfl⟩) | (go_at_call 34; refine (rclass_any _ _).mono ?_; rintro e w' ⟨rfl, rfl⟩) | (go_at_call 90; refine (reg_any _ _ _).mono ?_; rintro e w' ⟨rfl, rfl⟩) | (go_at_call 57; refine (rtwo_any _ _).mono ?_; rintro e w' ⟨rfl, rfl⟩))
    go_ret2
    exact ⟨ret_wb H.out, by go_grown⟩
set_option maxHeartbeats 4000000 in
theorem rword_no (op a b c imm : Int) (w : World) (h : insB op a b c imm = false) :
    Calls Tryz.prog 56 #[.agg #[.int .i64 op, .int .i64 a, .int .i64 b, .int .i64 c, .int .u32 imm]] w fun e w' => e = .returned (.tuple #[.int .u32 0, .bool false]) ∧ Below w.heap.size w w' := by
  have h' := rins_no h
  clear h
  rcases h' with ⟨h1, _⟩ | ⟨h1, h2⟩ | ⟨h1, h2, h3⟩ | ⟨h1, h2, h3, h4, h5⟩ | ⟨h1, h2, h3, h4, h5, h6⟩ | ⟨h1, h2, h3, h4, h5, h6, h7⟩ | ⟨h1, h2, h3, h4, h5, h6⟩ | ⟨h1, h2, h3, h4, h5, h6, h7⟩ | ⟨h1, h2, h3, h4, h5, h6, h7, h8⟩ | ⟨h1, h2, h3, h4, h5, h6, h7⟩
  all_goals
    go_enter Tryz.func56, Tryz.ntmps56
    go_wp2_with (first | (go_at_call 87; refine (uses_any _ _).mono ?_; rintro e w' ⟨rfl, rfl⟩) | (go_at_call 34; refine (rclass_any _ _).mono ?_; rintro e w' ⟨rfl, rfl⟩) | (go_at_call 90; refine (reg_any _ _ _).mono ?_; rintro e w' ⟨rfl, rfl⟩) | (go_at_call 57; refine (rtwo_any _ _).mono ?_; rintro e w' ⟨rfl, rfl⟩))
    all_goals
      go_ret2
      exact ⟨rfl, by go_grown⟩
theorem rword_any (op a b c imm : Int) (w : World) :
    Calls Tryz.prog 56 #[.agg #[.int .i64 op, .int .i64 a, .int .i64 b, .int .i64 c, .int .u32 imm]] w fun e w' => e = .returned (.tuple #[.int .u32 (wordV op a b c imm), .bool (insB op a b c imm)]) ∧ Below w.heap.size w w' := by
  cases h : insB op a b c imm
  · rw [wordV_no h]; exact rword_no op a b c imm w h
  · rw [wordV_yes h]; exact rword_yes op a b c imm w h

set_option maxHeartbeats 1000000 in
theorem rof_yes (x imm : Int) (w : World) (hx0 : 0 ≤ x) (hx1 : x < 4294967296) (h : insB (x / 16777216) (x / 65536 % 256) (x / 256 % 256) (x % 256) (wantImm (x / 16777216) imm) = true) :
    Calls Tryz.prog 50 #[.int .u32 x, .int .u32 imm] w fun e w' => e = .returned (.tuple #[.agg #[.int .i64 (x / 16777216), .int .i64 (x / 65536 % 256), .int .i64 (x / 256 % 256), .int .i64 (x % 256), .int .u32 (wantImm (x / 16777216) imm)], .bool true]) ∧ Below w.heap.size w w' := by
  have E1 := and_255 (x / 65536) (by omega) (by omega)
  have E2 := and_255 (x / 256) (by omega) (by omega)
  have E3 := and_255 x (by omega) (by omega)
  cases ht : twoB (x / 16777216)
  · have hw : Hid (wantImm (x / 16777216) imm = 0) := wantImm_no ht
    rw [wantImm_no ht] at h
    go_enter Tryz.func50, Tryz.ntmps50
    go_wp2_with (first | (go_at_call 57; refine (rtwo_any _ _).mono ?_; rintro e w' ⟨rfl, rfl⟩) | (go_at_call 56; refine (rword_any _ _ _ _ _ _).mono ?_; rintro e w' ⟨rfl, hb⟩; obtain ⟨hc, hf⟩ := bcell hb; have hz1 : w.heap.size + 1 < w'.heap.size := (by have := hb.size; simp only [World.size_alloc] at this; omega); have hz : w.heap.size < w'.heap.size := (by omega); have hB : Below w.heap.size w w' := (by refine Below.trans ?_ (hb.mono ?_) <;> go_grown); have k0 : w'.cell? ⟨w.heap.size, 0, none⟩ = some (.int .i64 0) := ((hc _ _ (by simp only [World.size_alloc]; omega)).trans (by simp [go_sem])); have k1 : w'.cell? ⟨w.heap.size, 1, none⟩ = some (.int .i64 0) := ((hc _ _ (by simp only [World.size_alloc]; omega)).trans (by simp [go_sem])); have k2 : w'.cell? ⟨w.heap.size, 2, none⟩ = some (.int .i64 0) := ((hc _ _ (by simp only [World.size_alloc]; omega)).trans (by simp [go_sem])); have k3 : w'.cell? ⟨w.heap.size, 3, none⟩ = some (.int .i64 0) := ((hc _ _ (by simp only [World.size_alloc]; omega)).trans (by simp [go_sem])); have k4 : w'.cell? ⟨w.heap.size, 4, none⟩ = some (.int .u32 0) := ((hc _ _ (by simp only [World.size_alloc]; omega)).trans (by simp [go_sem]))))
    refine bodyPost_ret (v := .tuple #[.agg #[.int .i64 (x / 16777216), .int .i64 (x / 65536 % 256), .int .i64 (x / 256 % 256), .int .i64 (x % 256), .int .u32 0], .bool true]) (by simp [results, Tryz.results50, k0, k1, k2, k3, k4, go_sem]) rfl ?_
    exact ⟨ret_of rfl rfl rfl rfl hw.out.symm, by go_grown⟩
  · have hw : Hid (wantImm (x / 16777216) imm = imm) := wantImm_yes ht
    rw [wantImm_yes ht] at h
    go_enter Tryz.func50, Tryz.ntmps50
    go_wp2_with (first | (go_at_call 57; refine (rtwo_any _ _).mono ?_; rintro e w' ⟨rfl, rfl⟩) | (go_at_call 56; refine (rword_any _ _ _ _ _ _).mono ?_; rintro e w' ⟨rfl, hb⟩; obtain ⟨hc, hf⟩ := bcell hb; have hz1 : w.heap.size + 1 < w'.heap.size := (by have := hb.size; simp only [World.size_alloc] at this; omega); have hz : w.heap.size < w'.heap.size := (by omega); have hB : Below w.heap.size w w' := (by refine Below.trans ?_ (hb.mono ?_) <;> go_grown); have k0 : w'.cell? ⟨w.heap.size, 0, none⟩ = some (.int .i64 0) := ((hc _ _ (by simp only [World.size_alloc]; omega)).trans (by simp [go_sem])); have k1 : w'.cell? ⟨w.heap.size, 1, none⟩ = some (.int .i64 0) := ((hc _ _ (by simp only [World.size_alloc]; omega)).trans (by simp [go_sem])); have k2 : w'.cell? ⟨w.heap.size, 2, none⟩ = some (.int .i64 0) := ((hc _ _ (by simp only [World.size_alloc]; omega)).trans (by simp [go_sem])); have k3 : w'.cell? ⟨w.heap.size, 3, none⟩ = some (.int .i64 0) := ((hc _ _ (by simp only [World.size_alloc]; omega)).trans (by simp [go_sem])); have k4 : w'.cell? ⟨w.heap.size, 4, none⟩ = some (.int .u32 0) := ((hc _ _ (by simp only [World.size_alloc]; omega)).trans (by simp [go_sem]))))
    refine bodyPost_ret (v := .tuple #[.agg #[.int .i64 (x / 16777216), .int .i64 (x / 65536 % 256), .int .i64 (x / 256 % 256), .int .i64 (x % 256), .int .u32 imm], .bool true]) (by simp [results, Tryz.results50, k0, k1, k2, k3, k4, go_sem]) rfl ?_
    exact ⟨ret_of rfl rfl rfl rfl hw.out.symm, by go_grown⟩
set_option maxHeartbeats 1000000 in
theorem rof_no (x imm : Int) (w : World) (hx0 : 0 ≤ x) (hx1 : x < 4294967296) (h : insB (x / 16777216) (x / 65536 % 256) (x / 256 % 256) (x % 256) (wantImm (x / 16777216) imm) = false) :
    Calls Tryz.prog 50 #[.int .u32 x, .int .u32 imm] w fun e w' => e = .returned (.tuple #[.agg #[.int .i64 0, .int .i64 0, .int .i64 0, .int .i64 0, .int .u32 0], .bool false]) ∧ Below w.heap.size w w' := by
  have E1 := and_255 (x / 65536) (by omega) (by omega)
  have E2 := and_255 (x / 256) (by omega) (by omega)
  have E3 := and_255 x (by omega) (by omega)
  cases ht : twoB (x / 16777216)
  · have hw : Hid (wantImm (x / 16777216) imm = 0) := wantImm_no ht
    rw [wantImm_no ht] at h
    go_enter Tryz.func50, Tryz.ntmps50
    go_wp2_with (first | (go_at_call 57; refine (rtwo_any _ _).mono ?_; rintro e w' ⟨rfl, rfl⟩) | (go_at_call 56; refine (rword_any _ _ _ _ _ _).mono ?_; rintro e w' ⟨rfl, hb⟩; obtain ⟨hc, hf⟩ := bcell hb; have hz1 : w.heap.size + 1 < w'.heap.size := (by have := hb.size; simp only [World.size_alloc] at this; omega); have hz : w.heap.size < w'.heap.size := (by omega); have hB : Below w.heap.size w w' := (by refine Below.trans ?_ (hb.mono ?_) <;> go_grown); have k0 : w'.cell? ⟨w.heap.size, 0, none⟩ = some (.int .i64 0) := ((hc _ _ (by simp only [World.size_alloc]; omega)).trans (by simp [go_sem])); have k1 : w'.cell? ⟨w.heap.size, 1, none⟩ = some (.int .i64 0) := ((hc _ _ (by simp only [World.size_alloc]; omega)).trans (by simp [go_sem])); have k2 : w'.cell? ⟨w.heap.size, 2, none⟩ = some (.int .i64 0) := ((hc _ _ (by simp only [World.size_alloc]; omega)).trans (by simp [go_sem])); have k3 : w'.cell? ⟨w.heap.size, 3, none⟩ = some (.int .i64 0) := ((hc _ _ (by simp only [World.size_alloc]; omega)).trans (by simp [go_sem])); have k4 : w'.cell? ⟨w.heap.size, 4, none⟩ = some (.int .u32 0) := ((hc _ _ (by simp only [World.size_alloc]; omega)).trans (by simp [go_sem]))))
    refine bodyPost_ret (v := .tuple #[.agg #[.int .i64 0, .int .i64 0, .int .i64 0, .int .i64 0, .int .u32 0], .bool false]) (by simp [results, Tryz.results50, k0, k1, k2, k3, k4, go_sem]) rfl ?_
    exact ⟨ret_of rfl rfl rfl rfl rfl, by go_grown⟩
  · have hw : Hid (wantImm (x / 16777216) imm = imm) := wantImm_yes ht
    rw [wantImm_yes ht] at h
    go_enter Tryz.func50, Tryz.ntmps50
    go_wp2_with (first | (go_at_call 57; refine (rtwo_any _ _).mono ?_; rintro e w' ⟨rfl, rfl⟩) | (go_at_call 56; refine (rword_any _ _ _ _ _ _).mono ?_; rintro e w' ⟨rfl, hb⟩; obtain ⟨hc, hf⟩ := bcell hb; have hz1 : w.heap.size + 1 < w'.heap.size := (by have := hb.size; simp only [World.size_alloc] at this; omega); have hz : w.heap.size < w'.heap.size := (by omega); have hB : Below w.heap.size w w' := (by refine Below.trans ?_ (hb.mono ?_) <;> go_grown); have k0 : w'.cell? ⟨w.heap.size, 0, none⟩ = some (.int .i64 0) := ((hc _ _ (by simp only [World.size_alloc]; omega)).trans (by simp [go_sem])); have k1 : w'.cell? ⟨w.heap.size, 1, none⟩ = some (.int .i64 0) := ((hc _ _ (by simp only [World.size_alloc]; omega)).trans (by simp [go_sem])); have k2 : w'.cell? ⟨w.heap.size, 2, none⟩ = some (.int .i64 0) := ((hc _ _ (by simp only [World.size_alloc]; omega)).trans (by simp [go_sem])); have k3 : w'.cell? ⟨w.heap.size, 3, none⟩ = some (.int .i64 0) := ((hc _ _ (by simp only [World.size_alloc]; omega)).trans (by simp [go_sem])); have k4 : w'.cell? ⟨w.heap.size, 4, none⟩ = some (.int .u32 0) := ((hc _ _ (by simp only [World.size_alloc]; omega)).trans (by simp [go_sem]))))
    refine bodyPost_ret (v := .tuple #[.agg #[.int .i64 0, .int .i64 0, .int .i64 0, .int .i64 0, .int .u32 0], .bool false]) (by simp [results, Tryz.results50, k0, k1, k2, k3, k4, go_sem]) rfl ?_
    exact ⟨ret_of rfl rfl rfl rfl rfl, by go_grown⟩

end Go.Proofs.YtgahbpfmiibpeaaGreatDoor
