/- The law AluOne's own question of one operation: a contract. -/
import Derived.Test.YtniahejdddoopaaALaw0
import Derived.LoopTactic
namespace Go.Proofs.Ytniahejdddoopaa
open Go.RowKit
theorem abc_ins {a b c : Int} (a0 : 0 ≤ a) (a1 : a < 16) (b0 : 0 ≤ b) (b1 : b < 16) (c0 : 0 ≤ c) (c1 : c < 16) {k : Int} (hk : (3 ≤ k ∧ k ≤ 11) ∨ k = 24) : aluB k a b c 0 = true := by
  have e {x : Int} (h0 : 0 ≤ x) (h1 : x < 16) : alwB 1 x = true := by unfold alwB; simp; omega
  have : k = 3 ∨ k = 4 ∨ k = 5 ∨ k = 6 ∨ k = 7 ∨ k = 8 ∨ k = 9 ∨ k = 10 ∨ k = 11 ∨ k = 24 := by omega
  rcases this with rfl | rfl | rfl | rfl | rfl | rfl | rfl | rfl | rfl | rfl
  all_goals
    unfold aluB insB
    rw [show hasA _ = 1 by decide, show hasB _ = 1 by decide, show hasC _ = 1 by decide, e a0 a1, e b0 b1, e c0 c1]
    decide
/-- registers and three numbers of registers, in blocks of their own -/
structure OAt (W : World) (R : Nat) (a b c : Int) (l : List Int) : Prop where
  hr : RegAt W R l
  ha : W.cell? ⟨R + 1, 0, none⟩ = some (.int .i64 a)
  hb : W.cell? ⟨R + 1 + 1, 0, none⟩ = some (.int .i64 b)
  hc : W.cell? ⟨R + 1 + 1 + 1, 0, none⟩ = some (.int .i64 c)
  lt : R + 1 + 1 + 1 < W.heap.size
theorem OAt.kept {W w1 : World} {R : Nat} {a b c : Int} {l : List Int} (h : OAt W R a b c l) (hg : W.grownBy w1 none) : OAt w1 R a b c l where
  hr := h.hr.kept0 hg
  ha := (grown_cell hg (by have := h.lt; simp; omega) (by simp)).trans h.ha
  hb := (grown_cell hg (by have := h.lt; simp; omega) (by simp)).trans h.hb
  hc := (grown_cell hg (by have := h.lt; exact this) (by simp)).trans h.hc
  lt := Nat.lt_of_lt_of_le h.lt hg.size
set_option maxHeartbeats 4000000 in
theorem one_law {W : World} {R : Nat} {a b c : Int} {l : List Int} (h : OAt W R a b c l) (hl : Regs l) (a0 : 0 ≤ a) (a1 : a < 16) (b0 : 0 ≤ b) (b1 : b < 16) (c0 : 0 ≤ c) (c1 : c < 16) (op V : Int) (hk : (3 ≤ op ∧ op ≤ 11) ∨ op = 24) (hV : reckV op l a b c 0 = V) :
    Calls Try.prog 15 #[.int .i64 op, .pointer (some ⟨R + 1, 0, none⟩), .pointer (some ⟨R + 1 + 1, 0, none⟩), .pointer (some ⟨R + 1 + 1 + 1, 0, none⟩), .pointer (some ⟨R, 0, none⟩)] W fun e w' => e = .returned (.int .u32 V) ∧ W.grownBy w' none := by
  have hB := abc_ins a0 a1 b0 b1 c0 c1 hk
  obtain ⟨L, HL, hL⟩ : ∃ L, Hid (aluL op a b c 0 l = L) ∧ L = l.set a.toNat V := ⟨_, hid rfl, by unfold aluL; rw [if_pos hB, hV]⟩
  have HLe := hid hL
  have hLa : L[a.toNat]? = some V := by rw [hL, List.getElem?_set_self (by rw [hl.len]; omega)]
  have HLa := hid hLa
  have HB := hid hB
  have HRl := hid hl
  have Hs := hid hl.info
  have Hl : Hid (L.length = 16) := hid (by rw [hL, List.length_set]; exact hl.len)
  have Hs5 := hid (regs_len_info L Hl.out)
  have Hz : Hid (16 = (wA L).size) := hid (by rw [wA_size, Hl.out])
  have HO := hid h
  have ka := h.ha
  have kb := h.hb
  have kc := h.hc
  clear hL hLa hB hl h hk hV
  go_enter Try.func15, Try.ntmps15
  go_wp2_with (refine wpList_load_row rfl 24 _ rfl R rfl _ _ _ _ HO.out.hr Try.underlying24 rfl Hs.out ?_)
  refine (do_of op a b c 0 HRl.out L true HL.out HB.out _).mono ?_
  rintro e w1 ⟨rfl, hg⟩
  have HO1 : Hid (OAt (w1.alloc (.cells (wA L) 24)) R a b c l) := hid ((HO.out.kept hg).kept (World.grownBy_alloc _ _ _))
  have HG1 : Hid (W.grownBy (w1.alloc (.cells (wA L) 24)) none) := hid (grown_trans hg (World.grownBy_alloc _ _ _))
  have HN1 : Hid (RegAt (w1.alloc (.cells (wA L) 24)) w1.heap.size L) := hid (RegAt.new _ _)
  clear hg HO ka kb kc
  go_wp2_with (refine wpList_store_row rfl 24 _ _ rfl w1.heap.size _ rfl rfl _ _ (heap_alloc_last w1 _) Hs5.out Hz.out (wA_one _) ?_; rw [World.setRow_alloc_new])
  go_loopw [9] (fun i wr => ∃ j : Nat, j ≤ 16 ∧ i = .int .i64 j ∧ Hid ((w1.alloc (.cells (wA L) 24)).grownBy wr none)) (fun i _ => 16 - (intOf i).toNat)
  case atStart => exact ⟨0, Nat.zero_le _, rfl, hid (grown_refl _ _)⟩
  case round =>
    obtain ⟨j, hj, rfl, Hg⟩ := hrel
    have ka := (HO1.out.kept Hg.out).ha
    by_cases hlt : j < 16
    · obtain ⟨x, Hx⟩ : ∃ x, Hid (l[j]? = some x) := ⟨_, hid (List.getElem?_eq_getElem (by rw [HRl.out.len]; exact hlt))⟩
      have hk0 : (0 : Int) ≤ (j : Int) := by omega
      have hk1 : (j : Int) < 16 := by omega
      by_cases hja : (j : Int) = a
      · have hq : ((j : Int) == a) = true := by simpa using hja
        have hq2 : ((j : Int) != a) = false := by simpa using hja
        clear hja
        go_wp2
        go_quiet (fail)
        go_wp2
        go_roundw
        case rel => exact ⟨j + 1, by omega, by go_num, hid (grown_drewN Hg.out _)⟩
        case measure => simp [intOf]; omega
      · have hq : ((j : Int) == a) = false := by simpa using hja
        have hq2 : ((j : Int) != a) = true := by simpa using hja
        have hxx : (x != x) = false := by simp
        have cx := (HN1.out.kept0 Hg.out).cell (k := j) (x := x) (by rw [HLe.out, List.getElem?_set_ne (by omega)]; exact Hx.out)
        have cy := (HO1.out.kept Hg.out).hr.cell Hx.out
        clear hja
        go_wp2
        go_quiet (fail)
        go_wp2
        go_roundw
        case rel => exact ⟨j + 1, by omega, by go_num, hid (grown_drewN Hg.out _)⟩
        case measure => simp [intOf]; omega
    · have ca := (HN1.out.kept0 Hg.out).cell HLa.out
      go_wp2
      go_ret
      exact ⟨rfl, grown_trans HG1.out Hg.out⟩
end Go.Proofs.Ytniahejdddoopaa
