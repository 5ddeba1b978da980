/- What a store and a load do on mapped words: plain facts. -/
import Derived.Test.YtaecbekobpgkoaaDoorZCFetch0
import Derived.Test.YtaecbekobpgkoaaDoorZCRuns0
namespace Go.Proofs.YtaecbekobpgkoaaDoor
open Go.RowKit
theorem ins_st {C : Int} (c0 : 0 ≤ C) (c1 : C ≤ 255) : insB 13 4 5 C 0 = true := by
  unfold insB alwB
  rw [show hasA 13 = 1 by decide, show hasB 13 = 1 by decide, show hasC 13 = 2 by decide, show clsI 13 = 1 by decide, show twoB 13 = false by decide]
  simp; omega
theorem ins_ld {C : Int} (c0 : 0 ≤ C) (c1 : C ≤ 255) : insB 12 6 5 C 0 = true := by
  unfold insB alwB
  rw [show hasA 12 = 1 by decide, show hasB 12 = 1 by decide, show hasC 12 = 2 by decide, show clsI 12 = 1 by decide, show twoB 12 = false by decide]
  simp; omega
/-- the registers -/
def wreg (v A : Int) : List Int := (zeroP.l.set 4 v).set 5 A
theorem wreg_4 (v A : Int) : regI (wreg v A) 4 = v := rfl
theorem wreg_5 (v A : Int) : regI (wreg v A) 5 = A := rfl
theorem wreg_regs {v A : Int} (v0 : 0 ≤ v) (v1 : v < 4294967296) (a0 : 0 ≤ A) (a1 : A < 4294967296) : Regs (wreg v A) := (zeros_regs.set 4 v0 v1).set 5 a0 a1
section
variable {l : List Int} {v A C AT : Int}
theorem words_fetch (hx : l.getD 0 0 = wrdI 13 4 5 C) (c0 : 0 ≤ C) (c1 : C ≤ 255) : fetchP (mapW l true true) 24 0 0 true = ⟨0, 0, 13, 4, 5, C, 0, 1⟩ := by
  have h := ins_st c0 c1
  obtain ⟨o1, o2, _⟩ := okW_wrd h
  rw [fetch_at (by decide) (by decide) hx (by rfl) o1 (by rw [o2]; decide), insS_wrd h]
theorem words_far (hx : l.getD 0 0 = wrdI 13 4 5 C) (c0 : 0 ≤ C) (c1 : C ≤ 255) (hA : (A + C) % 4294967296 = AT) (h96 : 96 ≤ AT) (h5 : AT < 2048) :
    onceP (mapW l true true) 24 0 ⟨wreg v A, 0, false, false, 0, 0, 0, 0⟩ true = ⟨⟨wreg v A, 0, false, false, 0, 0, 0, 0⟩, ⟨1, AT, 13, 4, 5, C, 0, 1⟩, mapW l true true⟩ := by
  show doP _ 24 0 _ true (fetchP (mapW l true true) 24 0 0 true) = _
  rw [words_fetch hx c0 c1]
  have hb : atB (mapW l true true) 24 0 AT true true = false := by
    by_cases h : AT < 192
    · rw [(map_at l true true (by omega) h true true).1, decide_eq_false (show ¬ AT < 96 by omega)]; rfl
    · exact map_far l true true (by omega) h5 true true
  unfold doP
  simp only [if_true, show clsI 13 = 1 by decide]
  unfold innP
  rw [if_pos (Or.inr rfl)]
  unfold moveP
  have ha : addrI ⟨wreg v A, 0, false, false, 0, 0, 0, 0⟩ 5 C = AT := by unfold addrI; rw [wreg_5]; exact hA
  rw [ha, show ((13 : Int) == 13) = true by decide, hb]
  rfl
theorem words_near (hx : l.getD 0 0 = wrdI 13 4 5 C) (c0 : 0 ≤ C) (c1 : C ≤ 255) (hA : (A + C) % 4294967296 = AT) (h0 : 0 ≤ AT) (h96 : AT < 96) :
    onceP (mapW l true true) 24 0 ⟨wreg v A, 0, false, false, 0, 0, 0, 0⟩ true = ⟨⟨wreg v A, 1, false, false, 0, 0, 0, 0⟩, ⟨0, 0, 13, 4, 5, C, 0, 1⟩, (mapW l true true).set (32 + AT.toNat) v⟩ := by
  show doP _ 24 0 _ true (fetchP (mapW l true true) 24 0 0 true) = _
  rw [words_fetch hx c0 c1]
  obtain ⟨h1, h2⟩ := map_at l true true h0 (by omega) true true
  have hb : atB (mapW l true true) 24 0 AT true true = true := by rw [h1, decide_eq_true h96]; rfl
  unfold doP
  simp only [if_true, show clsI 13 = 1 by decide]
  unfold innP
  rw [if_pos (Or.inr rfl)]
  unfold moveP
  have ha : addrI ⟨wreg v A, 0, false, false, 0, 0, 0, 0⟩ 5 C = AT := by unfold addrI; rw [wreg_5]; exact hA
  rw [ha, show ((13 : Int) == 13) = true by decide, hb, h2 hb, wreg_4, show (32 + AT).toNat = 32 + AT.toNat by omega]
  rfl
theorem set_map {ws wl : Int} {k : Nat} (h2 : 2 ≤ k) (h96 : k < 96) : ∃ l2 : List Int, (mapW [ws, wl] true true).set (32 + k) v = mapW l2 true true ∧ l2.getD 1 0 = wl ∧ l2.getD k 0 = v := by
  refine ⟨([ws, wl] ++ List.replicate 350 0).set k v, ?_, ?_, ?_⟩
  · apply List.ext_getElem?
    intro j
    by_cases hj : j < 384
    · rw [mapW_get _ _ _ hj]
      by_cases e : j = 32 + k
      · subst e
        rw [List.getElem?_set_self (by rw [mapW_len]; exact hj), if_pos (by omega), show 32 + k - 32 = k by omega, List.getD_eq_getElem?_getD, List.getElem?_set_self (by rw [List.length_append, List.length_replicate]; omega)]
        rfl
      · rw [List.getElem?_set_ne (by omega), mapW_get _ _ _ hj]
        by_cases e2 : 32 ≤ j
        · rw [if_pos e2, if_pos e2, List.getD_eq_getElem?_getD, List.getD_eq_getElem?_getD, List.getElem?_set_ne (by omega)]
          by_cases e3 : j - 32 < 2
          · rw [List.getElem?_append_left (by simpa using e3)]
          · rw [List.getElem?_eq_none (by simp; omega), List.getElem?_append_right (by simp; omega), List.getElem?_replicate]
            split <;> rfl
        · rw [if_neg e2, if_neg e2]
    · rw [List.getElem?_eq_none (by rw [List.length_set, mapW_len]; omega), List.getElem?_eq_none (by rw [mapW_len]; omega)]
  · rw [List.getD_eq_getElem?_getD, List.getElem?_set_ne (by omega)]; rfl
  · rw [List.getD_eq_getElem?_getD, List.getElem?_set_self (by rw [List.length_append, List.length_replicate]; omega)]; rfl
theorem words_back (hx : l.getD 1 0 = wrdI 12 6 5 C) (c0 : 0 ≤ C) (c1 : C ≤ 255) (hA : (A + C) % 4294967296 = AT) (h0 : 0 ≤ AT) (h96 : AT < 96) (hv : l.getD AT.toNat 0 = v) :
    onceP (mapW l true true) 24 0 ⟨wreg v A, 1, false, false, 0, 0, 0, 0⟩ true = ⟨⟨(wreg v A).set 6 v, 2, false, false, 0, 0, 0, 0⟩, ⟨0, 0, 12, 6, 5, C, 0, 1⟩, mapW l true true⟩ := by
  show doP _ 24 0 _ true (fetchP (mapW l true true) 24 0 1 true) = _
  have h := ins_ld c0 c1
  obtain ⟨o1, o2, _⟩ := okW_wrd h
  rw [fetch_at (by decide) (by decide) hx (by rfl) o1 (by rw [o2]; decide), insS_wrd h]
  obtain ⟨h1, h2⟩ := map_at l true true h0 (by omega) false true
  have hb : atB (mapW l true true) 24 0 AT false true = true := by rw [h1]; rfl
  have hr := map_rd l true true h0 (by omega) true (by rfl)
  rw [hv] at hr
  unfold doP
  simp only [if_true, show clsI 12 = 1 by decide]
  unfold innP
  rw [if_pos (Or.inl rfl)]
  unfold moveP
  have ha : addrI ⟨wreg v A, 1, false, false, 0, 0, 0, 0⟩ 5 C = AT := by unfold addrI; rw [wreg_5]; exact hA
  rw [show ((12 : Int) == 13) = false by decide, ha, if_pos hb, if_neg (by decide)]
  unfold ldX
  rw [ha, hr]
  rfl
end
end Go.Proofs.YtaecbekobpgkoaaDoor
