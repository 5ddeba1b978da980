/- What is shown (package dev): contracts. -/
import Derived.Test.YtajminajdcpgnaaDev2
import Derived.Deep.RegionLaw
namespace Go.Proofs.Ytajminajdcpgnaa
open Go.RowKit
section
variable {w : World} {B d : Nat} {x : DvS} {v : Value}
theorem seen_info : ∃ i, Try.prog.info? 72 = some i ∧ i.zero = some (.agg #[.int .i64 0, .int .u32 0, .int .u32 0]) ∧ i.size = 3 ∧ i.bytes = 16 := by
  obtain ⟨i, hi, hz0, hz1, hz2⟩ := info_parts (P := Try.prog) (e := 72) (z := .agg #[.int .i64 0, .int .u32 0, .int .u32 0]) (size := 3) (bytes := 16) (by kernel_rfl)
  exact ⟨i, hi, hz0, hz1, hz2⟩
theorem DevAt.across (h : DevAt w B d x v) {W w' : World} (hL : Lv w W []) (hg : W.grownBy w' v.ownBlock) : w'.heap[d]? = w.heap[d]? :=
  (hg.block d (Nat.lt_of_lt_of_le h.lt hL.size) (fun e => h.own_ne e.symm)).trans (hL.block d h.lt (by simp))
/-- devices whose list of what is seen was appended to, and laid into its field -/
theorem DevAt.showed (h : DevAt w B d x v) {W w' w2 : World} (hL : Lv w W []) (hg : W.grownBy w' v.ownBlock) {g cap : Nat} (s : Sn) (hB : B ≤ w.heap.size)
    (hown : w'.ownsRow B 72 3 (.slice (some ⟨g, 0, none⟩) (x.sn.length + 1) cap) (x.sn.length + 1) (snCells x.sn ++ [.int .i64 s.1, .int .u32 s.2.1, .int .u32 s.2.2]))
    (hat : v.ownBlock = some g ∨ g = W.heap.size) (h2 : w2 = w'.setCell ⟨d, 84, none⟩ (.slice (some ⟨g, 0, none⟩) (x.sn.length + 1) cap)) : Turned w B d v { x with sn := x.sn ++ [s] } w2 (.slice (some ⟨g, 0, none⟩) (x.sn.length + 1) cap) := by
  obtain ⟨cur, f, hb, hi⟩ := h.hd
  have hb' := (h.across hL hg).trans hb
  have hgd : g ≠ d := by
    rcases hat with e | e
    · intro e2; subst e2; exact h.own_ne e
    · have := h.lt; have := hL.size; omega
  have hL2 : Lv w w' (foot d v) := (hL.mono (by simp)).trans ((Lv.of_row hg).mono (fun i hi => mem_foot.2 (.inr (by rwa [Option.mem_toList] at hi))))
  have hL3 : Lv w w2 (foot d v) := by rw [h2]; exact hL2.set (mem_foot.2 (.inl rfl)) _ _
  refine ⟨⟨⟨_, f, by rw [h2]; exact heap_setCell_same _ _ _ _ _ _ hb', hi.show rfl _⟩, ?_, h.ge⟩, hL3, ?_⟩
  · have := own_keptL hown (R := [d]) (w1 := w2) (by rw [h2]; exact (Lv.refl _ _).set (by simp) _ _) (by intro k hk; simp [Value.ownBlock] at hk; subst hk; simpa using hgd)
    simpa [snCells_append, snCells] using this
  · rcases hat with e | e
    · left; rw [e]; rfl
    · right
      intro k hk
      obtain rfl : g = k := by simpa [Value.ownBlock] using hk
      rw [e]; exact hL.size
end
end Go.Proofs.Ytajminajdcpgnaa
