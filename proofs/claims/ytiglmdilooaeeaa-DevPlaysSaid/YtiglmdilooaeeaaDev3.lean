/- What is shown (package dev): contracts. -/
import Derived.Test.YtiglmdilooaeeaaDev2
import Derived.Deep.RegionLaw
namespace Go.Proofs.Ytiglmdilooaeeaa
open Go.RowKit
section
variable {w : World} {B d : Nat} {x : DvS} {v : Value}
theorem seen_info : ∃ i, Try.prog.info? 43 = some i ∧ i.zero = some (.agg #[.int .i64 0, .int .u32 0, .int .u32 0]) ∧ i.size = 3 ∧ i.bytes = 16 := by
  obtain ⟨i, hi, hz0, hz1, hz2⟩ := info_parts (P := Try.prog) (e := 43) (z := .agg #[.int .i64 0, .int .u32 0, .int .u32 0]) (size := 3) (bytes := 16) (by kernel_rfl)
  exact ⟨i, hi, hz0, hz1, hz2⟩
theorem DevAt.across (h : DevAt w B d x v) {W w' : World} (hL : Lv w W []) (hg : W.grownBy w' v.ownBlock) : w'.heap[d]? = w.heap[d]? :=
  (hg.block d (Nat.lt_of_lt_of_le h.lt hL.size) (fun e => h.own_ne e.symm)).trans (hL.block d h.lt (by simp))
/-- devices whose list of what is seen was appended to, and laid into its field -/
theorem DevAt.showed (h : DevAt w B d x v) {W w' w2 : World} (hL : Lv w W []) (hg : W.grownBy w' v.ownBlock) {g cap : Nat} (s : Sn) (hB : B ≤ w.heap.size)
    (hown : w'.ownsRow B 43 3 (.slice (some ⟨g, 0, none⟩) (x.sn.length + 1) cap) (x.sn.length + 1) (snCells x.sn ++ [.int .i64 s.1, .int .u32 s.2.1, .int .u32 s.2.2]))
    (hat : v.ownBlock = some g ∨ g = W.heap.size) (h2 : w2 = w'.setCell ⟨d, 84, none⟩ (.slice (some ⟨g, 0, none⟩) (x.sn.length + 1) cap)) : Turned w B d v { x with sn := x.sn ++ [s] } w2 (.slice (some ⟨g, 0, none⟩) (x.sn.length + 1) cap) := by
  obtain ⟨cur, f, hb, hi⟩ := h.hd
  have hb' := (h.across hL hg).trans hb
  have hgd : g ≠ d := by
    rcases hat with e | e
    · intro e2; subst e2; exact h.own_ne e
    · have := h.lt; have := hL.size; omega
  have hL2 : Lv w w' (foot d v) := (hL.mono (by simp)).trans ((Lv.of_row hg).mono (fun i hi => mem_foot.2 (.inr (by rwa [Option.mem_toList] at hi))))
  have hL3 : Lv w w2 (foot d v) := by rw [h2]; exact hL2.set (mem_foot.2 (.inl rfl)) _ _
  refine ⟨⟨⟨_, f, by rw [h2]; exact heap_setCell_same _ _ _ _ _ _ hb', hi.show rfl _⟩, ?_, h.ge⟩, hL3, ?_⟩
  · have := own_keptL hown (R := [d]) (w1 := w2) (by rw [h2]; exact (Lv.refl _ _).set (by simp) _ _) (by intro k hk; simp [Value.ownBlock] at hk; subst hk; simpa using hgd)
    simpa [snCells_append, snCells] using this
  · rcases hat with e | e
    · left; rw [e]; rfl
    · right
      intro k hk
      obtain rfl : g = k := by simpa [Value.ownBlock] using hk
      rw [e]; exact hL.size
set_option maxHeartbeats 1000000 in
theorem show_any (h : DevAt w B d x v) (k a n : Int) (hl : x.sn.length ≤ 1000000) (hB : B ≤ w.heap.size) :
    Calls Try.prog 31 #[.pointer (some ⟨d, 0, none⟩), .agg #[.int .i64 k, .int .u32 a, .int .u32 n]] w fun e w' => e = .returned (.tuple #[]) ∧ ∃ v', Turned w B d v { x with sn := x.sn ++ [(k, a, n)] } w' v' := by
  obtain ⟨i, hi, hz0, hz1, hz2⟩ := seen_info
  obtain ⟨cur, f, hb, his⟩ := h.hd
  have Hb := hid hb
  have His := hid his
  have H := hid h
  have Hi := hid hi
  have Hz0 := hid hz0
  have Hz1 := hid hz1
  have Hz2 := hid hz2
  have hc : ∀ o, (w.alloc o).cell? ⟨d, 84, none⟩ = some v := fun o => by rw [World.cell?_alloc_lt _ _ _ h.lt, cell_of_row w d _ _ _ _ hb, his.seen]
  have hc2 : ∀ o o', ((w.alloc o).alloc o').cell? ⟨d, 84, none⟩ = some v := fun o o' => by rw [World.cell?_alloc_lt _ _ _ (Nat.lt_of_lt_of_le h.lt (World.grownBy_alloc w o none).size)]; exact hc o
  have HBl := hid hB
  have Hl := hid hl
  clear hb his h hi hz0 hz1 hz2 hB hl
  go_enter Try.func31, Try.ntmps31
  go_wp2
  go_region_law (refine step_append_lies _ rfl (.tmp 8) (.tmp 10) 31 rfl B 43 i _ 3 16 Try.underlying31 Hi.out Hz0.out Hz1.out Hz2.out rfl (by decide) v x.sn.length (snCells x.sn) (by simp [Act.eval, Act.put]) (own_keptL H.out.own (R := []) (by repeat (first | exact Lv.refl _ _ | apply Lv.drew | apply Lv.alloc)) (by simp)) ⟨w.heap.size + 1, 0, none⟩ 1 1 [.int .i64 k, .int .u32 a, .int .u32 n] (by simp [Act.eval, Act.put]) rfl (World.news_of_block (cs := #[.int .i64 k, .int .u32 a, .int .u32 n]) (heap_alloc2_new w _ _)) (by simp [Value.oneCell']) (by decide) (by have := Hl.out; unfold maxLen; omega) (by have := Hl.out; omega) (by have := HBl.out; simp; omega) _ rfl ?_; intro g cap w' hown hgrow hat hlt; have hd' := H.out.across (by repeat (first | exact Lv.refl _ _ | apply Lv.drew | apply Lv.alloc)) hgrow; have hc3 : w'.cell? ⟨d, 84, none⟩ = some v := (by rw [cell_of_row w' d _ _ _ _ (hd'.trans Hb.out), His.out.seen]); have hf3 : w'.frozen? ⟨d, 84, none⟩ = false := frozen_of_row w' d _ _ _ (hd'.trans Hb.out); have HT := hid (H.out.showed (by repeat (first | exact Lv.refl _ _ | apply Lv.drew | apply Lv.alloc)) hgrow (k, a, n) HBl.out hown hat rfl); clear hown hgrow hat hlt hd')
  all_goals (go_wp2; go_end0; exact ⟨rfl, _, HT.out⟩)
end
end Go.Proofs.Ytiglmdilooaeeaa
