/- What is shown, put, ended; a copy of what is seen (package dev): contracts. -/
import Derived.Test.YtiglmdilooaeeaaDev3
namespace Go.Proofs.Ytiglmdilooaeeaa
open Go.RowKit
section
variable {w w1 w2 : World} {B d : Nat} {x x1 x2 : DvS} {v v1 v2 : Value}
theorem Turned.trans (h : Turned w B d v x1 w1 v1) (k : Turned w1 B d v1 x2 w2 v2) : Turned w B d v x2 w2 v2 := by
  refine ⟨k.at_, ?_, ?_⟩
  · refine ⟨k.lv.os.trans h.lv.os, k.lv.tape.trans h.lv.tape, k.lv.output.trans h.lv.output, Nat.le_trans h.lv.size k.lv.size, fun i hi hr => (k.lv.block i (Nat.lt_of_lt_of_le hi h.lv.size) ?_).trans (h.lv.block i hi hr)⟩
    intro e
    rcases mem_foot.1 e with rfl | e
    · exact hr (mem_foot.2 (.inl rfl))
    · rcases h.mine with m | m
      · exact hr (mem_foot.2 (.inr (m.symm.trans e)))
      · have := m i e; omega
  · rcases k.mine with m | m
    · rcases h.mine with m' | m'
      · exact .inl (m.trans m')
      · exact .inr (fun g hg => m' g (m.symm.trans hg))
    · exact .inr (fun g hg => Nat.le_trans h.lv.size (m g hg))
/-- nothing is turned -/
theorem Turned.none (h : DevAt w B d x v) (hg : w.grownBy w1 none) : Turned w B d v x w1 v := ⟨h.kept0 hg, Lv.of_none hg _, .inl rfl⟩
theorem Turned.base (h : Turned w B d v x1 w1 v1) (hB : B ≤ w.heap.size) : B ≤ w1.heap.size := Nat.le_trans hB h.lv.size
/-- behind a call that shows -/
def Shown (w : World) (B d : Nat) (v : Value) (x' : DvS) (e : Ending) (w' : World) : Prop := e = .returned (.tuple #[]) ∧ ∃ v', Turned w B d v x' w' v'
theorem out_any (h : DevAt w B d x v) (n : Int) (hl : x.sn.length ≤ 1000000) (hB : B ≤ w.heap.size) :
    Calls Try.prog 14 #[.pointer (some ⟨d, 0, none⟩), .int .u32 n] w (Shown w B d v { x with sn := x.sn ++ [(1, 0, n)] }) := by
  go_enter Try.func14, Try.ntmps14
  go_wp2_with fail
  refine (show_any h 1 0 n hl hB).mono ?_; rintro e w1 ⟨rfl, v1, ht⟩
  have HT := hid ht
  clear ht
  go_wp2
  go_end0
  exact ⟨rfl, _, HT.out⟩
theorem put_any (h : DevAt w B d x v) (s n : Int) (h0 : 0 ≤ s) (k : Nat) (hk : s % 16 = (k : Int)) (hl : x.sn.length ≤ 1000000) (hB : B ≤ w.heap.size) :
    Calls Try.prog 10 #[.pointer (some ⟨d, 0, none⟩), .int .u32 s, .int .u32 n] w (Shown w B d v { x with S := x.S.set k n, sn := x.sn ++ [(2, (k : Int), n)] }) := by
  obtain ⟨cur, f, hb, hi⟩ := h.hd
  have hk0 : (0 : Int) ≤ (k : Int) := by omega
  have hk1 : (k : Int) < 16 := by omega
  have hs := hi.size
  obtain ⟨u, hu⟩ : ∃ u, w.cell? ⟨d, 66 + k, none⟩ = some u := by rw [cell_of_row w d _ _ _ _ hb]; exact ⟨_, Array.getElem?_eq_getElem (by omega)⟩
  have hfz : ∀ j, w.frozen? ⟨d, j, none⟩ = false := fun j => frozen_of_row w d j _ _ hb
  have hg : Lv w (w.setCell ⟨d, 66 + k, none⟩ (.int .u32 n)) [d] := (Lv.refl w [d]).set (by simp) _ _
  have HT := hid (Turned.of h (h.re hg (heap_setCell_same _ _ _ _ _ _ hb) (hi.put (by omega) n) rfl) hg)
  have HB := hid hB
  clear hb hi h hs hg hB
  go_enter Try.func10, Try.ntmps10
  go_wp2_with fail
  refine (show_any HT.out.at_ 2 k n hl (HT.out.base HB.out)).mono ?_; rintro e w1 ⟨rfl, v1, ht⟩
  have HT2 := hid (HT.out.trans ht)
  clear ht
  go_wp2
  go_end0
  exact ⟨rfl, _, HT2.out⟩
/-- what an end shows -/
def endS (k n : Int) : List Sn := if k = 3 then [(3, 0, n)] else if k = 4 then [(4, n, 0)] else []
theorem end_any (h : DevAt w B d x v) (k n : Int) (hl : x.sn.length ≤ 1000000) (hB : B ≤ w.heap.size) :
    Calls Try.prog 26 #[.pointer (some ⟨d, 0, none⟩), .int .i64 k, .int .u32 n] w (Shown w B d v { x with sn := x.sn ++ endS k n }) := by
  by_cases h3 : k = 3
  · subst h3
    go_enter Try.func26, Try.ntmps26
    go_wp2_with fail
    refine (show_any h 3 0 n hl hB).mono ?_; rintro e w1 ⟨rfl, v1, ht⟩
    have HT := hid ht
    clear ht
    go_wp2
    go_end0
    exact ⟨rfl, _, HT.out⟩
  · have hz3 : (k == 3) = false := by simpa using h3
    by_cases h4 : k = 4
    · subst h4
      go_enter Try.func26, Try.ntmps26
      go_wp2_with fail
      refine (show_any h 4 n 0 hl hB).mono ?_; rintro e w1 ⟨rfl, v1, ht⟩
      have HT := hid ht
      clear ht
      go_wp2
      go_end0
      exact ⟨rfl, _, HT.out⟩
    · have hz4 : (k == 4) = false := by simpa using h4
      have he : endS k n = [] := by simp [endS, h3, h4]
      have HT := hid (Turned.none h (grown_refl w none))
      go_enter Try.func26, Try.ntmps26
      go_wp2
      go_end0
      refine ⟨rfl, v, ?_⟩
      rw [he, List.append_nil]
      exact HT.out
end
/-! ### a copy of what is seen -/
def CopiedAt (w : World) (l : List Sn) (e : Ending) (w' : World) : Prop :=
  ∃ v, e = .returned v ∧ w'.ownsRow w.heap.size 43 3 v l.length (snCells l) ∧ w.grownBy w' none
set_option maxHeartbeats 1000000 in
theorem clone_seens {w : World} {B : Nat} {v : Value} {l : List Sn} (h : w.ownsRow B 43 3 v l.length (snCells l)) (hl : l.length ≤ 1000000) :
    Calls Try.prog 32 #[v] w (CopiedAt w l) := by
  have hnil := @Lib.run_eql_slice_nil Try.prog
  have H := hid h
  rcases h.2 with ⟨rfl, h0⟩ | ⟨b, c, cur, rfl, hB, hb, hcl, hcm, hsz, ht⟩
  · obtain rfl := List.eq_nil_of_length_eq_zero h0
    clear h
    go_enter Try.func32, Try.ntmps32
    go_wp2
    go_ret
    exact ⟨_, rfl, World.ownsRow_nil _ _ _ _, grown_refl _ _⟩
  · obtain ⟨i, hi, hz0, hz1, hz2⟩ := seen_info
    have Hi := hid hi
    have Hz0 := hid hz0
    have Hz1 := hid hz1
    have Hz2 := hid hz2
    have hblt : b < w.heap.size := (Array.getElem?_eq_some_iff.1 hb).1
    have Hnew : Hid (∀ j u, (snCells l)[j]? = some u → (w.alloc (.cells #[] 43)).cell? ((⟨b, 0, none⟩ : Addr).add j) = some u) := hid (by
      intro j u hu
      rw [Addr.add_mid, World.cell?_alloc_lt _ _ _ hblt, ← Addr.add_mid]
      exact H.out.cells rfl j u hu)
    have Hl : Hid ((snCells l).length = l.length * 3) := hid (snCells_length l)
    have H1 : Hid (∀ v ∈ snCells l, v.oneCell' = true) := hid (snCells_one l)
    have Hown : Hid ((w.alloc (.cells #[] 43)).ownsRow w.heap.size 43 3 (.slice (some ⟨w.heap.size, 0, none⟩) 0 0) 0 []) :=
      hid (World.ownsRow_lit w #[] 0 (Nat.le_refl _) (by unfold maxLen; omega) rfl)
    have Hb : Hid ((0 + l.length) * 16 ≤ 140737488355328) := hid (by omega)
    have Hx : Hid (0 + l.length ≤ maxLen) := hid (by unfold maxLen; omega)
    clear hi hz0 hz1 hz2 h hb ht hsz hcm hcl
    go_enter Try.func32, Try.ntmps32
    go_wp2_with (refine wpList_append_own _ rfl _ _ 31 rfl w.heap.size 43 i _ 3 16 Try.underlying31 Hi.out Hz0.out Hz1.out Hz2.out rfl (by decide) (.slice (some ⟨w.heap.size, 0, none⟩) 0 0) 0 [] rfl Hown.out ⟨b, 0, none⟩ l.length _ (snCells l) rfl Hl.out Hnew.out H1.out Hx.out Hb.out (by simp) ?_; intro v' w2 hown2 hgrow2 _; have HO := hid hown2; have HG := hid hgrow2; clear hown2 hgrow2)
    go_ret
    refine ⟨v', rfl, ?_, ?_⟩
    · have := HO.out; rwa [Nat.zero_add, List.nil_append] at this
    · exact grown_new' (grown_trans (World.grownBy_alloc _ _ _) HG.out) (fun k hk => by simp [Value.ownBlock] at hk; omega)
section
variable {w : World} {B d : Nat} {x : DvS} {v : Value}
theorem seen_any (h : DevAt w B d x v) (hl : x.sn.length ≤ 1000000) :
    Calls Try.prog 16 #[.pointer (some ⟨d, 0, none⟩)] w (CopiedAt w x.sn) := by
  obtain ⟨cur, f, hb, hi⟩ := h.hd
  have hc : w.cell? ⟨d, 84, none⟩ = some v := by rw [cell_of_row w d _ _ _ _ hb, hi.seen]
  have Ho := hid h.own
  clear hb hi h
  go_enter Try.func16, Try.ntmps16
  go_wp2_with fail
  refine (clone_seens Ho.out hl).mono ?_; rintro e w1 ⟨u, rfl, hown, hg⟩
  have HO := hid hown
  have HG := hid hg
  clear hown hg
  go_wp2
  go_ret
  exact ⟨_, rfl, HO.out, HG.out⟩
end
end Go.Proofs.Ytiglmdilooaeeaa
