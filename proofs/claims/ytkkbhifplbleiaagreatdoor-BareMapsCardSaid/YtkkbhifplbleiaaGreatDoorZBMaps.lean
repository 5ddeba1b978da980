/- The walk of the law BareMaps. -/
import Derived.Test.YtkkbhifplbleiaaGreatDoorZBMapsP
import Derived.Test.YtkkbhifplbleiaaGreatDoorZBShows
import Derived.Test.YtkkbhifplbleiaaGreatDoorZGBareC
import Derived.Test.YtkkbhifplbleiaaGreatDoorZLMem8
import Derived.Test.YtkkbhifplbleiaaGreatDoorZGDev
import Derived.LoopTactic
import Derived.Deep.Cut
import Derived.BigGuardPart
import Derived.BigQuiet
namespace Go.Proofs.YtkkbhifplbleiaaGreatDoor
open Go.RowKit
theorem orQ2 : ∀ F : Nat, F < 24 → bits BinOp.or IntKind.u32 ((F : Int) * 256) 3 = (F : Int) * 256 + 3 := by decide
theorem orL : ∀ r : Nat, r < 8 → bits BinOp.or IntKind.u32 234881024 ((r : Int) * 65536) = 234881024 + (r : Int) * 65536 := by decide
/-- the words of the law's variable 'code' -/
structure PB (W : World) (c : Nat) (l : List Int) (w : World) : Prop where
  cv : ∃ v, w.heap[c]? = some (.cells #[v] 24 (0, 0)) ∧ CB2 W v l (.slice none 0 0) [] w
  ge : W.heap.size ≤ c
section
variable {W w w1 : World} {c : Nat} {l : List Int}
theorem PB.keep (h : PB W c l w) (hg : w.grownBy w1 none) : PB W c l w1 := by
  obtain ⟨v, h1, h2⟩ := h.cv
  exact ⟨⟨v, (hg.block _ (Array.getElem?_eq_some_iff.1 h1).1 (by simp)).trans h1, h2.keep hg⟩, h.ge⟩
theorem PB.old (h : PB W c l w) : W.grownBy w none := by
  obtain ⟨v, h1, h2⟩ := h.cv
  exact h2.hg
def LiAt (w : World) (news : List Int) (e : Ending) (w' : World) : Prop :=
  ∃ b, e = .returned (.slice (some ⟨b, 0, none⟩) 2 2) ∧ (∀ j u, (news.map (Value.int .u32))[j]? = some u → w'.cell? ((⟨b, 0, none⟩ : Addr).add j) = some u) ∧ w.grownBy w' none
theorem li_any (r : Nat) (hr : r < 8) (x : Int) (w : World) : Calls Tryz.prog 33 #[.int .i64 (r : Int), .int .u32 x] w (LiAt w [234881024 + (r : Int) * 65536, x]) := by
  have r0 : (0 : Int) ≤ (r : Int) := by omega
  have r1 : (r : Int) < 8 := by omega
  have H := hid (orL r hr)
  go_enter Tryz.func33, Tryz.ntmps33
  go_wp2
  rw [H.out]
  go_ret
  exact ⟨_, rfl, World.news_of_block (heap_alloc_new w _), World.grownBy_alloc w _ none⟩
set_option maxHeartbeats 1000000 in
theorem putM_any (h : PB W c l w) {b N : Nat} {news : List Int} (hN : news.length = N) (h0 : 0 < N) (hc : ∀ j u, (news.map (Value.int .u32))[j]? = some u → w.cell? ((⟨b, 0, none⟩ : Addr).add j) = some u) (hl : l.length + N ≤ 1000) :
    Calls Tryz.prog 34 #[.slice (some ⟨b, 0, none⟩) N N, .pointer (some ⟨c, 0, none⟩)] w fun e w' => e = .returned (.tuple #[]) ∧ PB W c (l ++ news) w' := by
  obtain ⟨v, h1, h2⟩ := h.cv
  obtain ⟨i, hi, hz0, hz1, hz2⟩ := u32_info
  have hcl := (Array.getElem?_eq_some_iff.1 h1).1
  have hcell : w.cell? ⟨c, 0, none⟩ = some v := by rw [cell_of_row w c 0 _ _ _ h1]; rfl
  have hne : v.ownBlock ≠ some c := by
    intro e
    rcases h2.ov.2 with ⟨rfl, _⟩ | ⟨g, cap, cur, rfl, _, hg, _⟩
    · simp [Value.ownBlock] at e
    · obtain rfl : g = c := by simpa [Value.ownBlock] using e
      rw [h1] at hg
      injection hg with e1
      injection e1 with _ e2
      exact absurd e2 (by decide)
  have Hne := hid hne
  have Hge := hid h.ge
  have H1 := hid h1
  have H2 := hid h2
  have Hi := hid hi
  have Hz0 := hid hz0
  have Hz1 := hid hz1
  have Hz2 := hid hz2
  have Hc := hid hc
  have Hcl := hid hcl
  have HN := hid hN
  have Hl := hid (And.intro h0 hl)
  clear h h1 h2 hi hz0 hz1 hz2 hc hcl hN h0 hl hne
  go_enter Tryz.func34, Tryz.ntmps34
  go_wp2_with (first
    | (refine wpList_append_lies _ rfl _ _ 24 rfl W.heap.size 25 i _ 1 4 Tryz.underlying24 Hi.out Hz0.out Hz1.out Hz2.out rfl (by decide) v l.length (l.map (Value.int .u32)) rfl H2.out.ov ⟨b, 0, none⟩ N N (news.map (Value.int .u32)) rfl (by simp [HN.out]) Hc.out (by intro y hy; obtain ⟨z, _, rfl⟩ := List.mem_map.1 hy; rfl) Hl.out.1 (by have := Hl.out; unfold maxLen; omega) (by have := Hl.out; omega) H2.out.hg.size _ rfl ?_; intro g cap w2 hown hgrow hat hlt; have hb2 := (hgrow.block c Hcl.out Hne.out.symm).trans H1.out; have hc2 : w2.cell? ⟨c, 0, none⟩ = some v := (by rw [cell_of_row w2 c 0 _ _ _ hb2]; rfl); have hf2 : w2.frozen? ⟨c, 0, none⟩ = false := frozen_of_row w2 c 0 _ _ hb2; have Hown := hid hown; have Hgrow := hid hgrow; have Hat := hid hat; have Hb2 := hid hb2; clear hown hgrow hat hb2)
    | fail)
  go_end0
  refine ⟨rfl, ⟨⟨.slice (some ⟨g, 0, none⟩) (l.length + N : Nat) cap, ?_, ?_⟩, Hge.out⟩⟩
  · exact heap_setCell_same _ _ _ _ _ _ Hb2.out
  · have hL : Lv W (w2.setCell ⟨c, 0, none⟩ (.slice (some ⟨g, 0, none⟩) (l.length + N) cap)) (c :: v.ownBlock.toList) :=
      ((Lv.of_none H2.out.hg _).trans ((Lv.of_row Hgrow.out).mono (by intro i hi; exact List.mem_cons_of_mem _ hi))).set (List.mem_cons_self ..) 0 _
    have hgc : g ≠ c := by
      rcases Hat.out with h3 | h3
      · intro e; rw [e] at h3; exact Hne.out h3
      · have := Hcl.out; omega
    refine ⟨⟨hL.os, hL.tape, hL.output, hL.size, fun i hi _ => hL.block i hi (fun hm => ?_)⟩, ?_, World.ownsRow_nil _ _ _ _, fun _ _ => by simp [Value.ownBlock]⟩
    · have := Hge.out
      rcases List.mem_cons.1 hm with rfl | hm
      · omega
      · have := (own_ge H2.out.ov i (Option.mem_toList.1 hm)).1
        omega
    · rw [List.length_append, List.map_append, HN.out]
      exact own_keptL Hown.out ((Lv.refl w2 [c]).set (by simp) 0 _) (by intro g' hg'; have e : g = g' := (by simpa [Value.ownBlock] using hg'); rw [← e]; simpa using hgc)
end
set_option maxRecDepth 100000 in
set_option maxHeartbeats 16000000 in
theorem maps_walk (v page frame : Int) (W : World) (v0 : 0 ≤ v) (v1 : v ≤ 4294967295) (n0 : -9223372036854775808 ≤ page) (n1 : page ≤ 9223372036854775807) (m0 : -9223372036854775808 ≤ frame) (m1 : frame ≤ 9223372036854775807) :
    Calls Tryz.prog 9 #[.int .u32 v, .int .i64 page, .int .i64 frame] W fun e w' => e = .returned (.bool true) ∧ Below W.heap.size W w' := by
  have Hz := zero_cpu
  obtain ⟨P0, hP0⟩ : ∃ P0, numB page 100 = P0 := ⟨_, rfl⟩
  obtain ⟨F0, hF0⟩ : ∃ F0, numB frame 7 = F0 := ⟨_, rfl⟩
  have hP100 : P0 < 100 := by rw [← hP0]; exact numB_lt page (by decide)
  have hF7 : F0 < 7 := by rw [← hF0]; exact numB_lt frame (by decide)
  obtain ⟨P, hP⟩ : ∃ P, P0 + 3 = P := ⟨_, rfl⟩
  obtain ⟨F, hF⟩ : ∃ F, F0 + 17 = F := ⟨_, rfl⟩
  have eP : (P0 : Int) + 3 = (P : Int) := by omega
  have eF : (F0 : Int) + 17 = (F : Int) := by omega
  obtain ⟨P1, hP1⟩ : ∃ P1, P + 1 = P1 := ⟨_, rfl⟩
  obtain ⟨Q, hQ⟩ : ∃ Q, 16 * P = Q := ⟨_, rfl⟩
  have eP1 : (P : Int) + 1 = (P1 : Int) := by omega
  have eQ : 16 * (P : Int) = (Q : Int) := by omega
  have hcode : codeM P F v = [234946560, (P : Int), 235012096, (F : Int) * 256 + 3, 687931904, 235077632, (P1 : Int), 688062976, 704643072, 235143168, (Q : Int), 235208704, v, 218432519, 201720855, 587595776, 235339776, 0, 688064256, 704643072, 201851927] := by
    unfold codeM
    rw [hP1, eQ]
  have HP0 := hid hP0
  have HF0 := hid hF0
  have Hcode := hid hcode
  have HO := hid (orQ2 F (by omega))
  obtain ⟨M0, hM0⟩ : ∃ M0, machM P F v = M0 := ⟨_, rfl⟩
  obtain ⟨MF, hMF⟩ : ∃ MF, iterP (24 + 16) 24 15 M0 = MF := ⟨_, rfl⟩
  obtain ⟨hF1, hF2⟩ := maps_run (P := P) (F := F) (v := v) (by omega) (by omega) (by omega) (by omega)
  rw [hM0, hMF] at hF1 hF2
  have HM0 := hid hM0
  have HMF := hid hMF
  have HF1 := hid hF1
  have HF2 := hid hF2
  have Hn0 : Hid (M0.now = 0) := hid (by rw [← hM0]; rfl)
  have HU := hid (memW8_u32 24 (data := []) (code := codeM P F v) (fun x hx => by cases hx) (by rw [hcode]; intro x hx; simp at hx; rcases hx with rfl | rfl | rfl | rfl | rfl | rfl | rfl | rfl | rfl | rfl | rfl | rfl | rfl | rfl | rfl | rfl | rfl | rfl | rfl | rfl | rfl <;> omega))
  have hP128 : P ≤ 102 := by omega
  have hF24 : F < 24 := by omega
  clear hF1 hF2 hMF hM0 hP0 hF0 hcode hP hF hP1 hQ
  go_enter Tryz.func9, Tryz.ntmps9
  go_wp2_with fail
  refine (first8_any _).mono ?_; rintro e w1 ⟨rfl, hg⟩
  have HG1 := hid hg
  clear hg
  go_wp2_with fail
  refine (number_any page 100 (by decide) (by decide) n0 n1 _).mono ?_; rintro e w2 ⟨rfl, rfl⟩
  rw [HP0.out]
  go_wp2_with fail
  refine (number_any frame 7 (by decide) (by decide) m0 m1 _).mono ?_; rintro e w2 ⟨rfl, rfl⟩
  rw [HF0.out]
  go_wp2_with fail
  have HB : Hid (PB W w1.heap.size [] (w1.alloc (.cells #[.slice none 0 0] 24))) := hid ⟨⟨_, heap_alloc_last w1 _, CB2.nil (grown_trans HG1.out (World.grownBy_alloc w1 _ none))⟩, HG1.out.size⟩
  generalize w1.alloc (.cells #[.slice none 0 0] 24) = w2 at HB ⊢
  generalize w1.heap.size = c at HB ⊢
  clear HG1
  go_wp2_with fail
  refine (li_any 1 (by decide) P w2).mono ?_; rintro e w3 ⟨b3, rfl, hc, hg⟩
  have HC := hid hc
  replace HB := hid (HB.out.keep hg)
  clear hc hg
  go_wp2_with fail
  refine (putM_any HB.out (N := 2) (news := [234881024 + ((1 : Nat) : Int) * 65536, P]) rfl (by decide) HC.out (by simp)).mono ?_; rintro e w4 ⟨rfl, hB⟩
  replace HB := hid hB
  clear hB HC
  go_wp2_with fail
  rw [HO.out]
  refine (li_any 2 (by decide) ((F : Int) * 256 + 3) w4).mono ?_; rintro e w5 ⟨b5, rfl, hc, hg⟩
  have HC := hid hc
  replace HB := hid (HB.out.keep hg)
  clear hc hg
  go_wp2_with fail
  refine (putM_any HB.out (N := 2) (news := [234881024 + ((2 : Nat) : Int) * 65536, ((F : Int) * 256 + 3)]) rfl (by decide) HC.out (by simp)).mono ?_; rintro e w6 ⟨rfl, hB⟩
  replace HB := hid hB
  clear hB HC
  go_wp2_with fail
  refine (putM_any (HB.out.keep (World.grownBy_alloc w6 _ none)) (b := w6.heap.size) (N := 1) (news := [687931904]) rfl (by decide) (World.news_of_block (heap_alloc_new w6 _)) (by simp)).mono ?_; rintro e w7 ⟨rfl, hB⟩
  replace HB := hid hB
  clear hB
  go_wp2_with fail
  refine (li_any 3 (by decide) P1 w7).mono ?_; rintro e w8 ⟨b8, rfl, hc, hg⟩
  have HC := hid hc
  replace HB := hid (HB.out.keep hg)
  clear hc hg
  go_wp2_with fail
  refine (putM_any HB.out (N := 2) (news := [234881024 + ((3 : Nat) : Int) * 65536, P1]) rfl (by decide) HC.out (by simp)).mono ?_; rintro e w9 ⟨rfl, hB⟩
  replace HB := hid hB
  clear hB HC
  go_wp2_with fail
  refine (putM_any (HB.out.keep (World.grownBy_alloc w9 _ none)) (b := w9.heap.size) (N := 2) (news := [688062976, 704643072]) rfl (by decide) (World.news_of_block (heap_alloc_new w9 _)) (by simp)).mono ?_; rintro e w10 ⟨rfl, hB⟩
  replace HB := hid hB
  clear hB
  go_wp2_with fail
  refine (li_any 4 (by decide) Q w10).mono ?_; rintro e w11 ⟨b11, rfl, hc, hg⟩
  have HC := hid hc
  replace HB := hid (HB.out.keep hg)
  clear hc hg
  go_wp2_with fail
  refine (putM_any HB.out (N := 2) (news := [234881024 + ((4 : Nat) : Int) * 65536, Q]) rfl (by decide) HC.out (by simp)).mono ?_; rintro e w12 ⟨rfl, hB⟩
  replace HB := hid hB
  clear hB HC
  go_wp2_with fail
  refine (li_any 5 (by decide) v w12).mono ?_; rintro e w13 ⟨b13, rfl, hc, hg⟩
  have HC := hid hc
  replace HB := hid (HB.out.keep hg)
  clear hc hg
  go_wp2_with fail
  refine (putM_any HB.out (N := 2) (news := [234881024 + ((5 : Nat) : Int) * 65536, v]) rfl (by decide) HC.out (by simp)).mono ?_; rintro e w14 ⟨rfl, hB⟩
  replace HB := hid hB
  clear hB HC
  go_wp2_with fail
  refine (putM_any (HB.out.keep (World.grownBy_alloc w14 _ none)) (b := w14.heap.size) (N := 3) (news := [218432519, 201720855, 587595776]) rfl (by decide) (World.news_of_block (heap_alloc_new w14 _)) (by simp)).mono ?_; rintro e w15 ⟨rfl, hB⟩
  replace HB := hid hB
  clear hB
  go_wp2_with fail
  refine (li_any 7 (by decide) 0 w15).mono ?_; rintro e w16 ⟨b16, rfl, hc, hg⟩
  have HC := hid hc
  replace HB := hid (HB.out.keep hg)
  clear hc hg
  go_wp2_with fail
  refine (putM_any HB.out (N := 2) (news := [234881024 + ((7 : Nat) : Int) * 65536, 0]) rfl (by decide) HC.out (by simp)).mono ?_; rintro e w17 ⟨rfl, hB⟩
  replace HB := hid hB
  clear hB HC
  go_wp2_with fail
  refine (putM_any (HB.out.keep (World.grownBy_alloc w17 _ none)) (b := w17.heap.size) (N := 3) (news := [688064256, 704643072, 201851927]) rfl (by decide) (World.news_of_block (heap_alloc_new w17 _)) (by simp)).mono ?_; rintro e w18 ⟨rfl, hB⟩
  replace HB := hid hB
  clear hB
  obtain ⟨vv, hcv, hcb⟩ := HB.out.cv
  have hcc : w18.cell? ⟨c, 0, none⟩ = some vv := by rw [cell_of_row w18 c 0 _ _ _ hcv]; rfl
  have HC2 : Hid (CB2 W vv (codeM P F v) (.slice none 0 0) [] w18) := hid (by rw [Hcode.out]; exact hcb)
  clear hcv hcb HB
  go_wp2_with fail
  refine (memory8_any 24 (by decide) (by decide) (.slice none 0 0) vv [] (codeM P F v) _ (sl_nil _) HC2.out.sl (by decide) (by show 21 ≤ 256; decide)).mono ?_; rintro e x3 ⟨m, b, m', b', rfl, hm, hb, hb', hM, hR, hg⟩
  have HM := hid hM
  have HG3 := hid (HC2.out.keep hg).hg
  clear hM hR hm hb hb' hg HC2 hcc
  go_wp2_with (first
    | (refine wpList_build_pc rfl _ rfl rfl ?_)
    | fail)
  refine (mb_new (W := W) HM.out HG3.out (pcP_ok (pc := 2048) (tv := 0) (by decide) (by decide) (by decide) (by decide)) HU.out (q := 24) (by decide) (by decide)).mono ?_; rintro e x4 ⟨pb, rfl, hB⟩
  rw [show initM (memW8 24 [] (codeM P F v)) (pcP 2048 0) = M0 from HM0.out] at hB
  have HB := hid hB
  clear hB HM HU HG3
  go_wp2
  go_loopw [15] (fun i wr => ∃ k : Nat, k ≤ 15 ∧ i = .int .i64 k ∧ Hid (MBox W pb (24 + 16) 24 (iterP (24 + 16) 24 k M0) wr)) (fun i _ => 15 - (intOf i).toNat)
  case atStart => exact ⟨0, Nat.zero_le _, rfl, HB⟩
  case round =>
    clear HB
    obtain ⟨k, hk, rfl, HB⟩ := hrel
    have hk0 : (0 : Int) ≤ (k : Int) := by omega
    have hnk : (iterP (24 + 16) 24 k M0).now ≤ 1000 := by have h1 := iter_now (n := 24 + 16) (Q := 24) k M0; have h2 := Hn0.out; omega
    have Hnk := hid hnk
    clear hnk
    by_cases hlt : k < 15
    · have hk1 : (k : Int) < 15 := by omega
      go_wp2_with fail
      refine (mb_step HB.out (by have := Hnk.out; omega) _ rfl _ (iter_snoc (24 + 16) 24 k M0).symm).mono ?_; rintro e x6 ⟨rfl, hB, hO⟩
      have HB6 := hid hB
      clear hB hO HB
      go_wp2
      go_roundw
      case rel => exact ⟨k + 1, by omega, by go_num, HB6⟩
      case measure => simp [intOf]; omega
    · have hge : ¬ (k : Int) < 15 := by omega
      have ek : k = 15 := by omega
      subst ek
      rw [HMF.out] at HB
      clear hlt Hnk
      go_wp2_with fail
      refine (mb_seen HB.out (by rw [HF2.out]; simp) _ HF2.out).mono ?_; rintro e x7 ⟨v1, rfl, hA, hg⟩
      have HA : Hid (SnAt x7 v1 [(1, 0, v), (4, 1, 0)]) := hid (SnAt.own hA)
      have HB7 := hid (HB.out.keep hg)
      clear hA hg HB
      obtain ⟨bs, cs, rfl, hbs, hcs⟩ : ∃ bs cs, v1 = .slice (some ⟨bs, 0, none⟩) 2 cs ∧ bs < x7.heap.size ∧ ∀ j u, (snCells [(1, 0, v), (4, 1, 0)])[j]? = some u → x7.cell? ⟨bs, j, none⟩ = some u := by
        rcases HA.out with ⟨_, h0⟩ | ⟨b, c, h1, h2, h3⟩
        · cases h0
        · exact ⟨b, c, h1, h2, h3⟩
      have d1 := hcs 0 _ rfl
      have d2 := hcs 2 _ rfl
      have d3 := hcs 3 _ rfl
      have d4 := hcs 4 _ rfl
      clear HA hcs hbs
      go_wp2_with fail
      refine (mb_over HB7.out true HF1.out).mono ?_; rintro e x8 ⟨rfl, rfl⟩
      go_wp2
      go_ret
      exact ⟨rfl, grown_below HB7.out.old⟩
end Go.Proofs.YtkkbhifplbleiaaGreatDoor
