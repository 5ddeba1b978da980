/- The document's own devices (facaderef1.Dev): what shows: contracts. (Made by genRShow.py.) -/
import Derived.Test.YtiglmdilooaeeaaRDev1
namespace Go.Proofs.Ytiglmdilooaeeaa
open Go.RowKit
section
variable {w : World} {B b : Nat} {Q S : List Int} {sn : List Sn} {on : Bool} {T : Int} {vw vs : Value}
set_option maxHeartbeats 1000000 in
theorem rput_any (h : RAt w B b Q S sn on T vw vs) (s n : Int) (h0 : 0 ≤ s) (k : Nat) (hk : s % 16 = (k : Int)) (hl : sn.length ≤ 1000000) (hB : B ≤ w.heap.size) :
    Calls Try.prog 24 #[.pointer (some ⟨b, 0, none⟩), .int .u32 s, .int .u32 n] w (RShown w B b vw vs Q (S.set k n) (sn ++ [(2, (k : Int), n)]) on T) := by
  obtain ⟨i, hi, hz0, hz1, hz2⟩ := seen_info
  have Hi := hid hi
  have Hz0 := hid hz0
  have Hz1 := hid hz1
  have Hz2 := hid hz2
  have HBl := hid hB
  have Hl := hid hl
  obtain ⟨cur0, hb0, his0⟩ := h.hb
  have hk0 : (0 : Int) ≤ (k : Int) := by omega
  have hk1 : (k : Int) < 16 := by omega
  have hs := his0.size
  obtain ⟨u, hu⟩ : ∃ u, w.cell? ⟨b, 2 + k, none⟩ = some u := by rw [cell_of_row w b _ _ _ _ hb0]; exact ⟨_, Array.getElem?_eq_getElem (by omega)⟩
  have hfz : ∀ j, w.frozen? ⟨b, j, none⟩ = false := fun j => frozen_of_row w b j _ _ hb0
  have HT0 := hid (h.re ((Lv.refl w [b]).set (by simp) (2 + k) (.int .u32 n)) (heap_setCell_same _ _ _ _ _ _ hb0) (his0.put (by omega) n))
  clear hb0 his0 hs
  obtain ⟨cur, hb, his⟩ := HT0.out.at_.hb
  have Hb := hid hb
  have His := hid his
  have hc : (w.setCell ⟨b, 2 + k, none⟩ (.int .u32 n)).cell? ⟨b, 1, none⟩ = some vs := by rw [cell_of_row _ b _ _ _ _ hb, his.c1]
  have Hown := hid (own_keptL HT0.out.at_.os (Lv.of_none (World.grownBy_alloc (w.setCell ⟨b, 2 + k, none⟩ (.int .u32 n)) (.cells #[.int .i64 2, .int .u32 (k : Int), .int .u32 n] 43) none) []) (by simp))
  have Hnew : Hid (∀ j u, [Value.int .i64 2, .int .u32 (k : Int), .int .u32 n][j]? = some u → ((w.setCell ⟨b, 2 + k, none⟩ (.int .u32 n)).alloc (.cells #[.int .i64 2, .int .u32 (k : Int), .int .u32 n] 43)).cell? ((⟨w.heap.size, 0, none⟩ : Addr).add j) = some u) := hid (by rw [show w.heap.size = (w.setCell ⟨b, 2 + k, none⟩ (.int .u32 n)).heap.size by simp]; exact World.news_of_block (cs := #[.int .i64 2, .int .u32 (k : Int), .int .u32 n]) (heap_alloc_new (w.setCell ⟨b, 2 + k, none⟩ (.int .u32 n)) _))
  clear hb his h hi hz0 hz1 hz2 hB hl
  go_enter Try.func24, Try.ntmps24
  go_wp2_with (refine wpList_append_lies _ rfl _ _ 31 rfl B 43 i _ 3 16 Try.underlying31 Hi.out Hz0.out Hz1.out Hz2.out rfl (by decide) vs sn.length (snCells sn) rfl Hown.out ⟨w.heap.size, 0, none⟩ 1 1 [.int .i64 2, .int .u32 (k : Int), .int .u32 n] rfl rfl Hnew.out (by simp [Value.oneCell']) (by decide) (by have := Hl.out; unfold maxLen; omega) (by have := Hl.out; omega) (by have := HBl.out; simp; omega) _ rfl ?_; intro g cap w' hown hgrow hat hlt; have hd' := HT0.out.at_.across HT0.out.at_.ne_s (Lv.of_none (World.grownBy_alloc (w.setCell ⟨b, 2 + k, none⟩ (.int .u32 n)) _ none) []) hgrow; have hc3 : w'.cell? ⟨b, 1, none⟩ = some vs := (by rw [cell_of_row w' b _ _ _ _ (hd'.trans Hb.out), His.out.c1]); have hf3 : w'.frozen? ⟨b, 1, none⟩ = false := frozen_of_row w' b _ _ _ (hd'.trans Hb.out); have HT := hid (HT0.out.trans (HT0.out.at_.showed (cap := cap) (Lv.of_none (World.grownBy_alloc (w.setCell ⟨b, 2 + k, none⟩ (.int .u32 n)) _ none) []) hgrow (2, (k : Int), n) hown hat rfl)); clear hown hgrow hat hlt hd')
  go_end0
  exact ⟨rfl, _, HT.out⟩
set_option maxHeartbeats 1000000 in
theorem rend3_any (h : RAt w B b Q S sn on T vw vs) (n : Int) (hl : sn.length ≤ 1000000) (hB : B ≤ w.heap.size) :
    Calls Try.prog 27 #[.pointer (some ⟨b, 0, none⟩), .int .i64 3, .int .u32 n] w (RShown w B b vw vs Q S (sn ++ [(3, 0, n)]) on T) := by
  obtain ⟨i, hi, hz0, hz1, hz2⟩ := seen_info
  have Hi := hid hi
  have Hz0 := hid hz0
  have Hz1 := hid hz1
  have Hz2 := hid hz2
  have HBl := hid hB
  have Hl := hid hl
  have HT0 := hid (RTurned.none h (grown_refl w none))
  obtain ⟨cur, hb, his⟩ := HT0.out.at_.hb
  have Hb := hid hb
  have His := hid his
  have hc : (w).cell? ⟨b, 1, none⟩ = some vs := by rw [cell_of_row _ b _ _ _ _ hb, his.c1]
  have Hown := hid (own_keptL HT0.out.at_.os (Lv.of_none (World.grownBy_alloc (w) (.cells #[.int .i64 3, .int .u32 0, .int .u32 n] 43) none) []) (by simp))
  have Hnew : Hid (∀ j u, [Value.int .i64 3, .int .u32 0, .int .u32 n][j]? = some u → ((w).alloc (.cells #[.int .i64 3, .int .u32 0, .int .u32 n] 43)).cell? ((⟨w.heap.size, 0, none⟩ : Addr).add j) = some u) := hid (by rw [show w.heap.size = (w).heap.size by simp]; exact World.news_of_block (cs := #[.int .i64 3, .int .u32 0, .int .u32 n]) (heap_alloc_new (w) _))
  clear hb his h hi hz0 hz1 hz2 hB hl
  go_enter Try.func27, Try.ntmps27
  go_wp2_with (refine wpList_append_lies _ rfl _ _ 31 rfl B 43 i _ 3 16 Try.underlying31 Hi.out Hz0.out Hz1.out Hz2.out rfl (by decide) vs sn.length (snCells sn) rfl Hown.out ⟨w.heap.size, 0, none⟩ 1 1 [.int .i64 3, .int .u32 0, .int .u32 n] rfl rfl Hnew.out (by simp [Value.oneCell']) (by decide) (by have := Hl.out; unfold maxLen; omega) (by have := Hl.out; omega) (by have := HBl.out; simp; omega) _ rfl ?_; intro g cap w' hown hgrow hat hlt; have hd' := HT0.out.at_.across HT0.out.at_.ne_s (Lv.of_none (World.grownBy_alloc (w) _ none) []) hgrow; have hc3 : w'.cell? ⟨b, 1, none⟩ = some vs := (by rw [cell_of_row w' b _ _ _ _ (hd'.trans Hb.out), His.out.c1]); have hf3 : w'.frozen? ⟨b, 1, none⟩ = false := frozen_of_row w' b _ _ _ (hd'.trans Hb.out); have HT := hid (HT0.out.trans (HT0.out.at_.showed (cap := cap) (Lv.of_none (World.grownBy_alloc (w) _ none) []) hgrow (3, 0, n) hown hat rfl)); clear hown hgrow hat hlt hd')
  go_end0
  exact ⟨rfl, _, HT.out⟩
set_option maxHeartbeats 1000000 in
theorem rend4_any (h : RAt w B b Q S sn on T vw vs) (n : Int) (hl : sn.length ≤ 1000000) (hB : B ≤ w.heap.size) :
    Calls Try.prog 27 #[.pointer (some ⟨b, 0, none⟩), .int .i64 4, .int .u32 n] w (RShown w B b vw vs Q S (sn ++ [(4, n, 0)]) on T) := by
  obtain ⟨i, hi, hz0, hz1, hz2⟩ := seen_info
  have Hi := hid hi
  have Hz0 := hid hz0
  have Hz1 := hid hz1
  have Hz2 := hid hz2
  have HBl := hid hB
  have Hl := hid hl
  have HT0 := hid (RTurned.none h (grown_refl w none))
  obtain ⟨cur, hb, his⟩ := HT0.out.at_.hb
  have Hb := hid hb
  have His := hid his
  have hc : (w).cell? ⟨b, 1, none⟩ = some vs := by rw [cell_of_row _ b _ _ _ _ hb, his.c1]
  have Hown := hid (own_keptL HT0.out.at_.os (Lv.of_none (World.grownBy_alloc (w) (.cells #[.int .i64 4, .int .u32 n, .int .u32 0] 43) none) []) (by simp))
  have Hnew : Hid (∀ j u, [Value.int .i64 4, .int .u32 n, .int .u32 0][j]? = some u → ((w).alloc (.cells #[.int .i64 4, .int .u32 n, .int .u32 0] 43)).cell? ((⟨w.heap.size, 0, none⟩ : Addr).add j) = some u) := hid (by rw [show w.heap.size = (w).heap.size by simp]; exact World.news_of_block (cs := #[.int .i64 4, .int .u32 n, .int .u32 0]) (heap_alloc_new (w) _))
  clear hb his h hi hz0 hz1 hz2 hB hl
  go_enter Try.func27, Try.ntmps27
  go_wp2_with (refine wpList_append_lies _ rfl _ _ 31 rfl B 43 i _ 3 16 Try.underlying31 Hi.out Hz0.out Hz1.out Hz2.out rfl (by decide) vs sn.length (snCells sn) rfl Hown.out ⟨w.heap.size, 0, none⟩ 1 1 [.int .i64 4, .int .u32 n, .int .u32 0] rfl rfl Hnew.out (by simp [Value.oneCell']) (by decide) (by have := Hl.out; unfold maxLen; omega) (by have := Hl.out; omega) (by have := HBl.out; simp; omega) _ rfl ?_; intro g cap w' hown hgrow hat hlt; have hd' := HT0.out.at_.across HT0.out.at_.ne_s (Lv.of_none (World.grownBy_alloc (w) _ none) []) hgrow; have hc3 : w'.cell? ⟨b, 1, none⟩ = some vs := (by rw [cell_of_row w' b _ _ _ _ (hd'.trans Hb.out), His.out.c1]); have hf3 : w'.frozen? ⟨b, 1, none⟩ = false := frozen_of_row w' b _ _ _ (hd'.trans Hb.out); have HT := hid (HT0.out.trans (HT0.out.at_.showed (cap := cap) (Lv.of_none (World.grownBy_alloc (w) _ none) []) hgrow (4, n, 0) hown hat rfl)); clear hown hgrow hat hlt hd')
  go_end0
  exact ⟨rfl, _, HT.out⟩
theorem rend_no (h : RAt w B b Q S sn on T vw vs) (k n : Int) (h3 : k ≠ 3) (h4 : k ≠ 4) :
    Calls Try.prog 27 #[.pointer (some ⟨b, 0, none⟩), .int .i64 k, .int .u32 n] w fun e w' => e = .returned (.tuple #[]) ∧ w = w' := by
  have hz3 : (k == 3) = false := by simpa using h3
  have hz4 : (k == 4) = false := by simpa using h4
  go_enter Try.func27, Try.ntmps27
  go_wp2
  go_end0
  exact ⟨rfl, rfl⟩
theorem rend_any (h : RAt w B b Q S sn on T vw vs) (k n : Int) (hl : sn.length ≤ 1000000) (hB : B ≤ w.heap.size) :
    Calls Try.prog 27 #[.pointer (some ⟨b, 0, none⟩), .int .i64 k, .int .u32 n] w (RShown w B b vw vs Q S (sn ++ endS k n) on T) := by
  by_cases h3 : k = 3
  · subst h3; exact rend3_any h n hl hB
  · by_cases h4 : k = 4
    · subst h4; exact rend4_any h n hl hB
    · have he : endS k n = [] := by simp [endS, h3, h4]
      refine (rend_no h k n h3 h4).mono ?_
      rintro e w' ⟨rfl, rfl⟩
      refine ⟨rfl, vs, ?_⟩
      rw [he, List.append_nil]
      exact RTurned.none h (grown_refl w none)
end
end Go.Proofs.Ytiglmdilooaeeaa
