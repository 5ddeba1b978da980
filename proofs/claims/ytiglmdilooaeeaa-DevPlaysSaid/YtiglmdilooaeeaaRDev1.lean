/- The document's own devices (facaderef1.Dev): contracts. -/
import Derived.Test.YtiglmdilooaeeaaRDev0
namespace Go.Proofs.Ytiglmdilooaeeaa
open Go.RowKit
theorem u32_info : ∃ i, Try.prog.info? 23 = some i ∧ i.zero = some (.int .u32 0) ∧ i.size = 1 ∧ i.bytes = 4 := by
  obtain ⟨i, hi, hz0, hz1, hz2⟩ := info_parts (P := Try.prog) (e := 23) (z := .int .u32 0) (size := 1) (bytes := 4) (by kernel_rfl)
  exact ⟨i, hi, hz0, hz1, hz2⟩
/-! ### a copy of words -/
def WordsOwn (w : World) (ls : List Int) (e : Ending) (w' : World) : Prop := ∃ v, e = .returned v ∧ w'.ownsRow w.heap.size 23 1 v ls.length (ls.map (Value.int .u32)) ∧ w.grownBy w' none
structure WRel (w : World) (ls : List Int) (v : Value) (k : Nat) (wr : World) : Prop where
  own : wr.ownsRow w.heap.size 23 1 v k ((ls.take k).map (Value.int .u32))
  grown : w.grownBy wr none
set_option maxHeartbeats 1000000 in
theorem words_own {w : World} {v : Value} {ls : List Int} (h : SlAt w .u32 v ls) (hN : ls.length ≤ 1048576) :
    Calls Try.prog 36 #[v] w (WordsOwn w ls) := by
  obtain ⟨i, hi, hz0, hz1, hz2⟩ := u32_info
  obtain ⟨N, hl⟩ : ∃ N, ls.length = N := ⟨_, rfl⟩
  obtain ⟨p, c, rfl⟩ : ∃ p c, v = .slice p N c := by
    rcases h with ⟨⟨p, c, rfl⟩, rfl⟩ | ⟨b, o, c, rfl, _⟩
    · exact ⟨p, c, by rw [← hl]; rfl⟩
    · exact ⟨_, c, by rw [hl]⟩
  rw [hl] at hN
  have hmk : ∃ C, Hid (C.size = N * 1) ∧ (Instr.makeSlice 22 (.int .i64 0) (.int .i64 N)).run Try.prog w = .ok (.slice (some ⟨w.heap.size, 0, none⟩) 0 N) (w.alloc (.cells C 23)) := by
    have := run_make (P := Try.prog) w 22 23 i _ Try.underlying22 hi hz0 .i64 .i64 0 N (by omega) (by omega) (by rw [hz2]; omega) (by omega)
    rw [hz1] at this
    simp only [Int.toNat_natCast, Int.toNat_zero] at this
    exact ⟨_, hid (size_madeCells _ _), this⟩
  obtain ⟨C, HC, hmk⟩ := hmk
  have Hi := hid hi
  have Hz0 := hid hz0
  have Hz1 := hid hz1
  have Hz2 := hid hz2
  have HS := hid h
  have Hl := hid hl
  clear hi hz0 hz1 hz2 h hl
  go_enter Try.func36, Try.ntmps36
  go_wp2
  go_loopw [3, 4] (fun v i wr => ∃ k : Nat, k ≤ N ∧ i = .int .i64 k ∧ Hid (WRel w ls v k wr)) (fun _ i _ => N - (intOf i).toNat)
  case atStart => exact ⟨0, Nat.zero_le _, rfl, hid ⟨by simpa using World.ownsRow_made w C N (Nat.le_refl _) (by unfold maxLen; omega) HC.out, World.grownBy_alloc _ _ _⟩⟩
  case round =>
    obtain ⟨k, hk, rfl, HR⟩ := hrel
    by_cases hlt : k < N
    · rcases HS.out with ⟨_, h0⟩ | ⟨b, o, c', he, hb, hc⟩
      · have := Hl.out; rw [h0] at this; simp at this; omega
      · have hp : p = some ⟨b, o, none⟩ := by injection he
        obtain ⟨x, Hx⟩ : ∃ x, Hid (ls[k]? = some x) := ⟨_, hid (List.getElem?_eq_getElem (by rw [Hl.out]; exact hlt))⟩
        have hcx := (grown_cell (p := ⟨b, o + k, none⟩) HR.out.grown hb (by simp)).trans (hc k x Hx.out)
        have hk0 : (0 : Int) ≤ (k : Int) := by omega
        have hk1 : (k : Int) < (N : Int) := by omega
        have Hown := hid (own_keptL HR.out.own (Lv.of_none (World.grownBy_alloc wr (.cells #[.int .u32 x] 23) none) []) (by simp))
        have Hnew := hid (one_at wr (.int .u32 x) 23)
        have H63 : Hid (k + 1 ≤ maxLen) := hid (by unfold maxLen; omega)
        have Hby : Hid ((k + 1) * 4 ≤ 140737488355328) := hid (by omega)
        have Hba : Hid (w.heap.size ≤ (wr.alloc (.cells #[.int .u32 x] 23)).heap.size) := hid (by have := HR.out.grown.size; simp; omega)
        clear he hc
        subst hp
        go_wp2_with (refine wpList_append_own _ rfl _ _ 22 rfl w.heap.size 23 i _ 1 4 Try.underlying22 Hi.out Hz0.out Hz1.out Hz2.out rfl (by decide) _ _ _ rfl Hown.out ⟨wr.heap.size, 0, none⟩ 1 1 [.int .u32 x] rfl rfl Hnew.out (by simp [Value.oneCell']) H63.out Hby.out Hba.out ?_; intro v' w2 hown2 hgrow2 _; have HO := hid hown2; have HG := hid hgrow2; clear hown2 hgrow2)
        go_roundw
        case rel =>
          refine ⟨k + 1, by omega, by go_num, hid ⟨?_, ?_⟩⟩
          · rw [List.take_add_one, Hx.out, List.map_append]; exact HO.out
          · exact grown_new' (grown_trans (grown_none (grown_alloc HR.out.grown _)) HG.out) (fun g hg => (HR.out.own.lt g hg).1)
        case measure => simp [intOf]; omega
    · have hge : (N : Int) ≤ (k : Int) := by omega
      go_wp2
      go_ret
      obtain rfl : k = N := by omega
      have := HR.out.own
      rw [List.take_of_length_le (by rw [Hl.out]; omega)] at this
      exact ⟨_, rfl, by rw [Hl.out]; exact this, HR.out.grown⟩
/-! ### the calls -/
section
variable {w : World} {B b : Nat} {Q S : List Int} {sn : List Sn} {on : Bool} {T : Int} {vw vs : Value}
theorem rpress_no (h : RAt w B b Q S sn on T vw vs) (hq : Q.length = 64) (key : Int) :
    Calls Try.prog 21 #[.pointer (some ⟨b, 0, none⟩), .int .u32 key] w fun e w' => e = .returned (.bool false) ∧ w = w' := by
  obtain ⟨cur, hb, hi⟩ := h.hb
  obtain ⟨p, c, rfl⟩ := h.q
  have hc : w.cell? ⟨b, 0, none⟩ = some (.slice p 64 c) := by rw [cell_of_row w b _ _ _ _ hb, hi.c0, hq]
  clear hb hi h
  go_enter Try.func21, Try.ntmps21
  go_wp2
  go_ret
  exact ⟨rfl, rfl⟩
/-- behind a call that writes what waits -/
def Waited (w : World) (B b : Nat) (vw vs : Value) (Q S : List Int) (sn : List Sn) (on : Bool) (T : Int) (v : Value) (e : Ending) (w' : World) : Prop :=
  e = .returned v ∧ ∃ vw', RTurned w B b vw vs Q S sn on T w' vw' vs
/-- behind a call that writes what is seen -/
def RShown (w : World) (B b : Nat) (vw vs : Value) (Q S : List Int) (sn : List Sn) (on : Bool) (T : Int) (e : Ending) (w' : World) : Prop :=
  e = .returned (.tuple #[]) ∧ ∃ vs', RTurned w B b vw vs Q S sn on T w' vw vs'
set_option maxHeartbeats 1000000 in
theorem rpress_yes (h : RAt w B b Q S sn on T vw vs) (hq : Q.length < 64) (key : Int) (hB : B ≤ w.heap.size) :
    Calls Try.prog 21 #[.pointer (some ⟨b, 0, none⟩), .int .u32 key] w (Waited w B b vw vs (Q ++ [key]) S sn on T (.bool true)) := by
  obtain ⟨i, hi, hz0, hz1, hz2⟩ := u32_info
  obtain ⟨cur, hb, his⟩ := h.hb
  obtain ⟨p, c, rfl⟩ := h.q
  obtain ⟨n, hn⟩ : ∃ n, Q.length = n := ⟨_, rfl⟩
  rw [hn] at h hq his ⊢
  have hq2 : ¬ (64 : Int) ≤ (n : Int) := by omega
  have Hb := hid hb
  have His := hid his
  have H := hid h
  have Hi := hid hi
  have Hz0 := hid hz0
  have Hz1 := hid hz1
  have Hz2 := hid hz2
  have Hn := hid hn
  have hc : w.cell? ⟨b, 0, none⟩ = some (.slice p n c) := by rw [cell_of_row w b _ _ _ _ hb, his.c0]
  have HBl := hid hB
  have Hq := hid hq
  have Hnew := hid (one_at w (.int .u32 key) 23)
  have Hown : Hid ((w.alloc (.cells #[.int .u32 key] 23)).ownsRow B 23 1 (.slice p n c) n (Q.map (Value.int .u32))) := hid (by
    have := own_keptL H.out.ow (Lv.of_none (World.grownBy_alloc w (.cells #[.int .u32 key] 23) none) []) (by simp)
    rwa [hn] at this)
  clear hb his h hi hz0 hz1 hz2 hB hq hn
  go_enter Try.func21, Try.ntmps21
  go_wp2_with (refine wpList_append_lies _ rfl _ _ 22 rfl B 23 i _ 1 4 Try.underlying22 Hi.out Hz0.out Hz1.out Hz2.out rfl (by decide) (.slice p n c) n (Q.map (Value.int .u32)) rfl Hown.out ⟨w.heap.size, 0, none⟩ 1 1 [.int .u32 key] rfl rfl Hnew.out (by simp [Value.oneCell']) (by decide) (by have := Hq.out; unfold maxLen; omega) (by have := Hq.out; omega) (by have := HBl.out; simp; omega) _ rfl ?_; intro g cap w' hown hgrow hat hlt; have hd' := H.out.across H.out.ne_w (Lv.of_none (World.grownBy_alloc w _ none) []) hgrow; have hc3 : w'.cell? ⟨b, 0, none⟩ = some (.slice p n c) := (by rw [cell_of_row w' b _ _ _ _ (hd'.trans Hb.out), His.out.c0]); have hf3 : w'.frozen? ⟨b, 0, none⟩ = false := frozen_of_row w' b _ _ _ (hd'.trans Hb.out); have HT := hid (H.out.keyed (cap := cap) (Lv.of_none (World.grownBy_alloc w _ none) []) hgrow key (by rw [Hn.out]; exact hown) hat rfl); rw [Hn.out] at HT; clear hown hgrow hat hlt hd')
  go_ret
  exact ⟨rfl, _, HT.out⟩
theorem rin_no (h : RAt w B b Q S sn on T vw vs) (hq : Q = []) :
    Calls Try.prog 22 #[.pointer (some ⟨b, 0, none⟩)] w fun e w' => e = .returned (.int .u32 0) ∧ w = w' := by
  obtain ⟨cur, hb, hi⟩ := h.hb
  obtain ⟨p, c, rfl⟩ := h.q
  subst hq
  have hc : w.cell? ⟨b, 0, none⟩ = some (.slice p 0 c) := by rw [cell_of_row w b _ _ _ _ hb, hi.c0]; rfl
  clear hb hi h
  go_enter Try.func22, Try.ntmps22
  go_wp2
  go_ret
  exact ⟨rfl, rfl⟩
/-- what waits was copied, and laid into its field -/
theorem RAt.waited (h : RAt w B b Q S sn on T vw vs) {w3 : World} {u : Value} {r : List Int} (hg : w.grownBy w3 none) (hown : w3.ownsRow w.heap.size 23 1 u r.length (r.map (Value.int .u32))) (hB : B ≤ w.heap.size) :
    RTurned w B b vw vs r S sn on T (w3.setCell ⟨b, 0, none⟩ u) u vs := by
  obtain ⟨cur, hb, hi⟩ := h.hb
  have hb' := (hg.block b h.lt (by simp)).trans hb
  have hs : Lv w3 (w3.setCell ⟨b, 0, none⟩ u) [b] := (Lv.refl _ _).set (by simp) _ _
  refine ⟨⟨⟨_, heap_setCell_same _ _ _ _ _ _ hb', hi.wait _⟩, ?_, ?_, h.ge⟩, ?_, .inr (fun g hg' => (hown.lt g hg').1), .inl rfl⟩
  · refine own_base (own_keptL hown hs (fun g hg' e => ?_)) hB
    have := (hown.lt g hg').1
    have := h.lt
    simp at e
    omega
  · exact own_keptL (own_keptL h.os (Lv.of_none hg []) (by simp)) hs (fun k hk e => h.ne_s (by rw [hk]; simp at e; rw [e]))
  · exact ((Lv.of_none hg _).trans hs).mono (fun i hi => mem_rfoot.2 (.inl (by simpa using hi)))
set_option maxHeartbeats 1000000 in
theorem rin_yes (h : RAt w B b Q S sn on T vw vs) {key : Int} {r : List Int} (hq : Q = key :: r) (hl : Q.length ≤ 64) (hB : B ≤ w.heap.size) :
    Calls Try.prog 22 #[.pointer (some ⟨b, 0, none⟩)] w (Waited w B b vw vs r S sn on T (.int .u32 key)) := by
  obtain ⟨cur, hb, his⟩ := h.hb
  obtain ⟨n, hn⟩ : ∃ n, r.length = n := ⟨_, rfl⟩
  obtain ⟨M, hM⟩ : ∃ M, n + 1 = M := ⟨_, rfl⟩
  have hQl : Q.length = M := by rw [hq]; simp [hn, hM]
  rcases h.ow.2 with ⟨_, h0⟩ | ⟨g, c, cu, hv, hgB, hg, hgc, _, hgs, hgt⟩
  · omega
  · rw [hQl] at hv hgc
    subst hv
    have Hb := hid hb
    have His := hid his
    have H := hid h
    have hc : w.cell? ⟨b, 0, none⟩ = some (.slice (some ⟨g, 0, none⟩) M c) := by rw [cell_of_row w b _ _ _ _ hb, his.c0]
    have hcells : ∀ j y, Q[j]? = some y → w.cell? ⟨g, j, none⟩ = some (.int .u32 y) := fun j y hy => by
      have := h.ow.cells (g := g) rfl j (.int .u32 y) (by rw [List.getElem?_map, hy]; rfl)
      rwa [Addr.add_mid, Nat.zero_add] at this
    have hk : w.cell? ⟨g, 0, none⟩ = some (.int .u32 key) := hcells 0 key (by rw [hq]; rfl)
    have hglt : g < w.heap.size := (Array.getElem?_eq_some_iff.1 hg).1
    have hne : ((M : Int) == 0) = false := by simp; omega
    have m0 : (0 : Int) < (M : Int) := by omega
    have m1 : (1 : Int) ≤ (M : Int) := by omega
    have m2 : (M : Int) ≤ (c : Int) := by omega
    have m3 : (M : Int) - 1 = (n : Int) := by omega
    have m4 : M - 1 = n := by omega
    have Hsl : Hid (∀ a cc, (a = some ⟨g, 1, none⟩ ∨ n = 0) → SlAt w .u32 (.slice a n cc) r) := hid (fun a cc ha => by
      by_cases h0 : n = 0
      · obtain rfl := List.eq_nil_of_length_eq_zero (hn.trans h0)
        exact .inl ⟨⟨a, cc, by rw [h0]⟩, rfl⟩
      · obtain rfl : a = some ⟨g, 1, none⟩ := ha.resolve_right h0
        refine .inr ⟨g, 1, cc, by rw [hn], hglt, fun j y hy => ?_⟩
        rw [Nat.add_comm 1 j]
        exact hcells (j + 1) y (by rw [hq]; simpa using hy))
    have Hn := hid hn
    have Hl : Hid (n ≤ 64) := hid (by omega)
    have HM := hid hM
    clear hb his h hg hgs hgt hcells hq hl hn hM hQl
    have HB := hid hB
    clear hB
    by_cases hc1 : c = 1
    · subst hc1
      have Hn0 : Hid (n = 0) := hid (by have := HM.out; omega)
      go_enter Try.func22, Try.ntmps22
      go_wp2_with fail
      refine (words_own (Hsl.out _ _ (.inr Hn0.out)) (by have := Hn.out; have := Hl.out; omega)).mono ?_; rintro e w3 ⟨u, rfl, hown, hg⟩
      obtain ⟨pu, cu', rfl⟩ := own_form hown
      have hb3 := (hg.block b H.out.lt (by simp)).trans Hb.out
      have hc3 : w3.cell? ⟨b, 0, none⟩ = some (.slice (some ⟨g, 0, none⟩) M 1) := by rw [cell_of_row w3 b _ _ _ _ hb3, His.out.c0]
      have hf3 : w3.frozen? ⟨b, 0, none⟩ = false := frozen_of_row w3 b _ _ _ hb3
      have HT := hid (H.out.waited hg hown HB.out)
      clear hown hg hb3
      go_wp2
      go_ret
      exact ⟨rfl, _, HT.out⟩
    · have hc2 := hc1
      go_enter Try.func22, Try.ntmps22
      go_wp2_with fail
      refine (words_own (Hsl.out _ _ (.inl rfl)) (by have := Hn.out; have := Hl.out; omega)).mono ?_; rintro e w3 ⟨u, rfl, hown, hg⟩
      obtain ⟨pu, cu', rfl⟩ := own_form hown
      have hb3 := (hg.block b H.out.lt (by simp)).trans Hb.out
      have hc3 : w3.cell? ⟨b, 0, none⟩ = some (.slice (some ⟨g, 0, none⟩) M c) := by rw [cell_of_row w3 b _ _ _ _ hb3, His.out.c0]
      have hf3 : w3.frozen? ⟨b, 0, none⟩ = false := frozen_of_row w3 b _ _ _ hb3
      have HT := hid (H.out.waited hg hown HB.out)
      clear hown hg hb3
      go_wp2
      go_ret
      exact ⟨rfl, _, HT.out⟩
theorem rget_any (h : RAt w B b Q S sn on T vw vs) (s : Int) (h0 : 0 ≤ s) (k : Nat) (hk : s % 16 = (k : Int)) (y : Int) (hy : S[k]? = some y) :
    Calls Try.prog 28 #[.pointer (some ⟨b, 0, none⟩), .int .u32 s] w fun e w' => e = .returned (.int .u32 y) ∧ w = w' := by
  obtain ⟨cur, hb, hi⟩ := h.hb
  have hc : w.cell? ⟨b, 2 + k, none⟩ = some (.int .u32 y) := by rw [cell_of_row w b _ _ _ _ hb, hi.sec k y hy]
  have hk0 : (0 : Int) ≤ (k : Int) := by omega
  have hk1 : (k : Int) < 16 := by omega
  clear hb hi h
  go_enter Try.func28, Try.ntmps28
  go_wp2
  go_ret
  exact ⟨rfl, rfl⟩
theorem rdue_any (h : RAt w B b Q S sn on T vw vs) (now : Int) (r : Bool) (hr : (on && decide (T ≤ now)) = r) :
    Calls Try.prog 29 #[.pointer (some ⟨b, 0, none⟩), .int .i64 now] w fun e w' => e = .returned (.bool r) ∧ w = w' := by
  obtain ⟨cur, hb, hi⟩ := h.hb
  have hc : w.cell? ⟨b, 18, none⟩ = some (.int .i64 T) := by rw [cell_of_row w b _ _ _ _ hb, hi.ct]
  have hc2 : w.cell? ⟨b, 19, none⟩ = some (.bool on) := by rw [cell_of_row w b _ _ _ _ hb, hi.con]
  clear hb hi h
  subst hr
  cases on
  · go_enter Try.func29, Try.ntmps29
    go_wp2
    go_ret
    exact ⟨rfl, rfl⟩
  · go_enter Try.func29, Try.ntmps29
    go_wp2
    go_ret
    exact ⟨ret_b (by simp), rfl⟩
theorem rset_any (h : RAt w B b Q S sn on T vw vs) (a n : Int) (a0 : 0 ≤ a) (a1 : a ≤ 1125899906842624) (n0 : 0 ≤ n) (n1 : n ≤ 4294967295) :
    Calls Try.prog 25 #[.pointer (some ⟨b, 0, none⟩), .int .i64 a, .int .u32 n] w fun e w' => e = .returned (.tuple #[]) ∧ RTurned w B b vw vs Q S sn (decide (0 < n)) (a + n) w' vw vs := by
  obtain ⟨cur, hb, hi⟩ := h.hb
  have Hb := hid hb
  have Hi := hid hi
  have H := hid h
  have hfz : ∀ j, w.frozen? ⟨b, j, none⟩ = false := fun j => frozen_of_row w b j _ _ hb
  have hc : w.cell? ⟨b, 18, none⟩ = some (.int .i64 T) := by rw [cell_of_row w b _ _ _ _ hb, hi.ct]
  have hc2 : w.cell? ⟨b, 19, none⟩ = some (.bool on) := by rw [cell_of_row w b _ _ _ _ hb, hi.con]
  have hx0 : -9223372036854775808 ≤ a + n := by omega
  have hx1 : a + n ≤ 9223372036854775807 := by omega
  clear hb hi h
  go_enter Try.func25, Try.ntmps25
  go_wp2
  go_end0
  have hg : Lv w ((w.setCell ⟨b, 19, none⟩ (.bool (decide (0 < n)))).setCell ⟨b, 18, none⟩ (.int .i64 (a + n))) [b] := ((Lv.refl w [b]).set (by simp) _ _).set (by simp) _ _
  exact ⟨rfl, H.out.re hg (heap_setCell_same _ _ _ _ _ _ (heap_setCell_same _ _ _ _ _ _ Hb.out)) ((Hi.out.onoff _).time _)⟩
/-- it is told that the timer was heard -/
theorem RAt.off (h : RAt w B b Q S sn on T vw vs) : RTurned w B b vw vs Q S sn false T (w.setCell ⟨b, 19, none⟩ (.bool false)) vw vs := by
  obtain ⟨cur, hb, hi⟩ := h.hb
  exact h.re ((Lv.refl w [b]).set (by simp) _ _) (heap_setCell_same _ _ _ _ _ _ hb) (hi.onoff _)
set_option maxHeartbeats 1000000 in
theorem rout_any (h : RAt w B b Q S sn on T vw vs) (n : Int) (hl : sn.length ≤ 1000000) (hB : B ≤ w.heap.size) :
    Calls Try.prog 23 #[.pointer (some ⟨b, 0, none⟩), .int .u32 n] w (RShown w B b vw vs Q S (sn ++ [(1, 0, n)]) on T) := by
  obtain ⟨i, hi, hz0, hz1, hz2⟩ := seen_info
  obtain ⟨cur, hb, his⟩ := h.hb
  have Hb := hid hb
  have His := hid his
  have H := hid h
  have Hi := hid hi
  have Hz0 := hid hz0
  have Hz1 := hid hz1
  have Hz2 := hid hz2
  have hc : w.cell? ⟨b, 1, none⟩ = some vs := by rw [cell_of_row w b _ _ _ _ hb, his.c1]
  have HBl := hid hB
  have Hl := hid hl
  have Hown := hid (own_keptL H.out.os (Lv.of_none (World.grownBy_alloc w (.cells #[.int .i64 1, .int .u32 0, .int .u32 n] 43) none) []) (by simp))
  have Hnew : Hid (∀ j u, [Value.int .i64 1, .int .u32 0, .int .u32 n][j]? = some u → (w.alloc (.cells #[.int .i64 1, .int .u32 0, .int .u32 n] 43)).cell? ((⟨w.heap.size, 0, none⟩ : Addr).add j) = some u) := hid (World.news_of_block (cs := #[.int .i64 1, .int .u32 0, .int .u32 n]) (heap_alloc_new w _))
  clear hb his h hi hz0 hz1 hz2 hB hl
  go_enter Try.func23, Try.ntmps23
  go_wp2_with (refine wpList_append_lies _ rfl _ _ 31 rfl B 43 i _ 3 16 Try.underlying31 Hi.out Hz0.out Hz1.out Hz2.out rfl (by decide) vs sn.length (snCells sn) rfl Hown.out ⟨w.heap.size, 0, none⟩ 1 1 [.int .i64 1, .int .u32 0, .int .u32 n] rfl rfl Hnew.out (by simp [Value.oneCell']) (by decide) (by have := Hl.out; unfold maxLen; omega) (by have := Hl.out; omega) (by have := HBl.out; simp; omega) _ rfl ?_; intro g cap w' hown hgrow hat hlt; have hd' := H.out.across H.out.ne_s (Lv.of_none (World.grownBy_alloc w _ none) []) hgrow; have hc3 : w'.cell? ⟨b, 1, none⟩ = some vs := (by rw [cell_of_row w' b _ _ _ _ (hd'.trans Hb.out), His.out.c1]); have hf3 : w'.frozen? ⟨b, 1, none⟩ = false := frozen_of_row w' b _ _ _ (hd'.trans Hb.out); have HT := hid (H.out.showed (cap := cap) (Lv.of_none (World.grownBy_alloc w _ none) []) hgrow (1, 0, n) hown hat rfl); clear hown hgrow hat hlt hd')
  go_end0
  exact ⟨rfl, _, HT.out⟩
end
end Go.Proofs.Ytiglmdilooaeeaa
