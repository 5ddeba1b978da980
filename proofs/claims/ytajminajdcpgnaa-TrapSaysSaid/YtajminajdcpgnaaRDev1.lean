/- The document's own devices (facaderef1.Dev): contracts. -/
import Derived.Test.YtajminajdcpgnaaRDev0
namespace Go.Proofs.Ytajminajdcpgnaa
open Go.RowKit
theorem u32_info : ∃ i, Try.prog.info? 22 = some i ∧ i.zero = some (.int .u32 0) ∧ i.size = 1 ∧ i.bytes = 4 := by
  obtain ⟨i, hi, hz0, hz1, hz2⟩ := info_parts (P := Try.prog) (e := 22) (z := .int .u32 0) (size := 1) (bytes := 4) (by kernel_rfl)
  exact ⟨i, hi, hz0, hz1, hz2⟩
/-! ### a copy of words -/
def WordsOwn (w : World) (ls : List Int) (e : Ending) (w' : World) : Prop := ∃ v, e = .returned v ∧ w'.ownsRow w.heap.size 22 1 v ls.length (ls.map (Value.int .u32)) ∧ w.grownBy w' none
structure WORel (w : World) (ls : List Int) (v : Value) (k : Nat) (wr : World) : Prop where
  own : wr.ownsRow w.heap.size 22 1 v k ((ls.take k).map (Value.int .u32))
  grown : w.grownBy wr none
/-! ### the calls -/
section
variable {w : World} {B b : Nat} {Q S : List Int} {sn : List Sn} {on : Bool} {T : Int} {vw vs : Value}
theorem rpress_no (h : RDAt w B b Q S sn on T vw vs) (hq : Q.length = 64) (key : Int) :
    Calls Try.prog 10 #[.pointer (some ⟨b, 0, none⟩), .int .u32 key] w fun e w' => e = .returned (.bool false) ∧ w = w' := by
  obtain ⟨cur, hb, hi⟩ := h.hb
  obtain ⟨p, c, rfl⟩ := h.q
  have hc : w.cell? ⟨b, 0, none⟩ = some (.slice p 64 c) := by rw [cell_of_row w b _ _ _ _ hb, hi.c0, hq]
  clear hb hi h
  go_enter Try.func10, Try.ntmps10
  go_wp2
  go_ret
  exact ⟨rfl, rfl⟩
/-- behind a call that writes what waits -/
def Waited (w : World) (B b : Nat) (vw vs : Value) (Q S : List Int) (sn : List Sn) (on : Bool) (T : Int) (v : Value) (e : Ending) (w' : World) : Prop :=
  e = .returned v ∧ ∃ vw', RTurned w B b vw vs Q S sn on T w' vw' vs
/-- behind a call that writes what is seen -/
def RShown (w : World) (B b : Nat) (vw vs : Value) (Q S : List Int) (sn : List Sn) (on : Bool) (T : Int) (e : Ending) (w' : World) : Prop :=
  e = .returned (.tuple #[]) ∧ ∃ vs', RTurned w B b vw vs Q S sn on T w' vw vs'
set_option maxHeartbeats 1000000 in
theorem rpress_yes (h : RDAt w B b Q S sn on T vw vs) (hq : Q.length < 64) (key : Int) (hB : B ≤ w.heap.size) :
    Calls Try.prog 10 #[.pointer (some ⟨b, 0, none⟩), .int .u32 key] w (Waited w B b vw vs (Q ++ [key]) S sn on T (.bool true)) := by
  obtain ⟨i, hi, hz0, hz1, hz2⟩ := u32_info
  obtain ⟨cur, hb, his⟩ := h.hb
  obtain ⟨p, c, rfl⟩ := h.q
  obtain ⟨n, hn⟩ : ∃ n, Q.length = n := ⟨_, rfl⟩
  rw [hn] at h hq his ⊢
  have hq2 : ¬ (64 : Int) ≤ (n : Int) := by omega
  have Hb := hid hb
  have His := hid his
  have H := hid h
  have Hi := hid hi
  have Hz0 := hid hz0
  have Hz1 := hid hz1
  have Hz2 := hid hz2
  have Hn := hid hn
  have hc : w.cell? ⟨b, 0, none⟩ = some (.slice p n c) := by rw [cell_of_row w b _ _ _ _ hb, his.c0]
  have HBl := hid hB
  have Hq := hid hq
  have Hnew := hid (one_at w (.int .u32 key) 22)
  have Hown : Hid ((w.alloc (.cells #[.int .u32 key] 22)).ownsRow B 22 1 (.slice p n c) n (Q.map (Value.int .u32))) := hid (by
    have := own_keptL H.out.ow (Lv.of_none (World.grownBy_alloc w (.cells #[.int .u32 key] 22) none) []) (by simp)
    rwa [hn] at this)
  clear hb his h hi hz0 hz1 hz2 hB hq hn
  go_enter Try.func10, Try.ntmps10
  go_wp2_with (refine wpList_append_lies _ rfl _ _ 27 rfl B 22 i _ 1 4 Try.underlying27 Hi.out Hz0.out Hz1.out Hz2.out rfl (by decide) (.slice p n c) n (Q.map (Value.int .u32)) rfl Hown.out ⟨w.heap.size, 0, none⟩ 1 1 [.int .u32 key] rfl rfl Hnew.out (by simp [Value.oneCell']) (by decide) (by have := Hq.out; unfold maxLen; omega) (by have := Hq.out; omega) (by have := HBl.out; simp; omega) _ rfl ?_; intro g cap w' hown hgrow hat hlt; have hd' := H.out.across H.out.ne_w (Lv.of_none (World.grownBy_alloc w _ none) []) hgrow; have hc3 : w'.cell? ⟨b, 0, none⟩ = some (.slice p n c) := (by rw [cell_of_row w' b _ _ _ _ (hd'.trans Hb.out), His.out.c0]); have hf3 : w'.frozen? ⟨b, 0, none⟩ = false := frozen_of_row w' b _ _ _ (hd'.trans Hb.out); have HT := hid (H.out.keyed (cap := cap) (Lv.of_none (World.grownBy_alloc w _ none) []) hgrow key (by rw [Hn.out]; exact hown) hat rfl); rw [Hn.out] at HT; clear hown hgrow hat hlt hd')
  go_ret
  exact ⟨rfl, _, HT.out⟩
/-- what waits was copied, and laid into its field -/
theorem RDAt.waited (h : RDAt w B b Q S sn on T vw vs) {w3 : World} {u : Value} {r : List Int} (hg : w.grownBy w3 none) (hown : w3.ownsRow w.heap.size 22 1 u r.length (r.map (Value.int .u32))) (hB : B ≤ w.heap.size) :
    RTurned w B b vw vs r S sn on T (w3.setCell ⟨b, 0, none⟩ u) u vs := by
  obtain ⟨cur, hb, hi⟩ := h.hb
  have hb' := (hg.block b h.lt (by simp)).trans hb
  have hs : Lv w3 (w3.setCell ⟨b, 0, none⟩ u) [b] := (Lv.refl _ _).set (by simp) _ _
  refine ⟨⟨⟨_, heap_setCell_same _ _ _ _ _ _ hb', hi.wait _⟩, ?_, ?_, h.ge⟩, ?_, .inr (fun g hg' => (hown.lt g hg').1), .inl rfl⟩
  · refine own_base (own_keptL hown hs (fun g hg' e => ?_)) hB
    have := (hown.lt g hg').1
    have := h.lt
    simp at e
    omega
  · exact own_keptL (own_keptL h.os (Lv.of_none hg []) (by simp)) hs (fun k hk e => h.ne_s (by rw [hk]; simp at e; rw [e]))
  · exact ((Lv.of_none hg _).trans hs).mono (fun i hi => mem_rfoot.2 (.inl (by simpa using hi)))
theorem rdue_any (h : RDAt w B b Q S sn on T vw vs) (now : Int) (r : Bool) (hr : (on && decide (T ≤ now)) = r) :
    Calls Try.prog 22 #[.pointer (some ⟨b, 0, none⟩), .int .i64 now] w fun e w' => e = .returned (.bool r) ∧ w = w' := by
  obtain ⟨cur, hb, hi⟩ := h.hb
  have hc : w.cell? ⟨b, 18, none⟩ = some (.int .i64 T) := by rw [cell_of_row w b _ _ _ _ hb, hi.ct]
  have hc2 : w.cell? ⟨b, 19, none⟩ = some (.bool on) := by rw [cell_of_row w b _ _ _ _ hb, hi.con]
  clear hb hi h
  subst hr
  cases on
  · go_enter Try.func22, Try.ntmps22
    go_wp2
    go_ret
    exact ⟨rfl, rfl⟩
  · go_enter Try.func22, Try.ntmps22
    go_wp2
    go_ret
    exact ⟨ret_b (by simp), rfl⟩
theorem rset_any (h : RDAt w B b Q S sn on T vw vs) (a n : Int) (a0 : 0 ≤ a) (a1 : a ≤ 1125899906842624) (n0 : 0 ≤ n) (n1 : n ≤ 4294967295) :
    Calls Try.prog 12 #[.pointer (some ⟨b, 0, none⟩), .int .i64 a, .int .u32 n] w fun e w' => e = .returned (.tuple #[]) ∧ RTurned w B b vw vs Q S sn (decide (0 < n)) (a + n) w' vw vs := by
  obtain ⟨cur, hb, hi⟩ := h.hb
  have Hb := hid hb
  have Hi := hid hi
  have H := hid h
  have hfz : ∀ j, w.frozen? ⟨b, j, none⟩ = false := fun j => frozen_of_row w b j _ _ hb
  have hc : w.cell? ⟨b, 18, none⟩ = some (.int .i64 T) := by rw [cell_of_row w b _ _ _ _ hb, hi.ct]
  have hc2 : w.cell? ⟨b, 19, none⟩ = some (.bool on) := by rw [cell_of_row w b _ _ _ _ hb, hi.con]
  have hx0 : -9223372036854775808 ≤ a + n := by omega
  have hx1 : a + n ≤ 9223372036854775807 := by omega
  clear hb hi h
  go_enter Try.func12, Try.ntmps12
  go_wp2
  go_end0
  have hg : Lv w ((w.setCell ⟨b, 19, none⟩ (.bool (decide (0 < n)))).setCell ⟨b, 18, none⟩ (.int .i64 (a + n))) [b] := ((Lv.refl w [b]).set (by simp) _ _).set (by simp) _ _
  exact ⟨rfl, H.out.re hg (heap_setCell_same _ _ _ _ _ _ (heap_setCell_same _ _ _ _ _ _ Hb.out)) ((Hi.out.onoff _).time _)⟩
/-- it is told that the timer was heard -/
theorem RDAt.off (h : RDAt w B b Q S sn on T vw vs) : RTurned w B b vw vs Q S sn false T (w.setCell ⟨b, 19, none⟩ (.bool false)) vw vs := by
  obtain ⟨cur, hb, hi⟩ := h.hb
  exact h.re ((Lv.refl w [b]).set (by simp) _ _) (heap_setCell_same _ _ _ _ _ _ hb) (hi.onoff _)
end
end Go.Proofs.Ytajminajdcpgnaa
