/- Where a symbol stands; whether one ahead has its name (package obj, slices): contracts. -/
import Derived.Test.YtgahbpfmiibpeaaGreatDoorZObj3
import Derived.LoopTactic
import Derived.WideShapes
namespace Go.Proofs.YtgahbpfmiibpeaaGreatDoor
open Go.RowKit
abbrev Sy.agg (s : Sy) : Value := .agg #[.string s.n, .int .i64 s.i, .int .i64 s.v, .bool s.g]
abbrev Rl.agg (r : Rl) : Value := .agg #[.int .i64 r.a, .int .i64 r.k, .int .i64 r.s, .int .i64 r.d]
/-- four cells in a row -/
structure C4 (w : World) (b o : Nat) (v0 v1 v2 v3 : Value) : Prop where
  c0 : w.cell? ⟨b, o, none⟩ = some v0
  c1 : w.cell? ⟨b, o + 1, none⟩ = some v1
  c2 : w.cell? ⟨b, o + 2, none⟩ = some v2
  c3 : w.cell? ⟨b, o + 3, none⟩ = some v3
theorem C4.kept0 {w w1 : World} {b o : Nat} {v0 v1 v2 v3 : Value} (h : C4 w b o v0 v1 v2 v3) (hg : w.grownBy w1 none) : C4 w1 b o v0 v1 v2 v3 := by
  have k : ∀ {j : Nat} {v : Value}, w.cell? ⟨b, j, none⟩ = some v → w1.cell? ⟨b, j, none⟩ = some v := fun hc => by
    rw [grown_cell hg (World.block_lt_of_cell? w _ hc) (by simp)]; exact hc
  exact ⟨k h.c0, k h.c1, k h.c2, k h.c3⟩
theorem SyAt.cells {w : World} {b o : Nat} {l : List Sy} (h : ∀ j u, (sysC l)[j]? = some u → w.cell? ⟨b, o + j, none⟩ = some u) {k : Nat} {s : Sy} (hs : l[k]? = some s) :
    C4 w b (o + k * 4) (.string s.n) (.int .i64 s.i) (.int .i64 s.v) (.bool s.g) := by
  have g := fun j hj => sysC_get l k j s hs hj
  exact ⟨h (k * 4 + 0) _ (g 0 (by omega)), h (k * 4 + 1) _ (g 1 (by omega)), h (k * 4 + 2) _ (g 2 (by omega)), h (k * 4 + 3) _ (g 3 (by omega))⟩
theorem RlAt.cells {w : World} {b o : Nat} {l : List Rl} (h : ∀ j u, (rlsC l)[j]? = some u → w.cell? ⟨b, o + j, none⟩ = some u) {k : Nat} {s : Rl} (hs : l[k]? = some s) :
    C4 w b (o + k * 4) (.int .i64 s.a) (.int .i64 s.k) (.int .i64 s.s) (.int .i64 s.d) := by
  have g := fun j hj => rlsC_get l k j s hs hj
  exact ⟨h (k * 4 + 0) _ (g 0 (by omega)), h (k * 4 + 1) _ (g 1 (by omega)), h (k * 4 + 2) _ (g 2 (by omega)), h (k * 4 + 3) _ (g 3 (by omega))⟩
theorem toList_iff {x y : ByteArray} : x.toList = y.toList ↔ x = y := ⟨fun e => WideShapes.bytes_inj (by rw [← ByteArray.toList_eq, ← ByteArray.toList_eq]; exact e), fun e => by rw [e]⟩
section
variable {w : World}
theorem named_any (s : Sy) (B : Nat) (n : ByteArray) (hB : w.cell? ⟨B, 0, none⟩ = some (.string n)) (t : Bool) (ht : decide (s.n = n) = t) :
    Calls Tryz.prog 104 #[s.agg, .pointer (some ⟨B, 0, none⟩)] w fun e w' => e = .returned (.bool t) ∧ w.grownBy w' none := by
  have hlt := World.block_lt_of_cell? w _ hB
  have Ht := hid ht
  have HG := hid (World.grownBy_alloc w (.cells #[.string s.n, .int .i64 s.i, .int .i64 s.v, .bool s.g] 88) none)
  clear ht
  go_enter Tryz.func104, Tryz.ntmps104
  go_wp2
  go_ret
  exact ⟨ret_b (by rw [← Ht.out]; rw [Bool.eq_iff_iff]; simp [toList_iff]), HG.out⟩
set_option maxHeartbeats 1000000 in
theorem index_any {v : Value} {l : List Sy} (h : SyAt w v l) (hl : l.length ≤ maxLen) (B : Nat) (n : ByteArray) (hB : w.cell? ⟨B, 0, none⟩ = some (.string n)) (z : Bool) (hz : l.any (fun s => decide (s.n = n)) = z) :
    Calls Tryz.prog 135 #[v, .func (.func 104) #[] #[.pointer (some ⟨B, 0, none⟩)]] w fun e w' => (∃ r : Int, e = .returned (.int .i64 r) ∧ decide (0 ≤ r) = z) ∧ w.grownBy w' none := by
  have H := hid h
  have HB := hid hB
  have Hz := hid hz
  have HL := hid hl
  have kl : (l.length : Int) ≤ 9223372036854775807 := by unfold maxLen at hl; omega
  obtain ⟨p, c, rfl⟩ := h.len
  have HG := hid (grown_refl w none)
  clear h hB hz hl
  go_enter Tryz.func135, Tryz.ntmps135
  go_wp2
  go_loopw [8] (fun i wr => ∃ k : Nat, k ≤ l.length ∧ i = .int .i64 k ∧ Hid (w.grownBy wr none ∧ (l.take k).any (fun s => decide (s.n = n)) = false)) (fun i _ => l.length - (intOf i).toNat)
  case atStart => exact ⟨0, Nat.zero_le _, rfl, hid ⟨grown_refl _ _, by simp⟩⟩
  case round =>
    obtain ⟨k, hk, rfl, HR⟩ := hrel
    have hk0 : (0 : Int) ≤ (k : Int) := by omega
    by_cases hlt : k < l.length
    · obtain ⟨s, hs⟩ : ∃ s, l[k]? = some s := ⟨_, List.getElem?_eq_getElem hlt⟩
      obtain ⟨b, o, c', hv, _, hb, hc⟩ := H.out.at_ (by omega)
      obtain ⟨rfl, rfl⟩ : p = some ⟨b, o, none⟩ ∧ c = c' := by simpa using hv
      have h4 := (SyAt.cells hc hs).kept0 HR.out.1
      have e0 := h4.c0
      have e1 := h4.c1
      have e2 := h4.c2
      have e3 := h4.c3
      have kn : (k : Int) < (l.length : Int) := by omega
      obtain ⟨t, Ht⟩ : ∃ t, Hid (decide (s.n = n) = t) := ⟨_, hid rfl⟩
      have Hc := hid (fun wq (hq : w.grownBy wq none) => named_any s B n ((grown_cell hq (World.block_lt_of_cell? w _ HB.out) (by simp)).trans HB.out) t Ht.out)
      have Hs := hid hs
      clear hc h4 hs hv hb
      go_wp2_with fail
      refine (Hc.out _ HR.out.1).mono ?_
      rintro e w2 ⟨rfl, hg⟩
      have HG2 := hid (grown_trans HR.out.1 hg)
      clear hg
      cases t
      · go_wp2
        go_roundw
        case rel =>
          refine ⟨k + 1, by omega, by go_num, hid ⟨HG2.out, ?_⟩⟩
          rw [List.take_add_one, Hs.out, List.any_append, HR.out.2]
          simpa using Ht.out
        case measure => simp [intOf]; omega
      · go_wp2
        go_ret
        refine ⟨⟨k, rfl, ?_⟩, HG2.out⟩
        rw [← Hz.out]
        have : l.any (fun s => decide (s.n = n)) = true := List.any_eq_true.2 ⟨s, List.mem_of_getElem? Hs.out, Ht.out⟩
        rw [this]
        simp
    · obtain rfl : k = l.length := by omega
      clear hlt
      go_wp2
      go_ret
      refine ⟨⟨-1, rfl, ?_⟩, HR.out.1⟩
      rw [← Hz.out]
      have := HR.out.2
      rw [List.take_length] at this
      rw [this]
      rfl
theorem contains_any {v : Value} {l : List Sy} (h : SyAt w v l) (hl : l.length ≤ maxLen) (B : Nat) (n : ByteArray) (hB : w.cell? ⟨B, 0, none⟩ = some (.string n)) (z : Bool) (hz : l.any (fun s => decide (s.n = n)) = z) :
    Calls Tryz.prog 103 #[v, .func (.func 104) #[] #[.pointer (some ⟨B, 0, none⟩)]] w fun e w' => e = .returned (.bool z) ∧ w.grownBy w' none := by
  have Hi := hid (index_any h hl B n hB z hz)
  clear h hl hB hz
  go_enter Tryz.func103, Tryz.ntmps103
  go_wp2_with fail
  refine Hi.out.mono ?_
  rintro e w2 ⟨⟨r, rfl, hr⟩, hg⟩
  have Hr := hid hr
  have HG := hid hg
  clear hr hg
  obtain ⟨y, hy⟩ : ∃ y, decide (0 ≤ r) = y := ⟨_, rfl⟩
  have Hy := hid hy
  cases y
  · have h0 : ¬ (0 ≤ r) := by simpa using hy
    clear hy
    go_wp2
    go_ret
    exact ⟨ret_b (by rw [← Hr.out, Hy.out]), HG.out⟩
  · have h0 : 0 ≤ r := by simpa using hy
    clear hy
    go_wp2
    go_ret
    exact ⟨ret_b (by rw [← Hr.out, Hy.out]), HG.out⟩
end
end Go.Proofs.YtgahbpfmiibpeaaGreatDoor
/- What is wrong with a symbol (package obj): contracts. -/
namespace Go.Proofs.YtgahbpfmiibpeaaGreatDoor
open Go.RowKit
section
variable {w : World} {V : OV} {x : PO} {A : Nat → Addr}
/-- where a symbol stands: in data -/
theorem stands_data (h : OAt w V x) (_hf : OFit x) (s : Sy) (hi : s.i = 1) (z : Bool) (hz : standsB x s = z) :
    Calls Tryz.prog 105 #[V.agg, s.agg] w fun e w' => e = .returned (.bool z) ∧ w.grownBy w' none := by
  obtain ⟨d, c, m, r, q, sy⟩ := V
  obtain ⟨pd, cd, hd⟩ := h.d.len'
  obtain rfl : d = _ := hd
  obtain ⟨n, i, v, g⟩ := s
  obtain rfl : i = 1 := hi
  have HG := hid (grown_alloc (World.grownBy_alloc w (.cells #[.slice pd x.D.length cd, c, m, r, q, sy] 136) none) (.cells #[.string n, .int .i64 1, .int .i64 v, .bool g] 88))
  have hz' : decide (0 ≤ v ∧ (v < x.D.length ∨ v < 1)) = z := by rw [← hz]; unfold standsB; simp
  have Hz := hid hz'
  clear h hz hz' _hf
  by_cases h0 : 0 ≤ v
  · have Hr := hid h0
    go_enter Tryz.func105, Tryz.ntmps105
    go_wp2
    all_goals
      go_ret
      refine ⟨ret_b ?_, HG.out⟩
      rw [← Hz.out, Bool.eq_iff_iff]
      have := Hr.out
      simp only [decide_eq_true_eq]
      omega
  · have Hr := hid h0
    go_enter Tryz.func105, Tryz.ntmps105
    go_wp2
    go_ret
    refine ⟨ret_b ?_, HG.out⟩
    rw [← Hz.out, Bool.eq_iff_iff]
    have := Hr.out
    simp
    try omega
theorem stands_code (h : OAt w V x) (hf : OFit x) (hl : x.M.length = x.C.length) (s : Sy) (hi : s.i = 2) (z : Bool) (hz : standsB x s = z) :
    Calls Tryz.prog 105 #[V.agg, s.agg] w fun e w' => e = .returned (.bool z) ∧ w.grownBy w' none := by
  obtain ⟨d, c, m, r, q, sy⟩ := V
  obtain ⟨pc, cc, hc⟩ := h.c.len'
  obtain rfl : c = _ := hc
  obtain ⟨n, i, v, g⟩ := s
  obtain rfl : i = 2 := hi
  have hz' : decide (0 ≤ v ∧ v < x.C.length ∧ mapN x v.toNat = 1) = z := by rw [← hz]; unfold standsB; simp
  have Hz := hid hz'
  have kl : (x.C.length : Int) ≤ 9223372036854775807 := by have := hf.l.2.1; unfold maxLen at this; omega
  clear hz hz' hf
  by_cases h0 : 0 ≤ v
  · by_cases h1 : v < x.C.length
    · obtain ⟨k, rfl⟩ : ∃ k : Nat, v = (k : Int) := ⟨v.toNat, by omega⟩
      obtain ⟨y, hy⟩ : ∃ y, x.M[k]? = some y := ⟨_, List.getElem?_eq_getElem (by omega)⟩
      have hm : mapN x k = y := by unfold mapN; rw [List.getD_eq_getElem?_getD, hy]; rfl
      obtain ⟨b, o, cm, hmm, hb, hc⟩ := h.m.at_ (by omega)
      obtain rfl : m = _ := hmm
      have e0 := hc k y hy
      have Hr := hid (And.intro h1 hm)
      have kn : (k : Int) < (x.M.length : Int) := by omega
      have HG := hid (grown_alloc (World.grownBy_alloc w (.cells #[d, .slice pc x.C.length cc, .slice (some ⟨b, o, none⟩) x.M.length cm, r, q, sy] 136) none) (.cells #[.string n, .int .i64 2, .int .i64 k, .bool g] 88))
      have HX := hid (((RwAt.new w 136 #[d, .slice pc x.C.length cc, .slice (some ⟨b, o, none⟩) x.M.length cm, r, q, sy]).alloc (.cells #[.string n, .int .i64 2, .int .i64 k, .bool g] 88)))
      have HY := hid (RwAt.new2 w (.cells #[d, .slice pc x.C.length cc, .slice (some ⟨b, o, none⟩) x.M.length cm, r, q, sy] 136) 88 #[.string n, .int .i64 2, .int .i64 k, .bool g])
      have e9 := (grown_cell HG.out hb (by simp)).trans e0
      clear h hc hl hy hm e0
      go_enter Tryz.func105, Tryz.ntmps105
      go_upto_region 1 with (fail)
      generalize (w.alloc (.cells #[d, .slice pc x.C.length cc, .slice (some ⟨b, o, none⟩) x.M.length cm, r, q, sy] 136)).alloc (.cells #[.string n, .int .i64 2, .int .i64 k, .bool g] 88) = w1 at HG HX HY e9 ⊢
      have f1 := HX.out.cell 1 rfl
      have f2 := HX.out.cell 2 rfl
      have g1 := HY.out.cell 1 rfl
      have g2 := HY.out.cell 2 rfl
      go_wp2
      go_ret
      refine ⟨ret_b ?_, HG.out⟩
      have := Hr.out
      rw [← Hz.out, Bool.eq_iff_iff]
      simp [this.2]
      try omega
    · have Hr := hid (And.intro h0 h1)
      have HG := hid (grown_alloc (World.grownBy_alloc w (.cells #[d, .slice pc x.C.length cc, m, r, q, sy] 136) none) (.cells #[.string n, .int .i64 2, .int .i64 v, .bool g] 88))
      have hd1 : decide (v < (x.C.length : Int)) = false := by simpa using h1
      clear h
      go_enter Tryz.func105, Tryz.ntmps105
      go_wp2
      go_ret
      refine ⟨ret_b ?_, HG.out⟩
      have := Hr.out
      rw [← Hz.out, Bool.eq_iff_iff]
      simp
      try omega
  · have Hr := hid h0
    have HG := hid (grown_alloc (World.grownBy_alloc w (.cells #[d, .slice pc x.C.length cc, m, r, q, sy] 136) none) (.cells #[.string n, .int .i64 2, .int .i64 v, .bool g] 88))
    clear h
    go_enter Tryz.func105, Tryz.ntmps105
    go_wp2
    go_ret
    refine ⟨ret_b ?_, HG.out⟩
    have := Hr.out
    rw [← Hz.out, Bool.eq_iff_iff]
    simp
    try omega
theorem stands_else (s : Sy) (h1 : s.i ≠ 1) (h2 : s.i ≠ 2) (z : Bool) (hz : standsB x s = z) :
    Calls Tryz.prog 105 #[V.agg, s.agg] w fun e w' => e = .returned (.bool z) ∧ w.grownBy w' none := by
  obtain ⟨d, c, m, r, q, sy⟩ := V
  obtain ⟨n, i, v, g⟩ := s
  have h1 : i ≠ 1 := h1
  have h2 : i ≠ 2 := h2
  have z1 : (i == 1) = false := by simpa using h1
  have z2 : (i == 2) = false := by simpa using h2
  have HG := hid (grown_alloc (World.grownBy_alloc w (.cells #[d, c, m, r, q, sy] 136) none) (.cells #[.string n, .int .i64 i, .int .i64 v, .bool g] 88))
  by_cases h3 : i = 3
  · have z3 : (i == 3) = true := by simpa using h3
    have hz' : decide (v = 0 ∧ g = true) = z := by rw [← hz]; unfold standsB; simp [h3]
    have Hz := hid hz'
    clear hz hz' h1 h2 h3
    by_cases h0 : v = 0
    · have z4 : (v == 0) = true := by simpa using h0
      have H0 := hid h0
      clear h0
      go_enter Tryz.func105, Tryz.ntmps105
      go_wp2
      go_ret
      exact ⟨ret_b (by rw [← Hz.out]; simp [H0.out]), HG.out⟩
    · have z4 : (v == 0) = false := by simpa using h0
      have H0 := hid h0
      clear h0
      go_enter Tryz.func105, Tryz.ntmps105
      go_wp2
      go_ret
      exact ⟨ret_b (by rw [← Hz.out]; simp [H0.out]), HG.out⟩
  · have z3 : (i == 3) = false := by simpa using h3
    have hz' : false = z := by rw [← hz]; unfold standsB; simp [h1, h2, h3]
    have Hz := hid hz'
    clear hz hz' h1 h2 h3
    go_enter Tryz.func105, Tryz.ntmps105
    go_wp2
    go_ret
    exact ⟨ret_b Hz.out, HG.out⟩
theorem stands_any (h : OAt w V x) (hf : OFit x) (hl : x.M.length = x.C.length) (s : Sy) (z : Bool) (hz : standsB x s = z) :
    Calls Tryz.prog 105 #[V.agg, s.agg] w fun e w' => e = .returned (.bool z) ∧ w.grownBy w' none := by
  by_cases h1 : s.i = 1
  · exact stands_data h hf s h1 z hz
  · by_cases h2 : s.i = 2
    · exact stands_code h hf hl s h2 z hz
    · exact stands_else (x := x) s h1 h2 z hz
end
end Go.Proofs.YtgahbpfmiibpeaaGreatDoor
/- What is wrong with a symbol (package obj): contracts, the rest. -/
namespace Go.Proofs.YtgahbpfmiibpeaaGreatDoor
open Go.RowKit
theorem sysC_take : ∀ (l : List Sy) (k : Nat), sysC (l.take k) = (sysC l).take (k * 4)
  | [], k => by simp [sysC]
  | s :: r, 0 => by simp [sysC]
  | s :: r, k + 1 => by
    have h4 : (syC s).length = 4 := rfl
    rw [List.take_succ_cons, sysC, sysC_take r k, sysC, List.take_append, h4, List.take_of_length_le (l := syC s) (by rw [h4]; omega)]
    congr 2
    omega
theorem empty_iff {n : ByteArray} : n.toList.isEmpty = true ↔ n.size = 0 := by
  rw [ByteArray.toList_eq, List.isEmpty_iff]
  constructor
  · intro h
    have := congrArg List.length h
    simpa using this
  · intro h
    exact List.eq_nil_of_length_eq_zero (by simpa using h)
section
variable {w : World} {V : OV} {x : PO} {A : Nat → Addr}
set_option maxHeartbeats 1000000 in
theorem symbol_any (h : OAt w V x) (he : ErrC w A) (hf : OFit x) (hl : x.M.length = x.C.length) (k : Nat) (hk : k < x.S.length) (rr : Option Nat) (hr : symF x k = rr) :
    Calls Tryz.prog 75 #[V.agg, .int .i64 k] w fun e w' => e = .returned (evV A rr) ∧ w.grownBy w' none := by
  obtain ⟨d, c, m, r, q, sv⟩ := V
  obtain ⟨sy, hsy⟩ : ∃ sy, x.S[k]? = some sy := ⟨_, List.getElem?_eq_getElem hk⟩
  have hsn : symN x k = sy := by unfold symN; rw [List.getD_eq_getElem?_getD, hsy]; rfl
  obtain ⟨n, i, v, g⟩ := sy
  have HX := hid (Bx.new h he 136 #[d, c, m, r, q, sv])
  have HP := hid (And.intro hf hl)
  have HR := hid hr
  have HS := hid hsn
  have k0 : (0 : Int) ≤ (k : Int) := by omega
  have kn : (k : Int) < (x.S.length : Int) := by omega
  have kl : (x.S.length : Int) ≤ 9223372036854775807 := by have := hf.l.2.2.2.2.2; unfold maxLen at this; omega
  obtain ⟨b, o, cp, hss, hcp, _, hc⟩ := HX.out.o.s.at_ (by omega)
  obtain rfl : sv = _ := hss
  have h4 := SyAt.cells hc hsy
  have kc : (k : Int) ≤ (cp : Int) := by omega
  clear h he hf hl hk hc hr hsn hsy hcp
  go_enter Tryz.func75, Tryz.ntmps75
  go_upto_region 1 with (fail)
  generalize w.alloc (.cells #[d, c, m, r, q, .slice (some ⟨b, o, none⟩) x.S.length cp] 136) = w1 at HX h4 ⊢
  have f5 := HX.out.box.cell 5 rfl
  have e0 := h4.c0
  have e1 := h4.c1
  have e2 := h4.c2
  have e3 := h4.c3
  go_upto_region 2 with (fail)
  have HX2 := hid (HX.out.alloc (.cells #[.string n, .int .i64 i, .int .i64 v, .bool g] 88))
  have HY := hid (RwAt.new w1 88 #[.string n, .int .i64 i, .int .i64 v, .bool g])
  obtain ⟨B, hB⟩ : ∃ B, w1.heap.size = B := ⟨_, rfl⟩
  clear HX f5 e0 e1 e2 e3 h4
  rw [hB] at HY ⊢
  generalize w1.alloc (.cells #[.string n, .int .i64 i, .int .i64 v, .bool g] 88) = w2 at HX2 HY ⊢
  have g0 := HY.out.cell 0 rfl
  have hrr : rr = if n.size = 0 ∨ 32 < n.size then some 2 else if twiceB x k = true then some 5 else if standsB x ⟨n, i, v, g⟩ = true then none else some 2 := by
    rw [← HR.out]; unfold symF; rw [HS.out]
  have e2 := HX2.out.e.c2
  unfold errV at e2
  by_cases z0 : n.size = 0
  · have hz := empty_iff.2 z0
    rw [if_pos (.inl z0)] at hrr
    have HQ := hid hrr
    clear hrr z0
    go_wp2
    go_ret
    exact ⟨by rw [HQ.out]; rfl, HX2.out.g⟩
  have hz : n.toList.isEmpty = false := by
    cases hb : n.toList.isEmpty
    · rfl
    · exact absurd (empty_iff.1 hb) z0
  by_cases z1 : 32 < n.size
  · have hz1 : (n.size : Int) > 32 := by omega
    rw [if_pos (.inr z1)] at hrr
    have HQ := hid hrr
    clear hrr z0 z1
    go_wp2
    go_ret
    exact ⟨by rw [HQ.out]; rfl, HX2.out.g⟩
  have hz1 : (n.size : Int) ≤ 32 := by omega
  rw [if_neg (by omega)] at hrr
  have f5 := HX2.out.box.cell 5 rfl
  have HQ := hid hrr
  have Htw : Hid ((x.S.take k).any (fun s => decide (s.n = n)) = twiceB x k) := hid (by unfold twiceB; rw [HS.out])
  clear hrr z0 z1 e2
  go_wp2_with fail
  have HSy : Hid (SyAt w2 (.slice (some ⟨b, o, none⟩) k cp) (x.S.take k)) := hid (by
    have hk : k ≤ x.S.length := by omega
    have := HX2.out.o.s
    rcases this with ⟨_, h0, _⟩ | ⟨b', o', c', hv, hn, hb', hc⟩
    · omega
    · simp only [Value.slice.injEq, Option.some.injEq, Addr.mk.injEq, and_true, true_and] at hv
      obtain ⟨⟨rfl, rfl⟩, rfl⟩ := hv
      refine .inr ⟨b, o, cp, ?_, ?_, hb', fun j u hu => hc j u ?_⟩
      · rw [List.length_take, Nat.min_eq_left hk]
      · rw [List.length_take, Nat.min_eq_left hk]; omega
      · rw [sysC_take, List.getElem?_take] at hu
        split at hu
        · exact hu
        · cases hu)
  have Hc := hid (contains_any HSy.out (by rw [List.length_take]; have := HP.out.1.l.2.2.2.2.2; omega) B n g0 _ Htw.out)
  clear HSy Htw
  cases htw : twiceB x k
  · have HT := hid htw
    rw [htw] at Hc
    clear htw
    refine Hc.out.mono ?_
    rintro e w3 ⟨rfl, hg⟩
    have HX3 := hid (HX2.out.kept0 hg)
    have HY3 := hid (HY.out.kept0 hg)
    clear hg HX2 HY f5 g0 Hc
    go_wp2_with (first
      | (refine wpList_load_rw rfl 136 _ rfl rfl HX3.out.box rfl Tryz.underlying136 info_object' ?_)
      | (refine wpList_load_rw rfl 88 _ rfl rfl HY3.out rfl Tryz.underlying88 info_sym ?_)
      | fail)
    cases hst : standsB x ⟨n, i, v, g⟩
    · have HS2 := hid hst
      clear hst
      refine (stands_any HX3.out.o HP.out.1 HP.out.2 ⟨n, i, v, g⟩ false HS2.out).mono ?_
      rintro e w4 ⟨rfl, hg⟩
      have HX4 := hid (HX3.out.kept0 hg)
      clear hg HX3 HY3
      have e2 := HX4.out.e.c2
      unfold errV at e2
      go_wp2
      go_ret
      exact ⟨by rw [HQ.out, HT.out, HS2.out]; rfl, HX4.out.g⟩
    · have HS2 := hid hst
      clear hst
      refine (stands_any HX3.out.o HP.out.1 HP.out.2 ⟨n, i, v, g⟩ true HS2.out).mono ?_
      rintro e w4 ⟨rfl, hg⟩
      have HX4 := hid (HX3.out.kept0 hg)
      clear hg HX3 HY3
      go_wp2
      go_ret
      exact ⟨by rw [HQ.out, HT.out, HS2.out]; rfl, HX4.out.g⟩
  · have HT := hid htw
    rw [htw] at Hc
    clear htw
    refine Hc.out.mono ?_
    rintro e w3 ⟨rfl, hg⟩
    have HX3 := hid (HX2.out.kept0 hg)
    clear hg HX2 HY f5 g0 Hc
    have e5 := HX3.out.e.c5
    unfold errV at e5
    go_wp2
    go_ret
    exact ⟨by rw [HQ.out, HT.out]; rfl, HX3.out.g⟩
end
end Go.Proofs.YtgahbpfmiibpeaaGreatDoor
