/- facadesee's questions about what may be wrong with an object: contracts. (Made by gobjs.py.) -/
import Derived.Test.YtogdpaaofihkgaaGreatDoorYObj12
import Derived.Test.YtogdpaaofihkgaaGreatDoorYOWr0
import Derived.Deep.RegionHeld3
namespace Go.Proofs.YtogdpaaofihkgaaGreatDoor
open Go.RowKit
/-- what is wrong, as the statements say it: its number, whether it has a place, the place -/
def fltC : Fl → Int
  | none => 0
  | some (c, _) => ((101 + c : Nat) : Int)
def fltB : Fl → Bool
  | some (_, some _) => true
  | _ => false
def fltN : Fl → Int
  | some (_, some p) => p
  | _ => 0
abbrev f3V (c : Int) (b : Bool) (n : Int) : Value := .agg #[.int .i64 c, .bool b, .int .i64 n]
def flV (y : Fl) : Value := f3V (fltC y) (fltB y) (fltN y)
theorem nofault_any (w : World) : Calls Tryz.prog 14 #[] w fun e w' => e = .returned (f3V 0 false 0) ∧ w.grownBy w' none := by
  have Hr := hid (grown_refl w none)
  go_enter Tryz.func14, Tryz.ntmps14
  go_wp2
  refine bodyPost_ret (v := .agg #[.int .i64 0, .bool false, .int .i64 0]) (by simp [results, Tryz.results14, go_sem]) rfl ⟨rfl, grown_alloc Hr.out _⟩
theorem placed_any (c n : Int) (hc : c ≠ 0) (w : World) : Calls Tryz.prog 15 #[.int .i64 c, .int .i64 n] w fun e w' => e = .returned (f3V c true n) ∧ w.grownBy w' none := by
  have Hr := hid (grown_refl w none)
  have hz : (c == 0) = false := by simpa using hc
  go_enter Tryz.func15, Tryz.ntmps15
  go_wp2
  refine bodyPost_ret (v := .agg #[.int .i64 c, .bool true, .int .i64 n]) (by simp [results, Tryz.results15, go_sem]) rfl ⟨rfl, grown_alloc Hr.out _⟩
set_option maxHeartbeats 1000000 in
theorem same3_any (x0 : Int) (x1 : Bool) (x2 y0 : Int) (y1 : Bool) (y2 : Int) (r : Bool) (hr : decide (x0 = y0 ∧ x1 = y1 ∧ x2 = y2) = r) (w : World) :
    Calls Tryz.prog 25 #[f3V x0 x1 x2, f3V y0 y1 y2] w fun e w' => e = .returned (.bool r) ∧ w.grownBy w' none := by
  have Hg := hid (grown_alloc (grown_alloc (grown_refl w none) (.cells #[.int .i64 x0, .bool x1, .int .i64 x2] 52)) (.cells #[.int .i64 y0, .bool y1, .int .i64 y2] 52))
  have Hr := hid hr
  clear hr
  by_cases h0 : x0 = y0
  · subst h0
    by_cases h1 : x1 = y1
    · subst h1
      obtain ⟨q, hq⟩ : ∃ q, (x2 == y2) = q := ⟨_, rfl⟩
      go_enter Tryz.func25, Tryz.ntmps25
      go_wp2
      go_ret
      exact ⟨ret_b (by rw [← Hr.out, ← hq]; simp [Bool.beq_eq_decide_eq]), Hg.out⟩
    · have hx : (x1 == y1) = false := by simpa using h1
      go_enter Tryz.func25, Tryz.ntmps25
      go_wp2
      go_ret
      exact ⟨ret_b (by rw [← Hr.out]; simp [h1]), Hg.out⟩
  · have hx : (x0 == y0) = false := by simpa using h0
    go_enter Tryz.func25, Tryz.ntmps25
    go_wp2
    go_ret
    exact ⟨ret_b (by rw [← Hr.out]; simp [h0]), Hg.out⟩
theorem run_is_at (v : Value) (W : World) : (Instr.typeAssert (.iface 99 v) 45 99 true).run Tryz.prog W = .ok (.tuple #[v, .bool true]) W := by
  simp [Instr.typeAssert, run_underlying Tryz.underlying99]
theorem fault_nil (w : World) : Calls Tryz.prog 26 #[.nilIface] w fun e w' => e = .returned (f3V 0 false 0) ∧ w.grownBy w' none := by
  have HR := hid (RwAt.new w 52 #[.int .i64 0, .bool false, .int .i64 0])
  go_enter Tryz.func26, Tryz.ntmps26
  go_wp2_with fail
  refine (nofault_any _).mono ?_
  rintro e w2 ⟨rfl, hg⟩
  have HG := hid (grown_trans (World.grownBy_alloc w (.cells #[.int .i64 0, .bool false, .int .i64 0] 52) none) hg)
  have HR2 := hid (HR.out.kept0 hg)
  have c0 := HR2.out.cell 0 rfl
  have c1 := HR2.out.cell 1 rfl
  have c2 := HR2.out.cell 2 rfl
  have z0 := HR2.out.free 0
  have z1 := HR2.out.free 1
  have z2 := HR2.out.free 2
  clear hg HR
  go_wp2
  refine bodyPost_ret (v := .agg #[.int .i64 0, .bool false, .int .i64 0]) ?_ rfl ⟨rfl, ?_⟩
  · simp [results, Tryz.results26, go_sem, c0, c1, c2]
  · exact grown_new' (grown_setCell (grown_setCell (grown_setCell (grown_none HG.out) _ _) _ _) _ _) (fun k hk => by obtain rfl := Option.some.inj hk; exact Nat.le_refl _)
theorem set3_other {w : World} {G R k : Nat} {a b c v : Value} (h : G ≠ R) (hc : w.cell? ⟨G, k, none⟩ = some v) :
    (((w.setCell ⟨R, 0, none⟩ a).setCell ⟨R, 1, none⟩ b).setCell ⟨R, 2, none⟩ c).cell? ⟨G, k, none⟩ = some v :=
  (World.cell?_of_block (by rw [heap_setCell_other _ _ _ _ h, heap_setCell_other _ _ _ _ h, heap_setCell_other _ _ _ _ h])).trans hc
set_option maxRecDepth 100000 in
set_option maxHeartbeats 4000000 in
theorem fault_at {A : Nat → Addr} {w : World} (h : Sents w A) {B : Nat} {p : Int} {c : Nat} (hc : c < 16) (hB : RwAt w B 103 #[.int .i64 p, errV (A c)]) :
    Calls Tryz.prog 26 #[atV B] w fun e w' => e = .returned (f3V ((101 + c : Nat) : Int) true p) ∧ w.grownBy w' none := by
  have hneq := run_is_at
  have hn1 : ∀ W, (binOp .eql 45 (atV B) .nilIface).run Tryz.prog W = .ok (.bool false) W := fun W => by
    have h : ∀ d : Nat, (Op.equalIn (d + 1) 45 (atV B) .nilIface).run Tryz.prog W = .ok false W := fun d => by simp [Op.equalIn, run_underlying Tryz.underlying45]
    simp only [binOp]
    simp [Op.equal, Op.maxDepth, h 9999]
  have hn2 := fun W => run_err_nil (A c) W
  have HG1 := World.grownBy_alloc w (.cells #[.int .i64 0, .bool false, .int .i64 0] 52) none
  have HS := hid (h.kept0 HG1)
  have HX : Hid (RwAt (w.alloc (.cells #[.int .i64 0, .bool false, .int .i64 0] 52)) B 103 #[.int .i64 p, .iface 189 (.pointer (some (A c)))]) := hid (hB.kept0 HG1)
  have HR := hid (RwAt.new w 52 #[.int .i64 0, .bool false, .int .i64 0])
  have HGn := hid HG1
  have HC := hid hc
  obtain ⟨C, hC⟩ : ∃ C, ((101 + c : Nat) : Int) = C := ⟨_, rfl⟩
  have HC0 : Hid (C ≠ 0) := hid (by omega)
  have HCC := hid hC
  have hBl := hB.lt
  rw [hC]
  obtain ⟨R, hR⟩ : ∃ R, w.heap.size = R := ⟨_, rfl⟩
  have HRW := hid hR
  rw [hR] at HR hBl
  have HNE : Hid (B ≠ R) := hid (by omega)
  unfold errV at hn2
  clear h hB hc HG1 hC hBl
  go_enter Tryz.func26, Tryz.ntmps26
  go_upto_region 1 with (fail)
  clear hR
  generalize w.alloc (.cells #[.int .i64 0, .bool false, .int .i64 0] 52) = w0 at HS HX HR HGn ⊢
  have b0 := HX.out.cell 0 (v := .int .i64 p) rfl
  have b1 := HX.out.cell 1 (v := .iface 189 (.pointer (some (A c)))) rfl
  go_upto_region 8 with (fail)
  have hgd : w0.grownBy w0.drew none := grown_drew (grown_refl w0 none)
  have HSn : Hid (Calls Tryz.prog 37 #[.iface 189 (.pointer (some (A c)))] w0.drew fun e w' => e = .returned (.int .i64 C) ∧ w0.drew.grownBy w' none) := hid (by rw [← HCC.out]; exact sentinel_any (HS.out.kept0 hgd) c HC.out)
  have HX0 := hid (HX.out.kept0 hgd)
  have HR0 := hid (HR.out.kept0 hgd)
  have HG0 := hid (grown_trans HGn.out hgd)
  clear b0 b1 hgd HX HR HGn
  have b0 := HX0.out.cell 0 (v := .int .i64 p) rfl
  have b1 := HX0.out.cell 1 (v := .iface 189 (.pointer (some (A c)))) rfl
  go_region_held3 (fun W => W.cell? ⟨B, 0, none⟩ = some (.int .i64 p) ∧ W.cell? ⟨B, 1, none⟩ = some (.iface 189 (.pointer (some (A c)))))
    (first | (with_reducible exact ⟨b0, b1⟩) | (with_reducible exact ⟨d0, d1⟩) | (with_reducible exact ⟨f0, f1⟩) | (refine ⟨?_, ?_⟩ <;> (apply set3_other HNE.out; with_reducible assumption)))
    (first
      | (go_at_call 37; refine (HSn.out).mono ?_; rintro e w2 ⟨rfl, hg⟩; have HX2 := hid (HX0.out.kept0 hg); have HR2 := hid (HR0.out.kept0 hg); have HG2 := hid (grown_trans HG0.out hg); have d0 := HX2.out.cell 0 (v := .int .i64 p) rfl; have d1 := HX2.out.cell 1 (v := .iface 189 (.pointer (some (A c)))) rfl; clear hg)
      | (go_at_call 15; refine (placed_any C p HC0.out _).mono ?_; rintro e w3 ⟨rfl, hg⟩; have HX3 := hid (HX2.out.kept0 hg); have HR3 := hid (HR2.out.kept0 hg); have HG3 := hid (grown_trans HG2.out hg); have f0 := HX3.out.cell 0 (v := .int .i64 p) rfl; have f1 := HX3.out.cell 1 (v := .iface 189 (.pointer (some (A c)))) rfl; have n0 := HR3.out.cell 0 (v := .int .i64 0) rfl; have n1 := HR3.out.cell 1 (v := .bool false) rfl; have n2 := HR3.out.cell 2 (v := .int .i64 0) rfl; have nf := fun j => HR3.out.free j; clear hg))
  go_split_ands
  go_wp2
  have HF : RwAt (((w3.setCell ⟨R, 0, none⟩ (.int .i64 C)).setCell ⟨R, 1, none⟩ (.bool true)).setCell ⟨R, 2, none⟩ (.int .i64 p)) R 52 #[.int .i64 C, .bool true, .int .i64 p] := by
    have := ((HR3.out.set 0 (.int .i64 C)).set 1 (.bool true)).set 2 (.int .i64 p)
    simpa using this
  have hs : w3.grownBy (((w3.setCell ⟨R, 0, none⟩ (.int .i64 C)).setCell ⟨R, 1, none⟩ (.bool true)).setCell ⟨R, 2, none⟩ (.int .i64 p)) (some R) := grown_setCell (grown_setCell (grown_setCell (grown_refl _ _) _ _) _ _) _ _
  generalize ((w3.setCell ⟨R, 0, none⟩ (.int .i64 C)).setCell ⟨R, 1, none⟩ (.bool true)).setCell ⟨R, 2, none⟩ (.int .i64 p) = wF at HF hs ⊢
  have r0 := HF.cell 0 rfl
  have r1 := HF.cell 1 rfl
  have r2 := HF.cell 2 rfl
  have z0 := HF.free 0
  have z1 := HF.free 1
  have z2 := HF.free 2
  refine bodyPost_ret (v := .agg #[.int .i64 C, .bool true, .int .i64 p]) (by simp [results, Tryz.results26, go_sem, r0, r1, r2]) rfl ⟨rfl, ?_⟩
  exact grown_new' (grown_trans (grown_none HG3.out) hs) (fun k hk => by obtain rfl := Option.some.inj hk; have := HRW.out; omega)
/-- whatever is wrong -/
theorem fault_any {A : Nat → Addr} {w : World} (h : Sents w A) {v : Value} {y : Fl} (hv : FltAt A w v y) (hy : ∀ c p, y = some (c, p) → c < 16) :
    Calls Tryz.prog 26 #[v] w fun e w' => e = .returned (flV y) ∧ w.grownBy w' none := by
  match y, hv with
  | none, hv =>
    obtain rfl : v = .nilIface := hv
    exact fault_nil w
  | some (c, none), hv =>
    obtain rfl : v = errV (A c) := hv
    exact fault_sent h c (hy c none rfl)
  | some (c, some p), ⟨B, hv, hB⟩ =>
    subst hv
    exact fault_at h (hy c _ rfl) hB
theorem FltAt.kept0' {A : Nat → Addr} {w w1 : World} {v : Value} {y : Fl} (h : FltAt A w v y) (hg : w.grownBy w1 none) : FltAt A w1 v y := h.kept0 hg
set_option maxRecDepth 100000 in
set_option maxHeartbeats 1000000 in
theorem same_flt {A : Nat → Addr} {w : World} (h : Sents w A) {v : Value} {y : Fl} (hv : FltAt A w v y) (hy : ∀ c p, y = some (c, p) → c < 16) (d0 : Int) (d1 : Bool) (d2 : Int) (r : Bool) (hr : decide (fltC y = d0 ∧ fltB y = d1 ∧ fltN y = d2) = r) :
    Calls Tryz.prog 16 #[v, f3V d0 d1 d2] w fun e w' => e = .returned (.bool r) ∧ w.grownBy w' none := by
  have Hr := hid hr
  have Hf : ∀ W, w.grownBy W none → Calls Tryz.prog 26 #[v] W fun e w' => e = .returned (flV y) ∧ W.grownBy w' none := fun W hW => fault_any (h.kept0 hW) (hv.kept0 hW) hy
  have Hf := hid Hf
  clear h hr hv hy
  obtain ⟨q0, hq0⟩ : ∃ q, fltC y = q := ⟨_, rfl⟩
  obtain ⟨q1, hq1⟩ : ∃ q, fltB y = q := ⟨_, rfl⟩
  obtain ⟨q2, hq2⟩ : ∃ q, fltN y = q := ⟨_, rfl⟩
  unfold flV at Hf
  rw [hq0, hq1, hq2] at Hf Hr
  clear hq0 hq1 hq2
  go_enter Tryz.func16, Tryz.ntmps16
  go_wp2
  obtain ⟨W0, hW0⟩ : ∃ W0, W0 = w.alloc (.cells #[.int .i64 d0, .bool d1, .int .i64 d2] 52) := ⟨_, rfl⟩
  rw [← hW0]
  have hb0 : W0.heap[w.heap.size]? = some (.cells #[.int .i64 d0, .bool d1, .int .i64 d2] 52 (0, 0)) := by rw [hW0]; exact heap_alloc_last _ _
  have c0 : W0.cell? ⟨w.heap.size, 0, none⟩ = some (.int .i64 d0) := by rw [cell_of_row W0 _ _ _ _ _ hb0]; rfl
  have c1 : W0.cell? ⟨w.heap.size, 1, none⟩ = some (.bool d1) := by rw [cell_of_row W0 _ _ _ _ _ hb0]; rfl
  have c2 : W0.cell? ⟨w.heap.size, 2, none⟩ = some (.int .i64 d2) := by rw [cell_of_row W0 _ _ _ _ _ hb0]; rfl
  have hlt : w.heap.size < W0.heap.size := (Array.getElem?_eq_some_iff.1 hb0).1
  have hg0 : w.grownBy W0 none := by rw [hW0]; exact World.grownBy_alloc _ _ _
  clear hW0 hb0
  go_region_held3 (fun W => W.cell? ⟨w.heap.size, 0, none⟩ = some (.int .i64 d0) ∧ W.cell? ⟨w.heap.size, 1, none⟩ = some (.bool d1) ∧ W.cell? ⟨w.heap.size, 2, none⟩ = some (.int .i64 d2) ∧ w.heap.size < W.heap.size ∧ w.grownBy W none)
    (first | (exact ⟨c0, c1, c2, hlt, grown_drew hg0⟩) | (go_split_ands; exact ⟨(grown_cell hcb (by assumption) (by simp)).trans (by assumption), (grown_cell hcb (by assumption) (by simp)).trans (by assumption), (grown_cell hcb (by assumption) (by simp)).trans (by assumption), Nat.lt_of_lt_of_le (by assumption) hcb.size, grown_trans (by assumption) hcb⟩))
    (first
      | (go_split_ands; go_at_call 26; refine (Hf.out _ (by assumption)).mono ?_; rintro e w' ⟨rfl, hcb⟩)
      | (go_split_ands; go_at_call 25; refine (same3_any q0 q1 q2 d0 d1 d2 r Hr.out _).mono ?_; rintro e w' ⟨rfl, hcb⟩))
  go_wp2
  go_ret
  go_split_ands
  exact ⟨rfl, by assumption⟩
theorem is_flt {A : Nat → Addr} {w : World} (h : Sents w A) {v : Value} {y : Fl} (hv : FltAt A w v y) (hy : ∀ c p, y = some (c, p) → c < 16) (d : Int) (r : Bool) (hr : decide (fltC y = d ∧ fltB y = false ∧ fltN y = 0) = r) :
    Calls Tryz.prog 12 #[v, .int .i64 d] w fun e w' => e = .returned (.bool r) ∧ w.grownBy w' none := by
  have Hf : ∀ W, w.grownBy W none → Calls Tryz.prog 16 #[v, faultV d] W fun e w' => e = .returned (.bool r) ∧ W.grownBy w' none := fun W hW => same_flt (h.kept0 hW) (hv.kept0 hW) hy d false 0 r hr
  have Hf := hid Hf
  clear h hr hv hy
  go_enter Tryz.func12, Tryz.ntmps12
  go_wp2_with fail
  refine (bare_any d w).mono ?_; rintro e w1 ⟨rfl, hg⟩
  have HG1 := hid hg
  clear hg
  go_wp2_with fail
  refine (Hf.out _ HG1.out).mono ?_; rintro e w2 ⟨rfl, hg⟩
  have HG2 := hid (grown_trans HG1.out hg)
  clear hg
  go_wp2
  go_ret
  exact ⟨rfl, HG2.out⟩
end Go.Proofs.YtogdpaaofihkgaaGreatDoor
