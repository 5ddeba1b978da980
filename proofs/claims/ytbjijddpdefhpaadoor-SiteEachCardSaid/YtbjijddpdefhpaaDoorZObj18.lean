/- The bytes of an object that may be; of an empty one (package obj): contracts. -/
import Derived.Test.YtbjijddpdefhpaaDoorZObj17
namespace Go.Proofs.YtbjijddpdefhpaaDoor
open Go.RowKit
/-- on the way: the object's box G, its sizes S, bytes of the call's own, all above w4 -/
structure BW (w4 : World) (G S : Nat) (V : OV) (x : PO) (bs : List Int) (v : Value) (w : World) : Prop where
  box4 : RwAt w4 G 37 V.cells
  sz4 : RwAt w4 S 80 #[.int .i64 x.D.length, .int .i64 x.C.length, .int .i64 x.R.length, .int .i64 x.Q.length, .int .i64 x.S.length]
  o4 : OAt w4 V x
  by_ : By w4.heap.size w v bs
  below : Below w4.heap.size w4 w
section
variable {w4 w w1 : World} {G S : Nat} {V : OV} {x : PO} {bs bs1 : List Int} {v v1 : Value}
theorem BW.go (h : BW w4 G S V x bs v w) (hb : Below w4.heap.size w w1) (hy : By w4.heap.size w1 v1 bs1) : BW w4 G S V x bs1 v1 w1 := ⟨h.box4, h.sz4, h.o4, hy, h.below.trans hb⟩
theorem BW.box (h : BW w4 G S V x bs v w) : RwAt w G 37 V.cells := ⟨(h.below.block _ h.box4.lt).trans h.box4.blk⟩
theorem BW.sz (h : BW w4 G S V x bs v w) : SlAt w .i64 (.slice (some ⟨S, 0, none⟩) 5 5) (lensI x) :=
  SlAt.below (B := w4.heap.size) (SlAt.whole (b := S) (c := 5) (k := .i64) (xs := lensI x) (t := 80) (by exact h.sz4.blk)) (Nat.le_refl _) h.below
theorem els_of {B : Nat} {k : IntKind} {lv : Value} {xs : List Int} (h : SlAt w4 k lv xs) (hB : w4.heap.size ≤ B) (hy : By B w v bs) : Else lv v := by
  rcases h with ⟨h, _⟩ | ⟨b, o, c, rfl, hlt, _⟩
  · exact .inl h
  · refine .inr fun g hg e => ?_
    obtain rfl : b = g := by simpa [Value.ownBlock] using hg
    have := (hy.own.lt b e).1
    omega
theorem BW.els (h : BW w4 G S V x bs v w) {k : IntKind} {lv : Value} {xs : List Int} (hl : SlAt w4 k lv xs) : Else lv v := els_of hl (Nat.le_refl _) h.by_
theorem BW.elsz (h : BW w4 G S V x bs v w) : Else (.slice (some ⟨S, 0, none⟩) 5 5) v := h.els (SlAt.whole (b := S) (c := 5) (k := .i64) (xs := lensI x) (t := 80) (by exact h.sz4.blk))
theorem BW.sl (h : BW w4 G S V x bs v w) {k : IntKind} {lv : Value} {xs : List Int} (hl : SlAt w4 k lv xs) : SlAt w k lv xs := SlAt.below hl (Nat.le_refl _) h.below
end
theorem part_len {x : PO} (h : OkP x) : (lensI x).length = 5 ∧ (wsB (lensI x)).length = 20 ∧ (wsB x.D).length = 4 * x.D.length ∧ (wsB x.C).length = 4 * x.C.length ∧ (rlsB x.R).length = 16 * x.R.length ∧ (rlsB x.Q).length = 16 * x.Q.length ∧
    x.D.length ≤ 2048 ∧ x.C.length ≤ 2048 ∧ x.M.length ≤ 2048 ∧ x.R.length ≤ 1024 ∧ x.Q.length ≤ 1024 ∧ x.S.length ≤ 256 := by
  have := many_of h
  refine ⟨rfl, by rw [wsB_length]; rfl, wsB_length _, wsB_length _, rlsB_length _, rlsB_length _, ?_⟩
  have := h.len
  omega
set_option maxRecDepth 100000 in
set_option maxHeartbeats 4000000 in
theorem bytes_yes {w : World} {V : OV} {x : PO} {A : Nat → Addr} (h : OAt w V x) (he : ErrC w A) (hf : OFit x) (hv : validP x = none) : Calls Tryd.prog 23 #[V.agg] w (YesBytes w (bytesP x)) := by
  obtain ⟨d, c, m, r, q, sv⟩ := V
  have HX := hid (Bx.new h he 37 #[d, c, m, r, q, sv])
  have HF := hid hf
  have HV := hid hv
  have HK := hid (valid_ok hv)
  have HP := hid (part_len (valid_ok hv))
  clear h he hf hv
  obtain ⟨G, hG⟩ : ∃ G, w.heap.size = G := ⟨_, rfl⟩
  rw [hG] at HX
  have HGs := hid hG
  go_enter Tryd.func23, Tryd.ntmps23
  go_upto_region 1 with (fail)
  clear hG
  generalize w.alloc (.cells #[d, c, m, r, q, sv] 37) = w1 at HX ⊢
  go_wp2_with (first
    | (refine wpList_load_rw rfl 37 _ rfl rfl HX.out.box rfl Tryd.underlying37 info_object ?_)
    | fail)
  refine (valid_any HX.out.o HX.out.e HF.out).mono ?_
  rintro e w2 ⟨fv, rfl, hfl, hg⟩
  rw [HV.out] at hfl
  obtain rfl : fv = .nilIface := hfl
  have HX2 := hid (HX.out.kept0 hg)
  clear hg HX
  go_wp2_with (first
    | (refine wpList_load_rw rfl 37 _ rfl rfl HX2.out.box rfl Tryd.underlying37 info_object ?_)
    | fail)
  refine (sizes_any HX2.out.o).mono ?_
  rintro e w3 ⟨rfl, hg⟩
  have HX3 := hid (HX2.out.kept0 hg)
  clear hg HX2
  unfold lenV
  have HX4 := hid (HX3.out.alloc (.cells #[.int .i64 x.D.length, .int .i64 x.C.length, .int .i64 x.R.length, .int .i64 x.Q.length, .int .i64 x.S.length] 80))
  have HS4 := hid (RwAt.new w3 80 #[.int .i64 x.D.length, .int .i64 x.C.length, .int .i64 x.R.length, .int .i64 x.Q.length, .int .i64 x.S.length])
  obtain ⟨S, hS⟩ : ∃ S, w3.heap.size = S := ⟨_, rfl⟩
  rw [hS] at HS4
  go_upto_region 5 with (fail)
  clear hS
  generalize w3.alloc (.cells #[.int .i64 x.D.length, .int .i64 x.C.length, .int .i64 x.R.length, .int .i64 x.Q.length, .int .i64 x.S.length] 80) = w4 at HX4 HS4 ⊢
  have HW := hid (BW.mk (w4 := w4) (G := G) (S := S) (V := ⟨d, c, m, r, q, sv⟩) (x := x) (bs := []) (v := .slice none 0 0) (w := w4) HX4.out.box HS4.out HX4.out.o (By.nil _ _ (Nat.le_refl _)) (Below.refl _ _))
  have HO4 := hid HX4.out.o
  have HG4 := hid HX4.out.g
  clear HX3 HX4 HS4
  have HM := hid (SlAt.whole (w := w4.alloc (.cells #[.int .i64 842225232] 3)) (b := w4.heap.size) (c := 1) (k := .i64) (xs := [842225232]) (t := 3) (by exact heap_alloc_last w4 _))
  have HY1 := hid (By.nil w4.heap.size (w4.alloc (.cells #[.int .i64 842225232] 3)) (by simp))
  have HE1 : Hid (Else (.slice (some ⟨w4.heap.size, 0, none⟩) 1 1) (.slice none 0 0)) := hid (.inr fun g _ e => by simp [Value.ownBlock] at e)
  have HB1 := hid (below_alloc (B := w4.heap.size) (w := w4) (Nat.le_refl _) (.cells #[.int .i64 842225232] 3))
  go_wp2_with fail
  refine (appi_any HY1.out HM.out HE1.out (by simp)).mono ?_
  rintro e w5 ⟨v5, rfl, hby, hgw⟩
  have HW5 := hid (HW.out.go (HB1.out.trans (hgw.below HY1.out)) hby)
  clear hby hgw HM HY1 HE1 HB1 HW
  obtain ⟨b5, hb5⟩ : ∃ b, [] ++ wsB [842225232] = b := ⟨_, rfl⟩
  have hl5 : b5.length = 4 := by rw [← hb5]; rfl
  rw [hb5] at HW5
  have Hb5 := hid hb5
  have Hl5 := hid hl5
  clear hb5 hl5
  go_wp2_with fail
  refine (appl_any HW5.out.by_ HW5.out.sz HW5.out.elsz (by have := HP.out.1; have := Hl5.out; omega)).mono ?_
  rintro e w6 ⟨v6, rfl, hby, hgw⟩
  have HW6 := hid (HW5.out.go (hgw.below HW5.out.by_) hby)
  clear hby hgw HW5
  have e0 := HW6.out.box.cell 0 (v := d) rfl
  go_wp2_with fail
  clear e0
  refine (appu_any HW6.out.by_ (HW6.out.sl HO4.out.d) (HW6.out.els HO4.out.d) (by have := HP.out; have := Hl5.out; simp only [List.length_append]; omega) HF.out.d).mono ?_
  rintro e w7 ⟨v7, rfl, hby, hgw⟩
  have HW7 := hid (HW6.out.go (hgw.below HW6.out.by_) hby)
  clear hby hgw HW6
  have e1 := HW7.out.box.cell 1 (v := c) rfl
  go_wp2_with fail
  clear e1
  refine (appu_any HW7.out.by_ (HW7.out.sl HO4.out.c) (HW7.out.els HO4.out.c) (by have := HP.out; have := Hl5.out; simp only [List.length_append]; omega) HF.out.c).mono ?_
  rintro e w8 ⟨v8, rfl, hby, hgw⟩
  have HW8 := hid (HW7.out.go (hgw.below HW7.out.by_) hby)
  clear hby hgw HW7
  have e2 := HW8.out.box.cell 2 (v := m) rfl
  have HMs := hid (HW8.out.sl HO4.out.m)
  go_wp2_with (first
    | (refine wpList_append_by rfl _ _ rfl rfl HW8.out.by_ rfl HMs.out (by have := HP.out; have := Hl5.out; simp only [List.length_append]; omega) ?_; intro v9 w9 hby hbl; have HW9 := hid (HW8.out.go hbl hby); clear hby hbl e2; have e3 := HW9.out.box.cell 3 (v := r) rfl)
    | fail)
  clear e3 HW8 HMs
  refine (apprl_any HW9.out.by_ HO4.out.r (Nat.le_refl _) HW9.out.below (by have := HP.out; have := Hl5.out; simp only [List.length_append]; omega)).mono ?_
  rintro e w10 ⟨v10, rfl, hby, hbl⟩
  have HW10 := hid (HW9.out.go hbl hby)
  clear hby hbl HW9
  have e4 := HW10.out.box.cell 4 (v := q) rfl
  go_wp2_with fail
  clear e4
  refine (apprl_any HW10.out.by_ HO4.out.q (Nat.le_refl _) HW10.out.below (by have := HP.out; have := Hl5.out; simp only [List.length_append]; omega)).mono ?_
  rintro e w11 ⟨v11, rfl, hby, hbl⟩
  have HW11 := hid (HW10.out.go hbl hby)
  clear hby hbl HW10
  have e5 := HW11.out.box.cell 5 (v := sv) rfl
  go_wp2_with fail
  clear e5
  refine (appsy_any HW11.out.by_ HO4.out.s (Nat.le_refl _) HW11.out.below (fun s hs => (names_of HK.out s hs).1) (by have := HP.out; have := Hl5.out; simp only [List.length_append]; omega)).mono ?_
  rintro e w12 ⟨v12, rfl, hby, hbl⟩
  have HW12 := hid (HW11.out.go hbl hby)
  clear hby hbl HW11
  go_wp2
  go_ret2
  have hsz := HG4.out.size
  refine ⟨v12, rfl, ⟨own_base ?_ hsz, Nat.le_trans hsz HW12.out.by_.le⟩, grown_trans HG4.out (below_is_grown HW12.out.below)⟩
  have := HW12.out.by_.own
  rw [← Hb5.out] at this
  simpa only [bytesP, List.nil_append] using this
/-! ### an empty object -/
def po0 : PO := ⟨[], [], [], [], [], []⟩
def ov0 : OV := ⟨.slice none 0 0, .slice none 0 0, .slice none 0 0, .slice none 0 0, .slice none 0 0, .slice none 0 0⟩
theorem oat0 (w : World) : OAt w ov0 po0 := ⟨.inl ⟨⟨_, _, rfl⟩, rfl⟩, .inl ⟨⟨_, _, rfl⟩, rfl⟩, .inl ⟨⟨_, _, rfl⟩, rfl⟩, .inl ⟨⟨_, _, rfl⟩, rfl, rfl⟩, .inl ⟨⟨_, _, rfl⟩, rfl, rfl⟩, .inl ⟨⟨_, _, rfl⟩, rfl, rfl⟩⟩
theorem ofit0 : OFit po0 := ⟨by simp [po0], by simp [po0], by simp [po0], by simp [po0]⟩
theorem valid0 : validP po0 = none := by decide
theorem bytes0 : (bytesP po0).length = 24 := by decide
end Go.Proofs.YtbjijddpdefhpaaDoor
