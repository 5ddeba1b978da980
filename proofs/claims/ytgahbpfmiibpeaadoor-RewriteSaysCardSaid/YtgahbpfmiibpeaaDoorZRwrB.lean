/- The document's Rewrite (facaderef9): contracts. (Made by gorwr.py.) -/
import Derived.Test.YtgahbpfmiibpeaaDoorZRwr0
import Derived.Test.YtgahbpfmiibpeaaDoorZGRvS
import Derived.Test.YtgahbpfmiibpeaaDoorZGRwD
import Derived.Test.YtgahbpfmiibpeaaDoorZGErr
import Derived.Deep.RegionLaw
namespace Go.Proofs.YtgahbpfmiibpeaaDoor
set_option linter.unusedSimpArgs false
set_option linter.unusedVariables false
open Go.RowKit
theorem zero_fltr (w : World) : (zeroValue 37).run Tryd.prog w = .ok (.agg #[.int .i64 0, .bool false, .int .i64 0]) w := by kernel_rfl
theorem flV_parts (y : Fl) : flV y = .agg #[.int .i64 (fltC y), .bool (fltB y), .int .i64 (fltN y)] := rfl
theorem fltC_pos {y : Fl} (h : y ≠ none) : fltC y ≠ 0 := by
  cases y with
  | none => exact absurd rfl h
  | some z => obtain ⟨c, p⟩ := z; simp only [fltC]; omega
/-- the object's box, the results' boxes -/
structure RB9 (W w : World) (G R F : Nat) (V : OV) (x : PO) : Prop where
  box : RwAt w G 27 #[V.d, V.c, V.m, V.r, V.q, V.s]
  o : OAt w V x
  res : RwAt w R 27 #[.slice none 0 0, .slice none 0 0, .slice none 0 0, .slice none 0 0, .slice none 0 0, .slice none 0 0]
  flt : RwAt w F 37 #[.int .i64 0, .bool false, .int .i64 0]
  g : W.grownBy w none
  ne : W.heap.size ≤ R ∧ W.heap.size ≤ F ∧ R ≠ F
theorem RB9.kept0 {W w w1 : World} {G R F : Nat} {V : OV} {x : PO} (h : RB9 W w G R F V x) (hg : w.grownBy w1 none) : RB9 W w1 G R F V x := ⟨h.box.kept0 hg, h.o.kept0 hg, h.res.kept0 hg, h.flt.kept0 hg, grown_trans h.g hg, h.ne⟩
set_option maxRecDepth 100000 in
set_option maxHeartbeats 100000000 in
theorem rrw_no {W : World} {V : OV} {x : PO} (h : OAt W V x) (hval : ∀ W' : World, W.grownBy W' none → Calls Tryd.prog 32 #[V.agg] W' fun e w' => e = .returned (flV (validP x)) ∧ W'.grownBy w' none) (hv : validP x ≠ none) :
    Calls Tryd.prog 9 #[V.agg] W fun e w' => e = .returned (.tuple #[zeroO, .slice none 0 0, flV (validP x)]) ∧ W.grownBy w' none := by
  obtain ⟨d, c, m, r, q, s⟩ := V
  have HB0 := hid (((RwAt.new W 27 #[d, c, m, r, q, s]).alloc (.cells #[.slice none 0 0, .slice none 0 0, .slice none 0 0, .slice none 0 0, .slice none 0 0, .slice none 0 0] 27)).alloc (.cells #[.int .i64 0, .bool false, .int .i64 0] 37))
  have HR0 := hid ((RwAt.new2 W (.cells #[d, c, m, r, q, s] 27) 27 #[.slice none 0 0, .slice none 0 0, .slice none 0 0, .slice none 0 0, .slice none 0 0, .slice none 0 0]).alloc (.cells #[.int .i64 0, .bool false, .int .i64 0] 37))
  have HF0 := hid (RwAt.new2 (W.alloc (.cells #[d, c, m, r, q, s] 27)) (.cells #[.slice none 0 0, .slice none 0 0, .slice none 0 0, .slice none 0 0, .slice none 0 0, .slice none 0 0] 27) 37 #[.int .i64 0, .bool false, .int .i64 0])
  have hg0 : W.grownBy (((W.alloc (.cells #[d, c, m, r, q, s] 27)).alloc (.cells #[.slice none 0 0, .slice none 0 0, .slice none 0 0, .slice none 0 0, .slice none 0 0, .slice none 0 0] 27)).alloc (.cells #[.int .i64 0, .bool false, .int .i64 0] 37)) none := grown_trans (World.grownBy_alloc _ _ none) (grown_trans (World.grownBy_alloc _ _ none) (World.grownBy_alloc _ _ none))
  have HRB : Hid (RB9 W (((W.alloc (.cells #[d, c, m, r, q, s] 27)).alloc (.cells #[.slice none 0 0, .slice none 0 0, .slice none 0 0, .slice none 0 0, .slice none 0 0, .slice none 0 0] 27)).alloc (.cells #[.int .i64 0, .bool false, .int .i64 0] 37)) W.heap.size (W.heap.size + 1) (W.heap.size + 1 + 1) ⟨d, c, m, r, q, s⟩ x) := hid ⟨HB0.out, h.kept0 hg0, HR0.out, by simpa using HF0.out, hg0, by omega, by omega, by omega⟩
  have Hval := hid hval
  have Hv := hid hv
  clear h hval hg0 hv
  have Hz := zero_fltr
  have Hz6 := zero_obj
  go_enter Tryd.func9, Tryd.ntmps9
  go_upto_region 1 with (fail)
  obtain ⟨F, hF⟩ : ∃ F, W.heap.size + 1 + 1 = F := ⟨_, rfl⟩
  obtain ⟨R, hR⟩ : ∃ R, W.heap.size + 1 = R := ⟨_, rfl⟩
  obtain ⟨G, hG⟩ : ∃ G, W.heap.size = G := ⟨_, rfl⟩
  rw [hF, hR, hG] at HRB
  clear HB0 HR0 HF0
  generalize ((W.alloc (.cells #[d, c, m, r, q, s] 27)).alloc (.cells #[.slice none 0 0, .slice none 0 0, .slice none 0 0, .slice none 0 0, .slice none 0 0, .slice none 0 0] 27)).alloc (.cells #[.int .i64 0, .bool false, .int .i64 0] 37) = w1 at HRB ⊢
  try rw [hF]
  try rw [hR]
  try rw [hG]
  clear hF hR hG
  go_wp2_with (first
    | (refine wpList_load_rw rfl 27 _ rfl rfl HRB.out.box rfl Tryd.underlying27 info_object ?_)
    | fail)
  refine (Hval.out _ HRB.out.g).mono ?_
  rintro e w2 ⟨rfl, hg⟩
  rw [flV_parts]
  have al := World.grownBy_alloc w2 (.cells #[.int .i64 (fltC (validP x)), .bool (fltB (validP x)), .int .i64 (fltN (validP x))] 37) none
  have HV3 := hid (RwAt.new w2 37 #[.int .i64 (fltC (validP x)), .bool (fltB (validP x)), .int .i64 (fltN (validP x))])
  have HB3 := hid ((HRB.out.kept0 hg).kept0 al)
  have hRE := Nat.lt_of_lt_of_le HRB.out.res.lt hg.size
  have hFE := Nat.lt_of_lt_of_le HRB.out.flt.lt hg.size
  clear hg al HRB
  go_upto_region 2 with (fail)
  obtain ⟨E, hE⟩ : ∃ E, w2.heap.size = E := ⟨_, rfl⟩
  rw [hE] at HV3 hRE hFE ⊢
  have HEn := hid (And.intro hRE hFE)
  clear hRE hFE
  clear hE
  generalize w2.alloc (.cells #[.int .i64 (fltC (validP x)), .bool (fltB (validP x)), .int .i64 (fltN (validP x))] 37) = w3 at HV3 HB3 ⊢
  have v0 := HV3.out.cell 0 (v := .int .i64 (fltC (validP x))) rfl
  have hc := fltC_pos Hv.out
  have hcb : (fltC (validP x) != 0) = true := by simpa using hc
  clear hc
  have hb := build_obj0
  go_upto_region 3 with (fail)
  clear v0
  obtain ⟨y0, hy0⟩ : ∃ y, fltC (validP x) = y := ⟨_, rfl⟩
  obtain ⟨y1, hy1⟩ : ∃ y, fltB (validP x) = y := ⟨_, rfl⟩
  obtain ⟨y2, hy2⟩ : ∃ y, fltN (validP x) = y := ⟨_, rfl⟩
  have Hy := hid (And.intro hy0 (And.intro hy1 hy2))
  rw [hy0, hy1, hy2] at HV3
  clear hcb hy0 hy1 hy2
  have r0 := HB3.out.res.cell 0 (v := .slice none 0 0) rfl
  have r1 := HB3.out.res.cell 1 (v := .slice none 0 0) rfl
  have r2 := HB3.out.res.cell 2 (v := .slice none 0 0) rfl
  have r3 := HB3.out.res.cell 3 (v := .slice none 0 0) rfl
  have r4 := HB3.out.res.cell 4 (v := .slice none 0 0) rfl
  have r5 := HB3.out.res.cell 5 (v := .slice none 0 0) rfl
  have rf := fun j => HB3.out.res.free j
  have k0 := HB3.out.flt.cell 0 (v := .int .i64 0) rfl
  have k1 := HB3.out.flt.cell 1 (v := .bool false) rfl
  have k2 := HB3.out.flt.cell 2 (v := .int .i64 0) rfl
  have kf := fun j => HB3.out.flt.free j
  have hRF := HB3.out.ne.2.2
  have hRE : R ≠ E := Nat.ne_of_lt HEn.out.1
  have hFE : F ≠ E := Nat.ne_of_lt HEn.out.2
  have u0 := HV3.out.cell 0 (v := .int .i64 y0) rfl
  have u1 := HV3.out.cell 1 (v := .bool y1) rfl
  have u2 := HV3.out.cell 2 (v := .int .i64 y2) rfl
  have HQr : RwAt ((((((w3.setCell ⟨R, 0, none⟩ (.slice none 0 0)).setCell ⟨R, 1, none⟩ (.slice none 0 0)).setCell ⟨R, 2, none⟩ (.slice none 0 0)).setCell ⟨R, 3, none⟩ (.slice none 0 0)).setCell ⟨R, 4, none⟩ (.slice none 0 0)).setCell ⟨R, 5, none⟩ (.slice none 0 0)) R 27 #[.slice none 0 0, .slice none 0 0, .slice none 0 0, .slice none 0 0, .slice none 0 0, .slice none 0 0] := by simpa using ((((((HB3.out.res.set 0 (.slice none 0 0)).set 1 (.slice none 0 0)).set 2 (.slice none 0 0)).set 3 (.slice none 0 0)).set 4 (.slice none 0 0)).set 5 (.slice none 0 0))
  have HgA : w3.grownBy ((((((w3.setCell ⟨R, 0, none⟩ (.slice none 0 0)).setCell ⟨R, 1, none⟩ (.slice none 0 0)).setCell ⟨R, 2, none⟩ (.slice none 0 0)).setCell ⟨R, 3, none⟩ (.slice none 0 0)).setCell ⟨R, 4, none⟩ (.slice none 0 0)).setCell ⟨R, 5, none⟩ (.slice none 0 0)) (some R) := grown_setCell (grown_setCell (grown_setCell (grown_setCell (grown_setCell (grown_setCell (grown_refl w3 _) _ _) _ _) _ _) _ _) _ _) _ _
  have HQl : RwAt ((((((w3.setCell ⟨R, 0, none⟩ (.slice none 0 0)).setCell ⟨R, 1, none⟩ (.slice none 0 0)).setCell ⟨R, 2, none⟩ (.slice none 0 0)).setCell ⟨R, 3, none⟩ (.slice none 0 0)).setCell ⟨R, 4, none⟩ (.slice none 0 0)).setCell ⟨R, 5, none⟩ (.slice none 0 0)) F 37 #[.int .i64 0, .bool false, .int .i64 0] := HB3.out.flt.kept HgA (by simpa using fun e => hRF e.symm)
  have HgB : ((((((w3.setCell ⟨R, 0, none⟩ (.slice none 0 0)).setCell ⟨R, 1, none⟩ (.slice none 0 0)).setCell ⟨R, 2, none⟩ (.slice none 0 0)).setCell ⟨R, 3, none⟩ (.slice none 0 0)).setCell ⟨R, 4, none⟩ (.slice none 0 0)).setCell ⟨R, 5, none⟩ (.slice none 0 0)).grownBy (((((((((w3.setCell ⟨R, 0, none⟩ (.slice none 0 0)).setCell ⟨R, 1, none⟩ (.slice none 0 0)).setCell ⟨R, 2, none⟩ (.slice none 0 0)).setCell ⟨R, 3, none⟩ (.slice none 0 0)).setCell ⟨R, 4, none⟩ (.slice none 0 0)).setCell ⟨R, 5, none⟩ (.slice none 0 0)).setCell ⟨F, 0, none⟩ (.int .i64 y0)).setCell ⟨F, 1, none⟩ (.bool y1)).setCell ⟨F, 2, none⟩ (.int .i64 y2)) (some F) := grown_setCell (grown_setCell (grown_setCell (grown_refl _ _) _ _) _ _) _ _
  have HQs : RwAt (((((((((w3.setCell ⟨R, 0, none⟩ (.slice none 0 0)).setCell ⟨R, 1, none⟩ (.slice none 0 0)).setCell ⟨R, 2, none⟩ (.slice none 0 0)).setCell ⟨R, 3, none⟩ (.slice none 0 0)).setCell ⟨R, 4, none⟩ (.slice none 0 0)).setCell ⟨R, 5, none⟩ (.slice none 0 0)).setCell ⟨F, 0, none⟩ (.int .i64 y0)).setCell ⟨F, 1, none⟩ (.bool y1)).setCell ⟨F, 2, none⟩ (.int .i64 y2)) R 27 #[.slice none 0 0, .slice none 0 0, .slice none 0 0, .slice none 0 0, .slice none 0 0, .slice none 0 0] := HQr.kept HgB (by simpa using hRF)
  have HQm : RwAt (((((((((w3.setCell ⟨R, 0, none⟩ (.slice none 0 0)).setCell ⟨R, 1, none⟩ (.slice none 0 0)).setCell ⟨R, 2, none⟩ (.slice none 0 0)).setCell ⟨R, 3, none⟩ (.slice none 0 0)).setCell ⟨R, 4, none⟩ (.slice none 0 0)).setCell ⟨R, 5, none⟩ (.slice none 0 0)).setCell ⟨F, 0, none⟩ (.int .i64 y0)).setCell ⟨F, 1, none⟩ (.bool y1)).setCell ⟨F, 2, none⟩ (.int .i64 y2)) F 37 #[.int .i64 y0, .bool y1, .int .i64 y2] := by simpa using ((HQl.set 0 (.int .i64 y0)).set 1 (.bool y1)).set 2 (.int .i64 y2)
  have EG := hid (grown_trans (grown_new' (grown_trans (grown_none (grown_new' (grown_trans (grown_none HB3.out.g) HgA) (fun j hj => by obtain rfl := Option.some.inj hj; exact HB3.out.ne.1))) HgB) (fun j hj => by obtain rfl := Option.some.inj hj; exact HB3.out.ne.2.1)) (grown_drew (grown_refl (((((((((w3.setCell ⟨R, 0, none⟩ (.slice none 0 0)).setCell ⟨R, 1, none⟩ (.slice none 0 0)).setCell ⟨R, 2, none⟩ (.slice none 0 0)).setCell ⟨R, 3, none⟩ (.slice none 0 0)).setCell ⟨R, 4, none⟩ (.slice none 0 0)).setCell ⟨R, 5, none⟩ (.slice none 0 0)).setCell ⟨F, 0, none⟩ (.int .i64 y0)).setCell ⟨F, 1, none⟩ (.bool y1)).setCell ⟨F, 2, none⟩ (.int .i64 y2)) none)))
  have z0 := HQs.cell 0 (v := .slice none 0 0) rfl
  have z1 := HQs.cell 1 (v := .slice none 0 0) rfl
  have z2 := HQs.cell 2 (v := .slice none 0 0) rfl
  have z3 := HQs.cell 3 (v := .slice none 0 0) rfl
  have z4 := HQs.cell 4 (v := .slice none 0 0) rfl
  have z5 := HQs.cell 5 (v := .slice none 0 0) rfl
  have l0 := HQm.cell 0 (v := .int .i64 y0) rfl
  have l1 := HQm.cell 1 (v := .bool y1) rfl
  have l2 := HQm.cell 2 (v := .int .i64 y2) rfl
  clear HQr HgA HQl HgB HQs HQm
  go_region
  all_goals
    go_wp2
    refine bodyPost_ret (v := .tuple #[zeroO, .slice none 0 0, .agg #[.int .i64 y0, .bool y1, .int .i64 y2]]) (by simp [results, zeroO, Tryd.results9, z0, z1, z2, z3, z4, z5, l0, l1, l2, go_sem]) rfl ?_
    exact ⟨by rw [flV_parts, Hy.out.1, Hy.out.2.1, Hy.out.2.2], EG.out⟩
/-- the object's box beside the one that is made -/
structure RL (B w : World) (G : Nat) (V : OV) (X : Nat) (V2 : OV) (y : PO) (v : Value) (l : List Int) : Prop where
  box : RwAt w G 27 #[V.d, V.c, V.m, V.r, V.q, V.s]
  r9 : R9 B w X V2 y v l
theorem RL.kept0 {B w w1 : World} {G X : Nat} {V V2 : OV} {y : PO} {v : Value} {l : List Int} (h : RL B w G V X V2 y v l) (hg : w.grownBy w1 none) : RL B w1 G V X V2 y v l := ⟨h.box.kept0 hg, h.r9.kept0 hg⟩
theorem RL.g {B w : World} {G X : Nat} {V V2 : OV} {y : PO} {v : Value} {l : List Int} (h : RL B w G V X V2 y v l) : B.grownBy w none := h.r9.g
section
variable {B w w5 : World} {G X : Nat} {V V2 : OV} {y : PO} {v : Value} {l : List Int} {g cap N M : Nat}
theorem RL.box5 (h : RL B w G V X V2 y v l) {r : Option Nat} (hg : w.grownBy w5 r) (hr : ∀ j, r = some j → B.heap.size ≤ j) (hG : G < B.heap.size) (i : Nat) (u : Value) : RwAt (w5.setCell ⟨X, i, none⟩ u) G 27 #[V.d, V.c, V.m, V.r, V.q, V.s] :=
  (h.box.kept hg (fun e => by have := hr G e.symm; omega)).other X i u (by have := h.r9.ob.ge1; omega)
theorem RL.addC (h : RL B w G V X V2 y v l) (ys : List Int) (hN : N = y.C.length) (hM : ys.length = M) (hg : w.grownBy w5 V2.c.ownBlock) (hm : V2.c.ownBlock = some g ∨ g = w.heap.size)
    (ho : w5.ownsRow B.heap.size 28 1 (.slice (some ⟨g, 0, none⟩) (N + M) cap) (N + M) (y.C.map (Value.int .u32) ++ ys.map (Value.int .u32))) (hG : G < B.heap.size) :
    RL B (w5.setCell ⟨X, 1, none⟩ (.slice (some ⟨g, 0, none⟩) (N + M) cap)) G V X { V2 with c := .slice (some ⟨g, 0, none⟩) (N + M) cap } { y with C := y.C ++ ys } v l :=
  ⟨h.box5 hg (fun j hj => (h.r9.ob.own.c.lt j hj).1) hG _ _, R9.part h.r9 hg ⟨V2.c, by simp, rfl⟩ rfl rfl hm (OBx.tC h.r9.ob ys hN hM hg hm ho) (fun u hu => by
    simp only [List.mem_cons, List.not_mem_nil, or_false] at hu ⊢
    rcases hu with h | h | h | h | h | h <;> simp [h])⟩
theorem RL.addM (h : RL B w G V X V2 y v l) (ys : List Int) (hN : N = y.M.length) (hM : ys.length = M) (hg : w.grownBy w5 V2.m.ownBlock) (hm : V2.m.ownBlock = some g ∨ g = w.heap.size)
    (ho : w5.ownsRow B.heap.size 5 1 (.slice (some ⟨g, 0, none⟩) (N + M) cap) (N + M) (y.M.map (Value.int .u8) ++ ys.map (Value.int .u8))) (hG : G < B.heap.size) :
    RL B (w5.setCell ⟨X, 2, none⟩ (.slice (some ⟨g, 0, none⟩) (N + M) cap)) G V X { V2 with m := .slice (some ⟨g, 0, none⟩) (N + M) cap } { y with M := y.M ++ ys } v l :=
  ⟨h.box5 hg (fun j hj => (h.r9.ob.own.m.lt j hj).1) hG _ _, R9.part h.r9 hg ⟨V2.m, by simp, rfl⟩ rfl rfl hm (OBx.tM h.r9.ob ys hN hM hg hm ho) (fun u hu => by
    simp only [List.mem_cons, List.not_mem_nil, or_false] at hu ⊢
    rcases hu with h | h | h | h | h | h <;> simp [h])⟩
theorem RL.addQ (h : RL B w G V X V2 y v l) (ys : List Rl) (hN : N = y.Q.length) (hM : ys.length = M) (hg : w.grownBy w5 V2.q.ownBlock) (hm : V2.q.ownBlock = some g ∨ g = w.heap.size)
    (ho : w5.ownsRow B.heap.size 79 4 (.slice (some ⟨g, 0, none⟩) (N + M) cap) (N + M) (rlsC y.Q ++ rlsC ys)) (hG : G < B.heap.size) :
    RL B (w5.setCell ⟨X, 4, none⟩ (.slice (some ⟨g, 0, none⟩) (N + M) cap)) G V X { V2 with q := .slice (some ⟨g, 0, none⟩) (N + M) cap } { y with Q := y.Q ++ ys } v l :=
  ⟨h.box5 hg (fun j hj => (h.r9.ob.own.q.lt j hj).1) hG _ _, R9.part h.r9 hg ⟨V2.q, by simp, rfl⟩ rfl rfl hm (OBx.tQ h.r9.ob ys hN hM hg hm ho) (fun u hu => by
    simp only [List.mem_cons, List.not_mem_nil, or_false] at hu ⊢
    rcases hu with h | h | h | h | h | h <;> simp [h])⟩
theorem RL.addS (h : RL B w G V X V2 y v l) (ys : List Sy) (hN : N = y.S.length) (hM : ys.length = M) (hg : w.grownBy w5 V2.s.ownBlock) (hm : V2.s.ownBlock = some g ∨ g = w.heap.size)
    (ho : w5.ownsRow B.heap.size 72 4 (.slice (some ⟨g, 0, none⟩) (N + M) cap) (N + M) (sysC y.S ++ sysC ys)) (hG : G < B.heap.size) :
    RL B (w5.setCell ⟨X, 5, none⟩ (.slice (some ⟨g, 0, none⟩) (N + M) cap)) G V X { V2 with s := .slice (some ⟨g, 0, none⟩) (N + M) cap } { y with S := y.S ++ ys } v l :=
  ⟨h.box5 hg (fun j hj => (h.r9.ob.own.s.lt j hj).1) hG _ _, R9.part h.r9 hg ⟨V2.s, by simp, rfl⟩ rfl rfl hm (OBx.tS h.r9.ob ys hN hM hg hm ho) (fun u hu => by
    simp only [List.mem_cons, List.not_mem_nil, or_false] at hu ⊢
    rcases hu with h | h | h | h | h | h <;> simp [h])⟩
end
theorem own_low {B w w1 : World} {t : TypeId} {sz n R : Nat} {v : Value} {cs : List Value} (h : w.ownsRow B.heap.size t sz v n cs) (hg : w.grownBy w1 (some R)) (hR : R < B.heap.size) : w1.ownsRow B.heap.size t sz v n cs :=
  h.kept hg (by
    cases e : v.ownBlock with
    | none => exact .inl rfl
    | some b => exact .inr (fun e2 => by have h1 := (h.lt b e).1; have h2 := Option.some.inj e2; omega))
theorem RL.fin {B w w1 w2 : World} {G X R F : Nat} {V V2 : OV} {y : PO} {v : Value} {l : List Int} (h : RL B w G V X V2 y v l) (hg1 : w.grownBy w1 (some R)) (hg2 : w1.grownBy w2 (some F)) (hR : R < B.heap.size) (hF : F < B.heap.size) : OAt w2 V2 y ∧ SlAt w2 .i64 v l :=
  ⟨⟨SlAt.own (own_low (own_low h.r9.ob.own.d hg1 hR) hg2 hF), SlAt.own (own_low (own_low h.r9.ob.own.c hg1 hR) hg2 hF), SlAt.own (own_low (own_low h.r9.ob.own.m hg1 hR) hg2 hF), CsAt.own (own_low (own_low h.r9.ob.own.r hg1 hR) hg2 hF), CsAt.own (own_low (own_low h.r9.ob.own.q hg1 hR) hg2 hF), CsAt.own (own_low (own_low h.r9.ob.own.s hg1 hR) hg2 hF)⟩, SlAt.own (own_low (own_low h.r9.pl hg1 hR) hg2 hF)⟩
/-- what the object that is made begins with: a row of data, a row of relocations -/
theorem r9_new {B w : World} {x : PO} {vd vr : Value} {nD nR : Nat} (hg : B.grownBy w none) (hD : x.D.length = nD) (hR : x.R.length = nR) (hd : w.ownsRow B.heap.size 28 1 vd nD (x.D.map (Value.int .u32))) (hr : w.ownsRow B.heap.size 79 4 vr nR (rlsC x.R)) (ap : Ap vd vr) :
    ∃ X V2, Value.pointer (some ⟨w.heap.size, 0, none⟩) = .pointer (some ⟨X, 0, none⟩) ∧ Hid (R9 B (w.alloc (.cells #[vd, .slice none 0 0, .slice none 0 0, vr, .slice none 0 0, .slice none 0 0] 27)) X V2 ⟨x.D, [], [], x.R, [], []⟩ (.slice none 0 0) []) := by
  have al := World.grownBy_alloc w (.cells #[vd, .slice none 0 0, .slice none 0 0, vr, .slice none 0 0, .slice none 0 0] 27) none
  subst hD
  subst hR
  have nd : vd.ownBlock ≠ some w.heap.size := fun e => by have := (hd.lt _ e).2; omega
  have nr : vr.ownBlock ≠ some w.heap.size := fun e => by have := (hr.lt _ e).2; omega
  refine ⟨w.heap.size, ⟨vd, .slice none 0 0, .slice none 0 0, vr, .slice none 0 0, .slice none 0 0⟩, rfl, hid ⟨⟨grown_below (grown_trans hg al), RwAt.new w _ _, ⟨own_keep0 hd al, World.ownsRow_nil _ _ _ _, World.ownsRow_nil _ _ _ _, own_keep0 hr al, World.ownsRow_nil _ _ _ _, World.ownsRow_nil _ _ _ _, ?_⟩, hg.size, ?_, fun T hT => by cases hT⟩, World.ownsRow_nil _ _ _ _, fun u hu => .inl rfl, by simp [Value.ownBlock]⟩⟩
  · exact unpairs (ap_sym (.inl rfl)) (ap_sym (.inl rfl)) ap (ap_sym (.inl rfl)) (ap_sym (.inl rfl)) (.inl rfl) (.inl rfl) (.inl rfl) (.inl rfl) (.inl rfl) (.inl rfl) (.inl rfl) (ap_sym (.inl rfl)) (ap_sym (.inl rfl)) (.inl rfl)
  · intro u hu
    refine ⟨?_, fun T hT => by cases hT⟩
    simp only [List.mem_cons, List.not_mem_nil, or_false] at hu
    rcases hu with rfl | rfl | rfl | rfl | rfl | rfl
    · exact nd
    · simp [Value.ownBlock]
    · simp [Value.ownBlock]
    · exact nr
    · simp [Value.ownBlock]
    · simp [Value.ownBlock]
theorem r9_set {B w : World} {x : PO} {vd vr : Value} {X nD nR : Nat} (hg : B.grownBy w none) (hX : RwAt w X 27 #[.slice none 0 0, .slice none 0 0, .slice none 0 0, .slice none 0 0, .slice none 0 0, .slice none 0 0]) (hB : B.heap.size ≤ X) (hD : x.D.length = nD) (hR : x.R.length = nR) (hd : w.ownsRow B.heap.size 28 1 vd nD (x.D.map (Value.int .u32))) (hr : w.ownsRow B.heap.size 79 4 vr nR (rlsC x.R)) (ap : Ap vd vr) (nd : vd.ownBlock ≠ some X) (nr : vr.ownBlock ≠ some X) :
    ∃ X2 V2, Value.pointer (some ⟨X, 0, none⟩) = .pointer (some ⟨X2, 0, none⟩) ∧ Hid (R9 B ((((((w.setCell ⟨X, 0, none⟩ vd).setCell ⟨X, 1, none⟩ (.slice none 0 0)).setCell ⟨X, 2, none⟩ (.slice none 0 0)).setCell ⟨X, 3, none⟩ vr).setCell ⟨X, 4, none⟩ (.slice none 0 0)).setCell ⟨X, 5, none⟩ (.slice none 0 0)) X2 V2 ⟨x.D, [], [], x.R, [], []⟩ (.slice none 0 0) []) := by
  subst hD
  subst hR
  have hgs : w.grownBy ((((((w.setCell ⟨X, 0, none⟩ vd).setCell ⟨X, 1, none⟩ (.slice none 0 0)).setCell ⟨X, 2, none⟩ (.slice none 0 0)).setCell ⟨X, 3, none⟩ vr).setCell ⟨X, 4, none⟩ (.slice none 0 0)).setCell ⟨X, 5, none⟩ (.slice none 0 0)) (some X) := grown_setCell (grown_setCell (grown_setCell (grown_setCell (grown_setCell (grown_setCell (grown_refl _ _) _ _) _ _) _ _) _ _) _ _) _ _
  have hXs : RwAt ((((((w.setCell ⟨X, 0, none⟩ vd).setCell ⟨X, 1, none⟩ (.slice none 0 0)).setCell ⟨X, 2, none⟩ (.slice none 0 0)).setCell ⟨X, 3, none⟩ vr).setCell ⟨X, 4, none⟩ (.slice none 0 0)).setCell ⟨X, 5, none⟩ (.slice none 0 0)) X 27 #[vd, .slice none 0 0, .slice none 0 0, vr, .slice none 0 0, .slice none 0 0] := by
    simpa using (((((hX.set 0 vd).set 1 (.slice none 0 0)).set 2 (.slice none 0 0)).set 3 vr).set 4 (.slice none 0 0)).set 5 (.slice none 0 0)
  refine ⟨X, ⟨vd, .slice none 0 0, .slice none 0 0, vr, .slice none 0 0, .slice none 0 0⟩, rfl, hid ⟨⟨(grown_below hg).grown hgs hg.size (fun j hj => by obtain rfl := Option.some.inj hj; exact hB), hXs, ⟨hd.kept hgs (.inr nd), World.ownsRow_nil _ _ _ _, World.ownsRow_nil _ _ _ _, hr.kept hgs (.inr nr), World.ownsRow_nil _ _ _ _, World.ownsRow_nil _ _ _ _, ?_⟩, hB, ?_, fun T hT => by cases hT⟩, World.ownsRow_nil _ _ _ _, fun u hu => .inl rfl, by simp [Value.ownBlock]⟩⟩
  · exact unpairs (ap_sym (.inl rfl)) (ap_sym (.inl rfl)) ap (ap_sym (.inl rfl)) (ap_sym (.inl rfl)) (.inl rfl) (.inl rfl) (.inl rfl) (.inl rfl) (.inl rfl) (.inl rfl) (.inl rfl) (ap_sym (.inl rfl)) (ap_sym (.inl rfl)) (.inl rfl)
  · intro u hu
    refine ⟨?_, fun T hT => by cases hT⟩
    simp only [List.mem_cons, List.not_mem_nil, or_false] at hu
    rcases hu with rfl | rfl | rfl | rfl | rfl | rfl
    · exact nd
    · simp [Value.ownBlock]
    · simp [Value.ownBlock]
    · exact nr
    · simp [Value.ownBlock]
    · simp [Value.ownBlock]
/-- behind Rewrite -/
def RrwAt (W : World) (x : PO) (e : Ending) (w' : World) : Prop := ∃ V' v, e = .returned (.tuple #[V'.agg, v, flV none]) ∧ OAt w' V' (rwO x) ∧ SlAt w' .i64 v (plL x (x.C.length + 1)) ∧ W.grownBy w' none
set_option maxRecDepth 100000 in
set_option maxHeartbeats 100000000 in
theorem rrw_yes {W : World} {V : OV} {x : PO} (h : OAt W V x) (hval : ∀ W' : World, W.grownBy W' none → Calls Tryd.prog 32 #[V.agg] W' fun e w' => e = .returned (flV (validP x)) ∧ W'.grownBy w' none) (hf : OFit x) (hv : validP x = none) (hm : plN x x.C.length ≤ 2048) :
    Calls Tryd.prog 9 #[V.agg] W (RrwAt W x) := by
  obtain ⟨d, c, m, r, q, s⟩ := V
  have HB0 := hid (((RwAt.new W 27 #[d, c, m, r, q, s]).alloc (.cells #[.slice none 0 0, .slice none 0 0, .slice none 0 0, .slice none 0 0, .slice none 0 0, .slice none 0 0] 27)).alloc (.cells #[.int .i64 0, .bool false, .int .i64 0] 37))
  have HR0 := hid ((RwAt.new2 W (.cells #[d, c, m, r, q, s] 27) 27 #[.slice none 0 0, .slice none 0 0, .slice none 0 0, .slice none 0 0, .slice none 0 0, .slice none 0 0]).alloc (.cells #[.int .i64 0, .bool false, .int .i64 0] 37))
  have HF0 := hid (RwAt.new2 (W.alloc (.cells #[d, c, m, r, q, s] 27)) (.cells #[.slice none 0 0, .slice none 0 0, .slice none 0 0, .slice none 0 0, .slice none 0 0, .slice none 0 0] 27) 37 #[.int .i64 0, .bool false, .int .i64 0])
  have hg0 : W.grownBy (((W.alloc (.cells #[d, c, m, r, q, s] 27)).alloc (.cells #[.slice none 0 0, .slice none 0 0, .slice none 0 0, .slice none 0 0, .slice none 0 0, .slice none 0 0] 27)).alloc (.cells #[.int .i64 0, .bool false, .int .i64 0] 37)) none := grown_trans (World.grownBy_alloc _ _ none) (grown_trans (World.grownBy_alloc _ _ none) (World.grownBy_alloc _ _ none))
  have HRB : Hid (RB9 W (((W.alloc (.cells #[d, c, m, r, q, s] 27)).alloc (.cells #[.slice none 0 0, .slice none 0 0, .slice none 0 0, .slice none 0 0, .slice none 0 0, .slice none 0 0] 27)).alloc (.cells #[.int .i64 0, .bool false, .int .i64 0] 37)) W.heap.size (W.heap.size + 1) (W.heap.size + 1 + 1) ⟨d, c, m, r, q, s⟩ x) := hid ⟨HB0.out, h.kept0 hg0, HR0.out, by simpa using HF0.out, hg0, by omega, by omega, by omega⟩
  have Hval := hid hval
  have Hv := hid hv
  have Hok := hid (valid_ok hv)
  have HF := hid hf
  have Hm := hid hm
  clear h hval hg0 hv hf hm
  have Hz := zero_fltr
  have Hz6 := zero_obj
  go_enter Tryd.func9, Tryd.ntmps9
  go_upto_region 1 with (fail)
  obtain ⟨F, hF⟩ : ∃ F, W.heap.size + 1 + 1 = F := ⟨_, rfl⟩
  obtain ⟨R, hR⟩ : ∃ R, W.heap.size + 1 = R := ⟨_, rfl⟩
  obtain ⟨G, hG⟩ : ∃ G, W.heap.size = G := ⟨_, rfl⟩
  rw [hF, hR, hG] at HRB
  clear HB0 HR0 HF0
  generalize ((W.alloc (.cells #[d, c, m, r, q, s] 27)).alloc (.cells #[.slice none 0 0, .slice none 0 0, .slice none 0 0, .slice none 0 0, .slice none 0 0, .slice none 0 0] 27)).alloc (.cells #[.int .i64 0, .bool false, .int .i64 0] 37) = w1 at HRB ⊢
  try rw [hF]
  try rw [hR]
  try rw [hG]
  clear hF hR hG
  go_wp2_with (first
    | (refine wpList_load_rw rfl 27 _ rfl rfl HRB.out.box rfl Tryd.underlying27 info_object ?_)
    | fail)
  refine (Hval.out _ HRB.out.g).mono ?_
  rintro e w2 ⟨rfl, hg⟩
  rw [flV_parts]
  have al := World.grownBy_alloc w2 (.cells #[.int .i64 (fltC (validP x)), .bool (fltB (validP x)), .int .i64 (fltN (validP x))] 37) none
  have HV3 := hid (RwAt.new w2 37 #[.int .i64 (fltC (validP x)), .bool (fltB (validP x)), .int .i64 (fltN (validP x))])
  have HB3 := hid ((HRB.out.kept0 hg).kept0 al)
  have hRE := Nat.lt_of_lt_of_le HRB.out.res.lt hg.size
  have hFE := Nat.lt_of_lt_of_le HRB.out.flt.lt hg.size
  clear hg al HRB
  go_upto_region 2 with (fail)
  obtain ⟨E, hE⟩ : ∃ E, w2.heap.size = E := ⟨_, rfl⟩
  rw [hE] at HV3 hRE hFE ⊢
  have HEn := hid (And.intro hRE hFE)
  clear hRE hFE
  clear hE
  generalize w2.alloc (.cells #[.int .i64 (fltC (validP x)), .bool (fltB (validP x)), .int .i64 (fltN (validP x))] 37) = w3 at HV3 HB3 ⊢
  have v0 := HV3.out.cell 0 (v := .int .i64 (fltC (validP x))) rfl
  rw [Hv.out] at HV3 v0
  have HM := hid (many_of Hok.out)
  go_upto_region 4 with (fail)
  clear v0
  obtain ⟨dp, dc, hdv⟩ := HB3.out.o.d.len'
  obtain ⟨rp, rc, hrv⟩ := HB3.out.o.r.len
  simp only at hdv hrv
  obtain ⟨nD, hnD⟩ : ∃ n, x.D.length = n := ⟨_, rfl⟩
  obtain ⟨nR, hnR⟩ : ∃ n, x.R.length = n := ⟨_, rfl⟩
  rw [hnD] at hdv
  rw [hnR] at hrv
  have HnD := hid hnD
  have HnR := hid hnR
  subst hdv; subst hrv
  clear hnD hnR
  go_cut [6] from 23 to 29 (fun u6 wz => ∃ X V2, u6 = .pointer (some ⟨X, 0, none⟩) ∧ Hid (R9 w3 wz X V2 ⟨x.D, [], [], x.R, [], []⟩ (.slice none 0 0) []))
  case first =>
    focus
      rename_i hJ0 hJ
      have dr0 := grown_drew (grown_refl w3 none)
      have dr1 := grown_trans (World.grownBy_alloc w3 (.cells #[.slice none 0 0, .slice none 0 0, .slice none 0 0, .slice none 0 0, .slice none 0 0, .slice none 0 0] 27) none) (grown_drew (grown_refl (w3.alloc (.cells #[.slice none 0 0, .slice none 0 0, .slice none 0 0, .slice none 0 0, .slice none 0 0, .slice none 0 0] 27)) none))
      have hz6 := zero_obj
      have HQ1 : Hid (∀ W' : World, w3.grownBy W' none → Calls Tryd.prog 33 #[.slice dp nD dc] W' fun e w' => ∃ v, e = .returned v ∧ w'.ownsRow W'.heap.size 28 1 v nD (x.D.map (Value.int .u32)) ∧ W'.grownBy w' none) := hid (fun W' hW => by
        have := rwords_any (HB3.out.o.d.kept0 hW) (by have := HM.out; omega)
        rwa [HnD.out] at this)
      have HQ2 : Hid (∀ W' : World, w3.grownBy W' none → Calls Tryd.prog 34 #[.slice rp nR rc] W' fun e w' => ∃ v, e = .returned v ∧ w'.ownsRow W'.heap.size 79 4 v nR (rlsC x.R) ∧ W'.grownBy w' none) := hid (fun W' hW => by
        have := rrelocs_any (HB3.out.o.r.kept0 hW) (by have := HM.out; omega)
        rwa [HnR.out] at this)
      have p0 := HB3.out.box.cell 0 (v := .slice dp nD dc) rfl
      have p3 := HB3.out.box.cell 3 (v := .slice rp nR rc) rfl
      have q0 := (HB3.out.box.kept0 dr1).cell 0 (v := .slice dp nD dc) rfl
      have q3 := (HB3.out.box.kept0 dr1).cell 3 (v := .slice rp nR rc) rfl
      have HX1 := hid ((RwAt.new w3 27 #[.slice none 0 0, .slice none 0 0, .slice none 0 0, .slice none 0 0, .slice none 0 0, .slice none 0 0]).kept0 (grown_drew (grown_refl (w3.alloc (.cells #[.slice none 0 0, .slice none 0 0, .slice none 0 0, .slice none 0 0, .slice none 0 0, .slice none 0 0] 27)) none)))
      go_region_law (first
        | (go_simp
           go_at_call 33
           refine (HQ1.out _ (by first | exact dr0 | exact dr1)).mono ?_
           rintro e w5 ⟨vd, rfl, ho, hg⟩
           obtain ⟨d5p, d5c, rfl⟩ := own_slice ho
           have hga : w3.grownBy w5 none := by first | exact grown_trans dr1 hg | exact grown_trans dr0 hg
           have HGd := hid hga
           have HOd := hid ho
           have HBd := hid (own_base ho (B := w3.heap.size) (by first | exact dr0.size | exact dr1.size))
           try (have HXd := hid (HX1.out.kept0 hg); have HNe : Hid ((Value.slice d5p nD d5c).ownBlock ≠ some w3.heap.size) := hid (fun e => by have h1 := (ho.lt _ e).1; first | (simp at h1; done) | (simp at h1; omega)))
           have f0 := (HB3.out.box.kept0 hga).cell 0 (v := .slice dp nD dc) rfl
           have f3 := (HB3.out.box.kept0 hga).cell 3 (v := .slice rp nR rc) rfl
           have h0 := (HB3.out.box.kept0 (grown_trans hga (World.grownBy_alloc w5 (.cells #[.slice none 0 0, .slice none 0 0, .slice none 0 0, .slice none 0 0, .slice none 0 0, .slice none 0 0] 27) none))).cell 0 (v := .slice dp nD dc) rfl
           have h3 := (HB3.out.box.kept0 (grown_trans hga (World.grownBy_alloc w5 (.cells #[.slice none 0 0, .slice none 0 0, .slice none 0 0, .slice none 0 0, .slice none 0 0, .slice none 0 0] 27) none))).cell 3 (v := .slice rp nR rc) rfl
           clear ho hg hga)
        | (go_simp
           go_at_call 34
           refine (HQ2.out _ (by first | exact dr0 | exact dr1)).mono ?_
           rintro e w5 ⟨vr, rfl, ho, hg⟩
           obtain ⟨r5p, r5c, rfl⟩ := own_slice ho
           have hga : w3.grownBy w5 none := by first | exact grown_trans dr1 hg | exact grown_trans dr0 hg
           have HGr := hid hga
           have HOr := hid ho
           have HBr := hid (own_base ho (B := w3.heap.size) (by first | exact dr0.size | exact dr1.size))
           try (have HXr := hid (HX1.out.kept0 hg); have HNe : Hid ((Value.slice r5p nR r5c).ownBlock ≠ some w3.heap.size) := hid (fun e => by have h1 := (ho.lt _ e).1; first | (simp at h1; done) | (simp at h1; omega)))
           have f0 := (HB3.out.box.kept0 hga).cell 0 (v := .slice dp nD dc) rfl
           have f3 := (HB3.out.box.kept0 hga).cell 3 (v := .slice rp nR rc) rfl
           have h0 := (HB3.out.box.kept0 (grown_trans hga (World.grownBy_alloc w5 (.cells #[.slice none 0 0, .slice none 0 0, .slice none 0 0, .slice none 0 0, .slice none 0 0, .slice none 0 0] 27) none))).cell 0 (v := .slice dp nD dc) rfl
           have h3 := (HB3.out.box.kept0 (grown_trans hga (World.grownBy_alloc w5 (.cells #[.slice none 0 0, .slice none 0 0, .slice none 0 0, .slice none 0 0, .slice none 0 0, .slice none 0 0] 27) none))).cell 3 (v := .slice rp nR rc) rfl
           clear ho hg hga)
        | (go_simp
           go_at_call 34
           refine (HQ2.out _ (by first | exact HGd.out | exact grown_trans HGd.out (World.grownBy_alloc _ _ none))).mono ?_
           rintro e w6 ⟨vr, rfl, ho, hg⟩
           obtain ⟨r6p, r6c, rfl⟩ := own_slice ho
           have hg5 : w5.grownBy w6 none := by first | exact hg | exact grown_trans (World.grownBy_alloc _ _ none) hg
           have HG6 := hid (grown_trans HGd.out hg5)
           have HOd6 := hid (own_keep0 HBd.out hg5)
           have HOr6 := hid (own_base ho (B := w3.heap.size) (by first | exact HGd.out.size | exact (grown_trans HGd.out (World.grownBy_alloc w5 (.cells #[.slice none 0 0, .slice none 0 0, .slice none 0 0, .slice none 0 0, .slice none 0 0, .slice none 0 0] 27) none)).size))
           have HAp := hid (own_apart HOd.out ho (by first | exact Nat.le_refl _ | exact (World.grownBy_alloc w5 (.cells #[.slice none 0 0, .slice none 0 0, .slice none 0 0, .slice none 0 0, .slice none 0 0, .slice none 0 0] 27) none).size))
           first
             | (have HXc := hid (HXd.out.kept0 hg5)
                have HN1 := hid HNe.out
                have HN2 : Hid ((Value.slice r6p nR r6c).ownBlock ≠ some w3.heap.size) := hid (fun e => by have h1 := (ho.lt _ e).1; have h2 := HXd.out.lt; omega))
             | (have HXc := hid (RwAt.kept0 (RwAt.new w5 27 #[.slice none 0 0, .slice none 0 0, .slice none 0 0, .slice none 0 0, .slice none 0 0, .slice none 0 0]) hg)
                have HN1 : Hid ((Value.slice d5p nD d5c).ownBlock ≠ some w5.heap.size) := hid (fun e => by have h1 := (HOd.out.lt _ e).2; omega)
                have HN2 : Hid ((Value.slice r6p nR r6c).ownBlock ≠ some w5.heap.size) := hid (fun e => by have h1 := (ho.lt _ e).1; first | (simp at h1; done) | (simp at h1; omega)))
             | skip
           try have xc0 := HXc.out.cell 0 (v := .slice none 0 0) rfl
           try have xc1 := HXc.out.cell 1 (v := .slice none 0 0) rfl
           try have xc2 := HXc.out.cell 2 (v := .slice none 0 0) rfl
           try have xc3 := HXc.out.cell 3 (v := .slice none 0 0) rfl
           try have xc4 := HXc.out.cell 4 (v := .slice none 0 0) rfl
           try have xc5 := HXc.out.cell 5 (v := .slice none 0 0) rfl
           try have xf := fun j => HXc.out.free j
           clear ho hg hg5)
        | (go_simp
           go_at_call 33
           refine (HQ1.out _ (by first | exact HGr.out | exact grown_trans HGr.out (World.grownBy_alloc _ _ none))).mono ?_
           rintro e w6 ⟨vd, rfl, ho, hg⟩
           obtain ⟨d6p, d6c, rfl⟩ := own_slice ho
           have hg5 : w5.grownBy w6 none := by first | exact hg | exact grown_trans (World.grownBy_alloc _ _ none) hg
           have HG6 := hid (grown_trans HGr.out hg5)
           have HOr6 := hid (own_keep0 HBr.out hg5)
           have HOd6 := hid (own_base ho (B := w3.heap.size) (by first | exact HGr.out.size | exact (grown_trans HGr.out (World.grownBy_alloc w5 (.cells #[.slice none 0 0, .slice none 0 0, .slice none 0 0, .slice none 0 0, .slice none 0 0, .slice none 0 0] 27) none)).size))
           have HAp := hid (own_apart HOr.out ho (by first | exact Nat.le_refl _ | exact (World.grownBy_alloc w5 (.cells #[.slice none 0 0, .slice none 0 0, .slice none 0 0, .slice none 0 0, .slice none 0 0, .slice none 0 0] 27) none).size))
           first
             | (have HXc := hid (HXr.out.kept0 hg5)
                have HN1 := hid HNe.out
                have HN2 : Hid ((Value.slice d6p nD d6c).ownBlock ≠ some w3.heap.size) := hid (fun e => by have h1 := (ho.lt _ e).1; have h2 := HXr.out.lt; omega))
             | (have HXc := hid (RwAt.kept0 (RwAt.new w5 27 #[.slice none 0 0, .slice none 0 0, .slice none 0 0, .slice none 0 0, .slice none 0 0, .slice none 0 0]) hg)
                have HN1 : Hid ((Value.slice r5p nR r5c).ownBlock ≠ some w5.heap.size) := hid (fun e => by have h1 := (HOr.out.lt _ e).2; omega)
                have HN2 : Hid ((Value.slice d6p nD d6c).ownBlock ≠ some w5.heap.size) := hid (fun e => by have h1 := (ho.lt _ e).1; first | (simp at h1; done) | (simp at h1; omega)))
             | skip
           try have xc0 := HXc.out.cell 0 (v := .slice none 0 0) rfl
           try have xc1 := HXc.out.cell 1 (v := .slice none 0 0) rfl
           try have xc2 := HXc.out.cell 2 (v := .slice none 0 0) rfl
           try have xc3 := HXc.out.cell 3 (v := .slice none 0 0) rfl
           try have xc4 := HXc.out.cell 4 (v := .slice none 0 0) rfl
           try have xc5 := HXc.out.cell 5 (v := .slice none 0 0) rfl
           try have xf := fun j => HXc.out.free j
           clear ho hg hg5)
        | fail)
      all_goals
        go_simp
        refine hJ _ _ (Met.intro (hJ0 _ _ ?_))
        (repeat apply Exists.intro)
        refine ⟨?_, rfl⟩
        first
          | (have hnm := HOd.out
             clear hnm
             first
               | (have hx := HXc.out
                  have hq := r9_set HG6.out hx (by first | exact Nat.le_refl _ | exact HGd.out.size) HnD.out HnR.out HOd6.out HOr6.out HAp.out HN1.out HN2.out
                  exact hq)
               | (have hq := r9_new HG6.out HnD.out HnR.out HOd6.out HOr6.out HAp.out
                  exact hq))
          | (have hnm := HOr.out
             clear hnm
             first
               | (have hx := HXc.out
                  have hq := r9_set HG6.out hx (by first | exact Nat.le_refl _ | exact HGr.out.size) HnD.out HnR.out HOd6.out HOr6.out (ap_sym HAp.out) HN2.out HN1.out
                  exact hq)
               | (have hq := r9_new HG6.out HnD.out HnR.out HOd6.out HOr6.out (ap_sym HAp.out)
                  exact hq))
  case rest =>
    obtain ⟨X, V2, rfl, HR9⟩ := hcut
    rename World => w5
    obtain ⟨cp, cc, hcv⟩ := HB3.out.o.c.len'
    obtain ⟨mp, mc, hmv⟩ := HB3.out.o.m.len'
    simp only at hcv hmv
    rw [Hok.out.len] at hmv
    obtain ⟨n, hne⟩ : ∃ n, x.C.length = n := ⟨_, rfl⟩
    have Hne := hid hne
    rw [hne] at hcv hmv
    subst hcv; subst hmv
    have hmany := HM.out.2.1
    rw [hne] at hmany
    have n0 : (0 : Int) ≤ (n : Int) := by omega
    have n1 : (n : Int) ≤ 2048 := by omega
    have Hn : Hid (n ≤ 1000000) := hid (by omega)
    have Hn2 : Hid (n ≤ 2048) := hid hmany
    have HO := hid HB3.out.o
    have HGlt : Hid (G < w3.heap.size) := hid HB3.out.box.lt
    have HR0 : Hid (RL w3 w5 G ⟨.slice dp nD dc, .slice cp n cc, .slice mp n mc, .slice rp nR rc, q, s⟩ X V2 ⟨x.D, rwC x 0, rwM x 0, x.R, [], []⟩ (.slice none 0 0) (plL x 0)) := hid ⟨HB3.out.box.kept0 HR9.out.g, HR9.out⟩
    clear hne hmany HR9
    go_wp2
    go_loopw [7, 8] (fun v i wr => ∃ k : Nat, ∃ V' : OV, k ≤ n ∧ i = .int .i64 k ∧ Hid (RL w3 wr G ⟨.slice dp nD dc, .slice cp n cc, .slice mp n mc, .slice rp nR rc, q, s⟩ X V' ⟨x.D, rwC x k, rwM x k, x.R, [], []⟩ v (plL x k))) (fun _ i _ => n - (intOf i).toNat)
    case atStart => exact ⟨0, _, Nat.zero_le _, rfl, HR0⟩
    case round =>
      obtain ⟨k, ⟨d3, c3, m3, r3, qq3, s3⟩, hk, rfl, HR⟩ := hrel
      have k0 : (0 : Int) ≤ (k : Int) := by omega
      have e1 := HR.out.box.cell 1 (v := .slice cp n cc) rfl
      by_cases hlt : k < n
      · have kn : (k : Int) < (n : Int) := by omega
        have Hlt := hid hlt
        obtain ⟨y, hy⟩ : ∃ y, x.C[k]? = some y := ⟨_, List.getElem?_eq_getElem (by rw [Hne.out]; exact hlt)⟩
        obtain ⟨mk, hm⟩ : ∃ mk, x.M[k]? = some mk := ⟨_, List.getElem?_eq_getElem (by rw [Hok.out.len, Hne.out]; exact hlt)⟩
        have Hy := hid hy
        have Hyd : Hid (x.C.getD k 0 = y) := hid (by rw [List.getD_eq_getElem?_getD, hy]; rfl)
        have Hyr := hid (HF.out.c y (List.mem_of_getElem? hy))
        have Hmap : Hid (mapN x k = mk) := hid (by unfold mapN; rw [List.getD_eq_getElem?_getD, hm]; rfl)
        have Hmd : Hid (x.M.getD k 0 = mk) := hid (by rw [List.getD_eq_getElem?_getD, hm]; rfl)
        have Hm := hid hm
        obtain ⟨vp, vc, hv⟩ := own_slice HR.out.r9.pl
        rw [plL_length] at hv
        subst hv
        obtain ⟨xp, xc, hc3⟩ := own_slice HR.out.r9.ob.own.c
        simp only at hc3
        rw [rwC_length] at hc3
        obtain ⟨P, hP⟩ : ∃ P, plN x k = P := ⟨_, rfl⟩
        rw [hP] at hc3
        subst hc3
        have HP := hid hP
        have HPn : Hid (P ≤ 4096) := hid (by have := (pl_le x k).2; have := Hn2.out; omega)
        have ex1 := HR.out.r9.ob.g1.cell 1 (v := .slice xp P xc) rfl
        obtain ⟨i, hi, hz0, hz1, hz2⟩ := info_int
        have Hi := hid hi
        have Hz0 := hid hz0
        have Hz1 := hid hz1
        have Hz2 := hid hz2
        have HRa := hid (HR.out.kept0 (World.grownBy_alloc wr (.cells #[.int .i64 P] 3) none))
        have HOw := HRa.out.r9.pl
        rw [plL_length] at HOw
        have HOw := hid HOw
        have HN : Hid (∀ j u, [Value.int .i64 (P : Int)][j]? = some u → (wr.alloc (.cells #[.int .i64 P] 3)).cell? ((⟨wr.heap.size, 0, none⟩ : Addr).add j) = some u) := hid (World.news_of_block (heap_alloc_new wr _))
        clear hi hz0 hz1 hz2 hP hy hm hlt
        go_upto_region 10 with (first
          | (refine wpList_append_lies _ rfl _ _ 31 rfl w3.heap.size 3 i _ 1 8 Tryd.underlying31 Hi.out Hz0.out Hz1.out Hz2.out rfl (by decide) _ k _ rfl HOw.out ⟨wr.heap.size, 0, none⟩ 1 1 _ rfl rfl HN.out (by simp [Value.oneCell']) (by decide) (by have := Hlt.out; have := Hn2.out; unfold maxLen; omega) (by have := Hlt.out; have := Hn2.out; omega) HRa.out.g.size _ rfl ?_
             intro g cap w9 hown hgrow hat hlt2
             have hgrow0 : (wr.alloc (.cells #[.int .i64 P] 3)).grownBy w9 (Value.slice vp k vc).ownBlock := hgrow
             have hat0 : (Value.slice vp k vc).ownBlock = some g ∨ g = (wr.alloc (.cells #[.int .i64 P] 3)).heap.size := hat
             have HOn := hid hown
             have HGn := hid hgrow0
             have HAt := hid hat0
             clear hown hgrow hat hlt2 hgrow0 hat0)
          | fail)
        have HRn : Hid (RL w3 w9 G ⟨.slice dp nD dc, .slice cp n cc, .slice mp n mc, .slice rp nR rc, q, s⟩ X ⟨d3, .slice xp P xc, m3, r3, qq3, s3⟩ ⟨x.D, rwC x k, rwM x k, x.R, [], []⟩ (.slice (some ⟨g, 0, none⟩) (k + 1) cap) (plL x (k + 1))) := hid ⟨HRa.out.box.kept HGn.out (fun e => by
            have h1 := (HOw.out.lt G (by first | exact e | exact e.symm)).1
            have h2 := HGlt.out
            omega), by
          have h := HRa.out.r9.addP (P : Int) HGn.out HAt.out (by rw [plL_length]; exact HOn.out)
          rw [plL_length] at h
          rw [plL_succ, HP.out]
          exact h⟩
        clear HR HRa HOw HN HOn HGn HAt ex1 e1 Hi Hz0 Hz1 Hz2
        have HR := hid HRn.out
        clear HRn Hz Hz6 HV3 HEn HM HnD HnR Hv
        obtain ⟨j, hj⟩ : ∃ j, secN x k = j := ⟨_, rfl⟩
        obtain ⟨bi, hbi⟩ : ∃ bi, wIns x k = bi := ⟨_, rfl⟩
        obtain ⟨q0, q1, q2, q3, q4, hof, hq0⟩ := ofV_word Hyd.out
        rw [hj, hbi] at hof
        rw [hbi] at hq0
        have Hq0 := hid hq0
        have Hbi := hid hbi
        have Hjr : Hid (0 ≤ j ∧ j < 4294967296) := hid (by rw [← hj]; exact sec9_fit HF.out k)
        have dr := grown_drew (grown_refl w9 none)
        have HRd := hid (HR.out.kept0 dr)
        have HQ1 : Hid (∀ W' : World, w3.grownBy W' none → Calls Tryd.prog 35 #[.agg #[.slice dp nD dc, .slice cp n cc, .slice mp n mc, .slice rp nR rc, q, s], .int .i64 k] W' fun e w' => e = .returned (.int .u32 j) ∧ W'.grownBy w' none) := hid (fun W' hW => by
          rw [← hj]
          exact second_any (V := ⟨.slice dp nD dc, .slice cp n cc, .slice mp n mc, .slice rp nR rc, q, s⟩) (HO.out.kept0 hW) (by rw [Hne.out]; exact Hlt.out) (by rw [Hne.out]; exact Hn.out))
        have HQ2 : Hid (∀ W' : World, Calls Tryd.prog 21 #[.int .u32 y, .int .u32 j] W' fun e w' => e = .returned (.tuple #[.agg #[.int .i64 q0, .int .i64 q1, .int .i64 q2, .int .i64 q3, .int .u32 q4], .bool bi]) ∧ W'.grownBy w' none) := hid (fun W' => by
          rw [← hof]
          exact rof_any y j W' Hyr.out.1 Hyr.out.2)
        have Hof := hid hof
        have Hj := hid hj
        clear hj hbi hof hq0 dr
        obtain ⟨bc, oc, c', hvc, hbc, hcc⟩ := (HO.out.kept0 HRd.out.g).c.at_ (by rw [Hne.out]; have := Hlt.out; omega)
        simp only [Value.slice.injEq] at hvc
        obtain ⟨rfl, -, -⟩ := hvc
        have eyd := hcc k y Hy.out
        have HEy := hid (And.intro hbc eyd)
        have g0 := HRd.out.box.cell 0 (v := .slice dp nD dc) rfl
        have g1 := HRd.out.box.cell 1 (v := .slice (some ⟨bc, oc, none⟩) n cc) rfl
        have g2 := HRd.out.box.cell 2 (v := .slice mp n mc) rfl
        have g3 := HRd.out.box.cell 3 (v := .slice rp nR rc) rfl
        have g4 := HRd.out.box.cell 4 (v := q) rfl
        have g5 := HRd.out.box.cell 5 (v := s) rfl
        clear hbc hcc
        go_cut [9, 10] from 43 to 54 (fun u8 u9 wz => ∃ X, u8 = .pointer (some ⟨X, 0, none⟩) ∧ u9 = .bool bi ∧ Hid (RwAt wz X 43 #[.int .i64 q0, .int .i64 q1, .int .i64 q2, .int .i64 q3, .int .u32 q4] ∧ w9.drew.grownBy wz none))
        case first =>
          rename_i hJ0 hJ
          have Hz9 := zero_ins9
          have HZr := hid (RwAt.new w9.drew 43 #[.int .i64 0, .int .i64 0, .int .i64 0, .int .i64 0, .int .u32 0])
          have HRz := hid (HR.out.kept0 (World.grownBy_alloc w9 (.cells #[.int .i64 0, .int .i64 0, .int .i64 0, .int .i64 0, .int .u32 0] 43) none))
          have ga0 : (w9.alloc (.cells #[.int .i64 0, .int .i64 0, .int .i64 0, .int .i64 0, .int .u32 0] 43)).cell? ⟨G, 0, none⟩ = some (.slice dp nD dc) := HRz.out.box.cell 0 (v := .slice dp nD dc) rfl
          have ga1 : (w9.alloc (.cells #[.int .i64 0, .int .i64 0, .int .i64 0, .int .i64 0, .int .u32 0] 43)).cell? ⟨G, 1, none⟩ = some (.slice (some ⟨bc, oc, none⟩) n cc) := HRz.out.box.cell 1 (v := .slice (some ⟨bc, oc, none⟩) n cc) rfl
          have ga2 : (w9.alloc (.cells #[.int .i64 0, .int .i64 0, .int .i64 0, .int .i64 0, .int .u32 0] 43)).cell? ⟨G, 2, none⟩ = some (.slice mp n mc) := HRz.out.box.cell 2 (v := .slice mp n mc) rfl
          have ga3 : (w9.alloc (.cells #[.int .i64 0, .int .i64 0, .int .i64 0, .int .i64 0, .int .u32 0] 43)).cell? ⟨G, 3, none⟩ = some (.slice rp nR rc) := HRz.out.box.cell 3 (v := .slice rp nR rc) rfl
          have ga4 : (w9.alloc (.cells #[.int .i64 0, .int .i64 0, .int .i64 0, .int .i64 0, .int .u32 0] 43)).cell? ⟨G, 4, none⟩ = some (q) := HRz.out.box.cell 4 (v := q) rfl
          have ga5 : (w9.alloc (.cells #[.int .i64 0, .int .i64 0, .int .i64 0, .int .i64 0, .int .u32 0] 43)).cell? ⟨G, 5, none⟩ = some (s) := HRz.out.box.cell 5 (v := s) rfl
          have eyz : (w9.alloc (.cells #[.int .i64 0, .int .i64 0, .int .i64 0, .int .i64 0, .int .u32 0] 43)).cell? ⟨bc, oc + k, none⟩ = some (.int .u32 y) := (grown_cell (World.grownBy_alloc w9 (.cells #[.int .i64 0, .int .i64 0, .int .i64 0, .int .i64 0, .int .u32 0] 43) none) HEy.out.1 (by simp)).trans HEy.out.2
          go_region_law (first
            | (go_simp
               go_at_call 35
               refine (HQ1.out _ (by first | exact HRd.out.g | exact grown_trans HRd.out.g (World.grownBy_alloc _ _ none))).mono ?_
               rintro e w5 ⟨rfl, hg⟩
               have hg2 : w9.drew.grownBy w5 none := by first | exact hg | exact grown_trans (World.grownBy_alloc _ _ none) hg
               have HG5 := hid hg2
               have e15 := (HRd.out.kept0 hg2).box.cell 1 (v := .slice (some ⟨bc, oc, none⟩) n cc) rfl
               have ey5 : w5.cell? ⟨bc, oc + k, none⟩ = some (.int .u32 y) := (grown_cell hg2 HEy.out.1 (by simp)).trans HEy.out.2
               try have HX5 : Hid (RwAt w5 w9.heap.size 43 #[.int .i64 0, .int .i64 0, .int .i64 0, .int .i64 0, .int .u32 0]) := hid ((RwAt.new w9.drew 43 #[.int .i64 0, .int .i64 0, .int .i64 0, .int .i64 0, .int .u32 0]).kept0 hg)
               try have HX5 : Hid (RwAt w5 w9.heap.size 43 #[.int .i64 0, .int .i64 0, .int .i64 0, .int .i64 0, .int .u32 0]) := hid (HZr.out.kept0 hg)
               have e15z : (w5.alloc (.cells #[.int .i64 0, .int .i64 0, .int .i64 0, .int .i64 0, .int .u32 0] 43)).cell? ⟨G, 1, none⟩ = some (.slice (some ⟨bc, oc, none⟩) n cc) := (HRd.out.kept0 (grown_trans hg2 (World.grownBy_alloc w5 (.cells #[.int .i64 0, .int .i64 0, .int .i64 0, .int .i64 0, .int .u32 0] 43) none))).box.cell 1 (v := .slice (some ⟨bc, oc, none⟩) n cc) rfl
               have ey5z : (w5.alloc (.cells #[.int .i64 0, .int .i64 0, .int .i64 0, .int .i64 0, .int .u32 0] 43)).cell? ⟨bc, oc + k, none⟩ = some (.int .u32 y) := (grown_cell (grown_trans hg2 (World.grownBy_alloc w5 (.cells #[.int .i64 0, .int .i64 0, .int .i64 0, .int .i64 0, .int .u32 0] 43) none)) HEy.out.1 (by simp)).trans HEy.out.2
               clear hg hg2)
            | (go_simp
               go_at_call 21
               refine (HQ2.out _).mono ?_
               rintro e w6 ⟨rfl, hg⟩
               have hg2 : w5.grownBy w6 none := by first | exact hg | exact grown_trans (World.grownBy_alloc _ _ none) hg
               have HG6 := hid (grown_trans HG5.out hg2)
               try have HX6 := hid ((RwAt.new w5 43 #[.int .i64 0, .int .i64 0, .int .i64 0, .int .i64 0, .int .u32 0]).kept0 hg)
               try have HX6 := hid (HX5.out.kept0 hg2)
               try have x0 := HX6.out.cell 0 (v := .int .i64 0) rfl
               try have z0 := HX6.out.free 0
               try have x1 := HX6.out.cell 1 (v := .int .i64 0) rfl
               try have z1 := HX6.out.free 1
               try have x2 := HX6.out.cell 2 (v := .int .i64 0) rfl
               try have z2 := HX6.out.free 2
               try have x3 := HX6.out.cell 3 (v := .int .i64 0) rfl
               try have z3 := HX6.out.free 3
               try have x4 := HX6.out.cell 4 (v := .int .u32 0) rfl
               try have z4 := HX6.out.free 4
               clear hg hg2)
            | fail)
          all_goals
            go_simp
            refine hJ _ _ (Met.intro (hJ0 _ _ ?_))
            (repeat apply Exists.intro)
            refine ⟨?_, rfl⟩
            first
              | exact cut_set q0 q1 q2 q3 q4 bi HX6.out HG6.out (by first | exact HG5.out.size | exact Nat.le_refl _)
              | exact cut_new q0 q1 q2 q3 q4 bi HG6.out
        case rest =>
          obtain ⟨X9, rfl, rfl, HXX⟩ := hcut
          rename World => wz
          have HRx := hid (HRd.out.kept0 HXX.out.2)
          have HX := hid HXX.out.1
          clear HXX HRd HQ1 HQ2 g0 g1 g2 g3 g4 g5 HEy eyd
          have x0 := HX.out.cell 0 (v := .int .i64 q0) rfl
          go_wp2_with fail
          refine (rclass_any q0 _).mono ?_
          rintro e w5 ⟨rfl, rfl⟩
          obtain ⟨cl, hcl⟩ : ∃ cl, clsI q0 = cl := ⟨_, rfl⟩
          rw [hcl]
          have Hcl := hid hcl
          clear hcl x0
          have e2 := HRx.out.box.cell 2 (v := .slice mp n mc) rfl
          obtain ⟨bm, om, cm, hvm, hbm, hcm⟩ := (HO.out.kept0 HRx.out.g).m.at_ (by rw [Hok.out.len, Hne.out]; have := Hlt.out; omega)
          simp only [Value.slice.injEq] at hvm
          obtain ⟨rfl, -, -⟩ := hvm
          have em := hcm k mk Hm.out
          have HEm := hid (And.intro hbm em)
          clear hbm hcm
          obtain ⟨b1, o1, c1, hv1, hb1, hc1⟩ := HO.out.c.at_ (by rw [Hne.out]; have := Hlt.out; omega)
          simp only [Value.slice.injEq, Option.some.injEq, Addr.mk.injEq, and_true, true_and] at hv1
          obtain ⟨⟨rfl, rfl⟩, -⟩ := hv1
          have HcY : Hid (∀ w' : World, w3.grownBy w' none → w'.cell? ⟨bc, oc + k, none⟩ = some (.int .u32 y)) := hid (fun w' hg => (grown_cell hg hb1 (by simp)).trans (hc1 k y Hy.out))
          clear hb1 hc1
          obtain ⟨b1, o1, c1, hv1, hb1, hc1⟩ := HO.out.m.at_ (by rw [Hok.out.len, Hne.out]; have := Hlt.out; omega)
          simp only [Value.slice.injEq, Option.some.injEq, Addr.mk.injEq, and_true, true_and] at hv1
          obtain ⟨⟨rfl, rfl⟩, -⟩ := hv1
          have HcM : Hid (∀ w' : World, w3.grownBy w' none → w'.cell? ⟨bm, om + k, none⟩ = some (.int .u8 mk)) := hid (fun w' hg => (grown_cell hg hb1 (by simp)).trans (hc1 k mk Hm.out))
          clear hb1 hc1
          have HHcl : Hid (mk = 1 → clsI (wOp x k) = cl) := hid (fun h1 => by
            subst h1
            have hin := sifirst_ins (siword_first (Hok.out.word k (by rw [Hne.out]; exact Hlt.out)) Hmap.out) Hmap.out
            have hwi : wIns x k = true := hin
            have hq : q0 = wOp x k := Hq0.out (by rw [← Hbi.out]; exact hwi)
            rw [← hq]
            exact Hcl.out)
          obtain ⟨sb, hsb⟩ : ∃ sb, siteB x k = sb := ⟨_, rfl⟩
          have Hsb := hid hsb
          clear hsb
          go_upto_region 12 with (fail)
          go_cut [71] from 58 to 72 (fun u wq => u = .bool sb ∧ Hid (RL w3 wq G ⟨.slice dp nD dc, .slice (some ⟨bc, oc, none⟩) n cc, .slice (some ⟨bm, om, none⟩) n mc, .slice rp nR rc, q, s⟩ X ⟨d3, .slice xp P xc, m3, r3, qq3, s3⟩ ⟨x.D, rwC x k, rwM x k, x.R, [], []⟩ (.slice (some ⟨g, 0, none⟩) (k + 1) cap) (plL x (k + 1))))
          case first =>
            by_cases h1 : mk = 1
            · subst h1
              have Hcl2 := hid (HHcl.out rfl)
              have hs : siteB x k = (decide (cl = 2) || decide (cl = 3)) := by
                unfold siteB isT
                rw [Hmap.out, Hcl2.out]
                by_cases e2 : cl = 2 <;> by_cases e3 : cl = 3 <;> simp [e2, e3]
              rw [Hsb.out] at hs
              by_cases h2 : cl = 2
              · subst h2
                obtain rfl : sb = true := by rw [hs]; rfl
                clear hs
                go_wp2
                go_meet
                exact ⟨rfl, hid HRx.out⟩
              · have h2b : (cl == 2) = false := by simpa using h2
                by_cases h3 : cl = 3
                · subst h3
                  obtain rfl : sb = true := by rw [hs]; rfl
                  clear hs
                  go_wp2
                  go_meet
                  exact ⟨rfl, hid HRx.out⟩
                · have h3b : (cl == 3) = false := by simpa using h3
                  obtain rfl : sb = false := by rw [hs]; simp [h2, h3]
                  clear hs h2 h3
                  go_wp2
                  go_meet
                  exact ⟨rfl, hid HRx.out⟩
            · have h1b : (mk == 1) = false := by simpa using h1
              obtain rfl : sb = false := by
                rw [← Hsb.out]
                unfold siteB
                rw [Hmap.out]
                simp [h1]
              clear h1
              go_wp2
              go_meet
              exact ⟨rfl, hid HRx.out⟩
          case rest =>
            obtain ⟨rfl, HRq⟩ := hcut
            rename World => wq
            clear HRx HX e2 HEm em Hq0 HHcl Hcl
            cases sb
            · focus
                obtain ⟨yp, yc, hm3⟩ := own_slice HRq.out.r9.ob.own.m
                simp only at hm3
                rw [rwM_length, HP.out] at hm3
                subst hm3
                go_upto_region 15 with (fail)
                go_cut [] from 88 to 98 (fun wv => ∃ gA capA, Hid (RL w3 wv G ⟨.slice dp nD dc, .slice (some ⟨bc, oc, none⟩) n cc, .slice (some ⟨bm, om, none⟩) n mc, .slice rp nR rc, q, s⟩ X ⟨d3, .slice (some ⟨gA, 0, none⟩) (P + 1) capA, .slice yp P yc, r3, qq3, s3⟩ ⟨x.D, rwC x k ++ [y], rwM x k, x.R, [], []⟩ (.slice (some ⟨g, 0, none⟩) (k + 1) cap) (plL x (k + 1))))
                case first =>
                  rename_i hJ0 hJ
                  obtain ⟨iA, hi, hz0, hz1, hz2⟩ := info_u32
                  have HiA := hid hi
                  have Hz0A := hid hz0
                  have Hz1A := hid hz1
                  have Hz2A := hid hz2
                  have al := World.grownBy_alloc wq (.cells #[.int .u32 (y)] 28) none
                  have HSA := hid (HRq.out.kept0 (grown_drew al))
                  have how := HSA.out.r9.ob.own.c
                  simp only at how
                  rw [rwC_length, HP.out] at how
                  have HOwA := hid how
                  have HNA : Hid (∀ j u, [Value.int .u32 (y)][j]? = some u → (wq.alloc (.cells #[.int .u32 (y)] 28)).drew.cell? ((⟨wq.heap.size, 0, none⟩ : Addr).add j) = some u) := hid (World.news_of_block (heap_alloc_new wq _))
                  have eXA := (HRq.out.kept0 (grown_drew (grown_refl _ none))).r9.ob.g1.cell 1 (v := .slice xp P xc) rfl
                  have eXaA := HSA.out.r9.ob.g1.cell 1 (v := .slice xp P xc) rfl
                  have eGA := (HRq.out.kept0 (grown_drew (grown_refl _ none))).box.cell 1 (v := .slice (some ⟨bc, oc, none⟩) n cc) rfl
                  have eYA := HcY.out _ (HRq.out.kept0 (grown_drew (grown_refl _ none))).g
                  have eGaA := HSA.out.box.cell 1 (v := .slice (some ⟨bc, oc, none⟩) n cc) rfl
                  have eYaA := HcY.out _ HSA.out.g
                  clear hi hz0 hz1 hz2 al how
                  go_region_law (first
                    | (refine step_append_lies _ rfl (.tmp 89) (.tmp 95) 22 rfl w3.heap.size 28 iA _ 1 4 Tryd.underlying22 HiA.out Hz0A.out Hz1A.out Hz2A.out rfl (by decide) (.slice xp P xc) P _ (by simp [Act.eval, Act.put]) HOwA.out ⟨wq.heap.size, 0, none⟩ 1 1 _ (by simp [Act.eval, Act.put]) rfl HNA.out (by simp [Value.oneCell']) (by decide) (by have := HPn.out; unfold maxLen; omega) (by have := HPn.out; omega) HSA.out.g.size _ rfl ?_
                       intro gA capA vA hown hgrow hat hlt2
                       have hgrow0 : (wq.alloc (.cells #[.int .u32 (y)] 28)).drew.grownBy vA (Value.ownBlock (.slice xp P xc)) := hgrow
                       have hat0 : Value.ownBlock (.slice xp P xc) = some gA ∨ gA = (wq.alloc (.cells #[.int .u32 (y)] 28)).drew.heap.size := hat
                       have HRA := hid (HSA.out.addC [y] (by simp only []; rw [rwC_length]; exact HP.out.symm) rfl hgrow0 hat0 hown HGlt.out)
                       have bx := HSA.out.r9.ob.g1.kept hgrow0 (fun e => (HSA.out.r9.ob.ne (.slice xp P xc) (by simp)).1 e.symm)
                       have cA := bx.cell 1 (v := .slice xp P xc) rfl
                       have zA := bx.free 1
                       clear hown hgrow hat hlt2 hgrow0 hat0 bx)
                    | fail)
                  all_goals
                    go_simp
                    refine hJ _ _ (Met.intro (hJ0 _ _ ?_))
                    (repeat apply Exists.intro)
                    refine ⟨?_, rfl⟩
                    exact ⟨_, _, HRA⟩
                case rest =>
                  obtain ⟨gA, capA, HRA⟩ := hcut
                  rename World => wv
                  clear HRq
                  go_upto_region 16 with (fail)
                  rename (∀ (a : Act) (w : World), Code.wp _ _ _ a w → _) => hKK
                  obtain ⟨iB, hi, hz0, hz1, hz2⟩ := info_u8
                  have HiB := hid hi
                  have Hz0B := hid hz0
                  have Hz1B := hid hz1
                  have Hz2B := hid hz2
                  have al := World.grownBy_alloc wv (.cells #[.int .u8 (mk)] 5) none
                  have HSB := hid (HRA.out.kept0 (grown_drew al))
                  have how := HSB.out.r9.ob.own.m
                  simp only at how
                  rw [rwM_length, HP.out] at how
                  have HOwB := hid how
                  have HNB : Hid (∀ j u, [Value.int .u8 (mk)][j]? = some u → (wv.alloc (.cells #[.int .u8 (mk)] 5)).drew.cell? ((⟨wv.heap.size, 0, none⟩ : Addr).add j) = some u) := hid (World.news_of_block (heap_alloc_new wv _))
                  have eXB := (HRA.out.kept0 (grown_drew (grown_refl _ none))).r9.ob.g1.cell 2 (v := .slice yp P yc) rfl
                  have eXaB := HSB.out.r9.ob.g1.cell 2 (v := .slice yp P yc) rfl
                  have eGB := (HRA.out.kept0 (grown_drew (grown_refl _ none))).box.cell 2 (v := .slice (some ⟨bm, om, none⟩) n mc) rfl
                  have eYB := HcM.out _ (HRA.out.kept0 (grown_drew (grown_refl _ none))).g
                  have eGaB := HSB.out.box.cell 2 (v := .slice (some ⟨bm, om, none⟩) n mc) rfl
                  have eYaB := HcM.out _ HSB.out.g
                  clear hi hz0 hz1 hz2 al how
                  go_region_law (first
                    | (refine step_append_lies _ rfl (.tmp 99) (.tmp 105) 23 rfl w3.heap.size 5 iB _ 1 1 Tryd.underlying23 HiB.out Hz0B.out Hz1B.out Hz2B.out rfl (by decide) (.slice yp P yc) P _ (by simp [Act.eval, Act.put]) HOwB.out ⟨wv.heap.size, 0, none⟩ 1 1 _ (by simp [Act.eval, Act.put]) rfl HNB.out (by simp [Value.oneCell']) (by decide) (by have := HPn.out; unfold maxLen; omega) (by have := HPn.out; omega) HSB.out.g.size _ rfl ?_
                       intro gB capB vB hown hgrow hat hlt2
                       have hgrow0 : (wv.alloc (.cells #[.int .u8 (mk)] 5)).drew.grownBy vB (Value.ownBlock (.slice yp P yc)) := hgrow
                       have hat0 : Value.ownBlock (.slice yp P yc) = some gB ∨ gB = (wv.alloc (.cells #[.int .u8 (mk)] 5)).drew.heap.size := hat
                       have HRB := hid (HSB.out.addM [mk] (by simp only []; rw [rwM_length]; exact HP.out.symm) rfl hgrow0 hat0 hown HGlt.out)
                       have bx := HSB.out.r9.ob.g1.kept hgrow0 (fun e => (HSB.out.r9.ob.ne (.slice yp P yc) (by simp)).1 e.symm)
                       have cB := bx.cell 2 (v := .slice yp P yc) rfl
                       have zB := bx.free 2
                       clear hown hgrow hat hlt2 hgrow0 hat0 bx)
                    | fail)
                  all_goals
                    go_simp
                    refine hKK _ _ ?_
                    clear hKK eXB eXaB eGB eYB eGaB eYaB HSB HOwB HNB HiB Hz0B Hz1B Hz2B
                    clear cB zB HcY HcM HO HB3 Hval HRA
                    generalize vB.setCell ⟨X, 2, none⟩ (.slice (some ⟨gB, 0, none⟩) (P + 1) capB) = wend at HRB ⊢
                    go_wp2
                    go_roundw
                    case rel =>
                      (repeat apply Exists.intro)
                      refine ⟨?_, rfl⟩
                      exact ⟨k + 1, _, Hlt.out, by go_num, hid (by
                        have h := HRB.out
                        simp only at h
                        rw [rwC_no Hsb.out, rwM_no Hsb.out, Hyd.out, Hmd.out]
                        exact h)⟩
                    case measure => simp [intOf]; have := Hlt.out; omega
            · focus
                have Hyr2 : Hid (y < 2147483648) := hid (by
                  have h2 := (siteB_yes Hsb.out).2
                  unfold isT wOp clsI at h2
                  rw [Hyd.out] at h2
                  simp only [decide_eq_true_eq] at h2
                  have := Hyr.out.1
                  repeat' split at h2
                  all_goals omega)
                have hwy : IntKind.u32.wrap (2147483648 + y) = 2147483648 + y := by rw [IntKind.wrap_u32]; have := Hyr.out; have := Hyr2.out; omega
                have hmy : (2147483648 + y) % 4294967296 = 2147483648 + y := by have := Hyr.out; have := Hyr2.out; omega
                obtain ⟨yp, yc, hm3⟩ := own_slice HRq.out.r9.ob.own.m
                simp only at hm3
                rw [rwM_length, HP.out] at hm3
                subst hm3
                go_upto_region 13 with (fail)
                go_cut [] from 72 to 83 (fun wv => ∃ gA capA, Hid (RL w3 wv G ⟨.slice dp nD dc, .slice (some ⟨bc, oc, none⟩) n cc, .slice (some ⟨bm, om, none⟩) n mc, .slice rp nR rc, q, s⟩ X ⟨d3, .slice (some ⟨gA, 0, none⟩) (P + 2) capA, .slice yp P yc, r3, qq3, s3⟩ ⟨x.D, rwC x k ++ [1610612736, 2147483648 + y], rwM x k, x.R, [], []⟩ (.slice (some ⟨g, 0, none⟩) (k + 1) cap) (plL x (k + 1))))
                case first =>
                  rename_i hJ0 hJ
                  obtain ⟨iA, hi, hz0, hz1, hz2⟩ := info_u32
                  have HiA := hid hi
                  have Hz0A := hid hz0
                  have Hz1A := hid hz1
                  have Hz2A := hid hz2
                  have al := World.grownBy_alloc wq (.cells #[.int .u32 (1610612736), .int .u32 (2147483648 + y)] 28) none
                  have HSA := hid (HRq.out.kept0 (grown_drew al))
                  have how := HSA.out.r9.ob.own.c
                  simp only at how
                  rw [rwC_length, HP.out] at how
                  have HOwA := hid how
                  have HNA : Hid (∀ j u, [Value.int .u32 (1610612736), Value.int .u32 (2147483648 + y)][j]? = some u → (wq.alloc (.cells #[.int .u32 (1610612736), .int .u32 (2147483648 + y)] 28)).drew.cell? ((⟨wq.heap.size, 0, none⟩ : Addr).add j) = some u) := hid (World.news_of_block (heap_alloc_new wq _))
                  have eXA := (HRq.out.kept0 (grown_drew (grown_refl _ none))).r9.ob.g1.cell 1 (v := .slice xp P xc) rfl
                  have eXaA := HSA.out.r9.ob.g1.cell 1 (v := .slice xp P xc) rfl
                  have eGA := (HRq.out.kept0 (grown_drew (grown_refl _ none))).box.cell 1 (v := .slice (some ⟨bc, oc, none⟩) n cc) rfl
                  have eYA := HcY.out _ (HRq.out.kept0 (grown_drew (grown_refl _ none))).g
                  have eGaA := HSA.out.box.cell 1 (v := .slice (some ⟨bc, oc, none⟩) n cc) rfl
                  have eYaA := HcY.out _ HSA.out.g
                  clear hi hz0 hz1 hz2 al how
                  go_region_law (first
                    | (refine step_append_lies _ rfl (.tmp 73) (.tmp 80) 22 rfl w3.heap.size 28 iA _ 1 4 Tryd.underlying22 HiA.out Hz0A.out Hz1A.out Hz2A.out rfl (by decide) (.slice xp P xc) P _ (by simp [Act.eval, Act.put]) HOwA.out ⟨wq.heap.size, 0, none⟩ 2 2 _ (by simp [Act.eval, Act.put]) rfl HNA.out (by simp [Value.oneCell']) (by decide) (by have := HPn.out; unfold maxLen; omega) (by have := HPn.out; omega) HSA.out.g.size _ rfl ?_
                       intro gA capA vA hown hgrow hat hlt2
                       have hgrow0 : (wq.alloc (.cells #[.int .u32 (1610612736), .int .u32 (2147483648 + y)] 28)).drew.grownBy vA (Value.ownBlock (.slice xp P xc)) := hgrow
                       have hat0 : Value.ownBlock (.slice xp P xc) = some gA ∨ gA = (wq.alloc (.cells #[.int .u32 (1610612736), .int .u32 (2147483648 + y)] 28)).drew.heap.size := hat
                       have HRA := hid (HSA.out.addC [1610612736, 2147483648 + y] (by simp only []; rw [rwC_length]; exact HP.out.symm) rfl hgrow0 hat0 hown HGlt.out)
                       have bx := HSA.out.r9.ob.g1.kept hgrow0 (fun e => (HSA.out.r9.ob.ne (.slice xp P xc) (by simp)).1 e.symm)
                       have cA := bx.cell 1 (v := .slice xp P xc) rfl
                       have zA := bx.free 1
                       clear hown hgrow hat hlt2 hgrow0 hat0 bx)
                    | fail)
                  all_goals
                    go_simp
                    refine hJ _ _ (Met.intro (hJ0 _ _ ?_))
                    (repeat apply Exists.intro)
                    refine ⟨?_, rfl⟩
                    exact ⟨_, _, HRA⟩
                case rest =>
                  obtain ⟨gA, capA, HRA⟩ := hcut
                  rename World => wv
                  clear HRq
                  obtain ⟨iB, hi, hz0, hz1, hz2⟩ := info_u8
                  have HiB := hid hi
                  have Hz0B := hid hz0
                  have Hz1B := hid hz1
                  have Hz2B := hid hz2
                  have al := World.grownBy_alloc wv (.cells #[.int .u8 (1), .int .u8 (0)] 5) none
                  have HSB := hid (HRA.out.kept0 al)
                  have how := HSB.out.r9.ob.own.m
                  simp only at how
                  rw [rwM_length, HP.out] at how
                  have HOwB := hid how
                  have HNB : Hid (∀ j u, [Value.int .u8 (1), Value.int .u8 (0)][j]? = some u → (wv.alloc (.cells #[.int .u8 (1), .int .u8 (0)] 5)).cell? ((⟨wv.heap.size, 0, none⟩ : Addr).add j) = some u) := hid (World.news_of_block (heap_alloc_new wv _))
                  have eXB := (HRA.out.kept0 (grown_refl _ none)).r9.ob.g1.cell 2 (v := .slice yp P yc) rfl
                  have eXaB := HSB.out.r9.ob.g1.cell 2 (v := .slice yp P yc) rfl
                  clear hi hz0 hz1 hz2 al how
                  go_upto_region 8 with (first
                    | (refine wpList_append_lies _ rfl _ _ 23 rfl w3.heap.size 5 iB _ 1 1 Tryd.underlying23 HiB.out Hz0B.out Hz1B.out Hz2B.out rfl (by decide) _ P _ rfl HOwB.out ⟨wv.heap.size, 0, none⟩ 2 2 _ rfl rfl HNB.out (by simp [Value.oneCell']) (by decide) (by have := HPn.out; unfold maxLen; omega) (by have := HPn.out; omega) HSB.out.g.size _ rfl ?_
                       intro gB capB vB hown hgrow hat hlt2
                       have hgrow0 : (wv.alloc (.cells #[.int .u8 (1), .int .u8 (0)] 5)).grownBy vB (Value.ownBlock (.slice yp P yc)) := hgrow
                       have hat0 : Value.ownBlock (.slice yp P yc) = some gB ∨ gB = (wv.alloc (.cells #[.int .u8 (1), .int .u8 (0)] 5)).heap.size := hat
                       have HRB := hid (HSB.out.addM [1, 0] (by simp only []; rw [rwM_length]; exact HP.out.symm) rfl hgrow0 hat0 hown HGlt.out)
                       have bx := HSB.out.r9.ob.g1.kept hgrow0 (fun e => (HSB.out.r9.ob.ne (.slice yp P yc) (by simp)).1 e.symm)
                       have cB := bx.cell 2 (v := .slice yp P yc) rfl
                       have zB := bx.free 2
                       clear hown hgrow hat hlt2 hgrow0 hat0 bx)
                    | fail)
                  clear eXB eXaB HSB HOwB HNB HiB Hz0B Hz1B Hz2B
                  clear cB zB HcY HcM HO HB3 Hval HRA
                  generalize vB.setCell ⟨X, 2, none⟩ (.slice (some ⟨gB, 0, none⟩) (P + 2) capB) = wend at HRB ⊢
                  go_wp2
                  go_roundw
                  case rel =>
                    (repeat apply Exists.intro)
                    refine ⟨?_, rfl⟩
                    exact ⟨k + 1, _, Hlt.out, by go_num, hid (by
                      have h := HRB.out
                      simp only at h
                      rw [rwC_yes Hsb.out, rwM_yes Hsb.out, Hyd.out]
                      exact h)⟩
                  case measure => simp [intOf]; have := Hlt.out; omega
      · obtain rfl : k = n := by omega
        have kn : ¬ ((k : Int) < (k : Int)) := by omega
        clear hlt

        clear k0
        obtain ⟨vp, vc, hv⟩ := own_slice HR.out.r9.pl
        rw [plL_length] at hv
        subst hv
        obtain ⟨xp, xc, hc3⟩ := own_slice HR.out.r9.ob.own.c
        simp only at hc3
        rw [rwC_length] at hc3
        obtain ⟨P, hP⟩ : ∃ P, plN x k = P := ⟨_, rfl⟩
        rw [hP] at hc3
        subst hc3
        have HP := hid hP
        have HPn : Hid (P ≤ 2048) := hid (by have := Hm.out; rw [Hne.out, hP] at this; exact this)
        have ex1 := HR.out.r9.ob.g1.cell 1 (v := .slice xp P xc) rfl
        obtain ⟨qp, qc, hqv⟩ := HO.out.q.len
        obtain ⟨sp, sc, hsv⟩ := HO.out.s.len
        simp only at hqv hsv
        obtain ⟨nQ, hnQ⟩ : ∃ n, x.Q.length = n := ⟨_, rfl⟩
        obtain ⟨nS, hnS⟩ : ∃ n, x.S.length = n := ⟨_, rfl⟩
        rw [hnQ] at hqv
        rw [hnS] at hsv
        have HnQ := hid hnQ
        have HnS := hid hnS
        subst hqv; subst hsv
        have HQn : Hid (nQ ≤ 1000000) := hid (by have := HM.out; omega)
        have HSn : Hid (nS ≤ 1000000) := hid (by have := HM.out; omega)
        have nQ0 : (0 : Int) ≤ (nQ : Int) := by omega
        have nQ1 : (nQ : Int) ≤ 1000000 := by have := HQn.out; omega
        have nS0 : (0 : Int) ≤ (nS : Int) := by omega
        have nS1 : (nS : Int) ≤ 1000000 := by have := HSn.out; omega
        have P0 : (0 : Int) ≤ (P : Int) := by omega
        have P1 : (P : Int) ≤ 2048 := by have := HPn.out; omega
        have P2 : decide ((2048 : Int) < (P : Int)) = false := by simp; omega
        obtain ⟨i, hi, hz0, hz1, hz2⟩ := info_int
        have Hi := hid hi
        have Hz0 := hid hz0
        have Hz1 := hid hz1
        have Hz2 := hid hz2
        have HRa := hid (HR.out.kept0 (World.grownBy_alloc wr (.cells #[.int .i64 P] 3) none))
        have HOw := HRa.out.r9.pl
        rw [plL_length] at HOw
        have HOw := hid HOw
        have HN : Hid (∀ j u, [Value.int .i64 (P : Int)][j]? = some u → (wr.alloc (.cells #[.int .i64 P] 3)).cell? ((⟨wr.heap.size, 0, none⟩ : Addr).add j) = some u) := hid (World.news_of_block (heap_alloc_new wr _))
        have ex2 := HRa.out.r9.ob.g1.cell 1 (v := .slice xp P xc) rfl
        clear hi hz0 hz1 hz2 hP hnQ hnS HR
        go_upto_region 18 with (first
          | (refine wpList_append_lies _ rfl _ _ 31 rfl w3.heap.size 3 i _ 1 8 Tryd.underlying31 Hi.out Hz0.out Hz1.out Hz2.out rfl (by decide) _ k _ rfl HOw.out ⟨wr.heap.size, 0, none⟩ 1 1 _ rfl rfl HN.out (by simp [Value.oneCell']) (by decide) (by have := Hn2.out; unfold maxLen; omega) (by have := Hn2.out; omega) HRa.out.g.size _ rfl ?_
             intro g cap w9 hown hgrow hat hlt2
             have hgrow0 : (wr.alloc (.cells #[.int .i64 P] 3)).grownBy w9 (Value.slice vp k vc).ownBlock := hgrow
             have hat0 : (Value.slice vp k vc).ownBlock = some g ∨ g = (wr.alloc (.cells #[.int .i64 P] 3)).heap.size := hat
             have HOn := hid hown
             have HGn := hid hgrow0
             have HAt := hid hat0
             clear hown hgrow hat hlt2 hgrow0 hat0)
          | fail)
        have HRn : Hid (RL w3 w9 G ⟨.slice dp nD dc, .slice cp k cc, .slice mp k mc, .slice rp nR rc, .slice qp nQ qc, .slice sp nS sc⟩ X ⟨d3, .slice xp P xc, m3, r3, qq3, s3⟩ ⟨x.D, rwC x k, rwM x k, x.R, (x.Q.take 0).map (rwR x), []⟩ (.slice (some ⟨g, 0, none⟩) (k + 1) cap) (plL x (k + 1))) := hid ⟨HRa.out.box.kept HGn.out (fun e => by
            have h1 := (HOw.out.lt G (by first | exact e | exact e.symm)).1
            have h2 := HGlt.out
            omega), by
          have h := HRa.out.r9.addP (P : Int) HGn.out HAt.out (by rw [plL_length]; exact HOn.out)
          rw [plL_length] at h
          rw [plL_succ, HP.out]
          exact h⟩
        have ex9 := HRn.out.r9.ob.g1.cell 1 (v := .slice xp P xc) rfl
        clear HRa HOw HN HOn HGn HAt ex1 ex2 e1 Hi Hz0 Hz1 Hz2
        go_wp2
        clear ex9
        go_loopw [12] (fun i wr => ∃ j : Nat, ∃ V' : OV, j ≤ nQ ∧ i = .int .i64 j ∧ Hid (RL w3 wr G ⟨.slice dp nD dc, .slice cp k cc, .slice mp k mc, .slice rp nR rc, .slice qp nQ qc, .slice sp nS sc⟩ X V' ⟨x.D, rwC x k, rwM x k, x.R, (x.Q.take j).map (rwR x), []⟩ (.slice (some ⟨g, 0, none⟩) (k + 1) cap) (plL x (k + 1)))) (fun i _ => nQ - (intOf i).toNat)
        case atStart => exact ⟨0, _, Nat.zero_le _, rfl, HRn⟩
        case round =>
          rename World => wr
          obtain ⟨j, ⟨d4, c4, m4, r4, q4, s4⟩, hj, rfl, HR⟩ := hrel
          clear HRn
          have j0 : (0 : Int) ≤ (j : Int) := by omega
          have e4 := HR.out.box.cell 4 (v := .slice qp nQ qc) rfl
          by_cases hlt : j < nQ
          · have jn : (j : Int) < (nQ : Int) := by omega
            focus
              have Hlt := hid hlt
              obtain ⟨rr, hy⟩ : ∃ y, x.Q[j]? = some y := ⟨_, List.getElem?_eq_getElem (by rw [HnQ.out]; exact hlt)⟩
              have Htk : Hid ((x.Q.take (j + 1)).map (rwR x) = (x.Q.take j).map (rwR x) ++ [rwR x rr]) := hid (by rw [List.take_add_one, hy]; simp)
              obtain ⟨ra0, ra1⟩ := rw_q Hok.out hy
              obtain ⟨ya, yk, ys, yd⟩ := rr
              simp only at ra0 ra1
              obtain ⟨a, rfl⟩ := Int.eq_ofNat_of_zero_le ra0
              rw [Hne.out] at ra1
              obtain ⟨B, hB⟩ : ∃ B, plN x a = B := ⟨_, rfl⟩
              have hrw : rwR x ⟨(a : Int), yk, ys, yd⟩ = ⟨(B : Int), yk, ys, yd⟩ := by rw [← hB]; simp [rwR]
              rw [hrw] at Htk
              have HB := hid hB
              have an : a < k + 1 := by omega
              have Han := hid an
              have a0 : (0 : Int) ≤ (a : Int) := by omega
              have a1 : (a : Int) < (k : Int) + 1 := by omega
              obtain ⟨b4, o4, cc4, hvq, _, hb4, hcq⟩ := (HO.out.kept0 HR.out.g).q.at_ (by rw [HnQ.out]; omega)
              simp only [HnQ.out, Value.slice.injEq] at hvq
              obtain ⟨rfl, -, -⟩ := hvq
              have c0 : wr.cell? ⟨b4, o4 + j * 4, none⟩ = some (.int .i64 (a : Int)) := hcq (j * 4 + 0) _ (by rw [rlsC_get _ j 0 _ hy (by decide)]; rfl)
              have c1 : wr.cell? ⟨b4, o4 + j * 4 + 1, none⟩ = some (.int .i64 yk) := hcq (j * 4 + 1) _ (by rw [rlsC_get _ j 1 _ hy (by decide)]; rfl)
              have c2 : wr.cell? ⟨b4, o4 + j * 4 + 2, none⟩ = some (.int .i64 ys) := hcq (j * 4 + 2) _ (by rw [rlsC_get _ j 2 _ hy (by decide)]; rfl)
              have c3 : wr.cell? ⟨b4, o4 + j * 4 + 3, none⟩ = some (.int .i64 yd) := hcq (j * 4 + 3) _ (by rw [rlsC_get _ j 3 _ hy (by decide)]; rfl)
              have al := World.grownBy_alloc wr (.cells #[.int .i64 (a : Int), .int .i64 yk, .int .i64 ys, .int .i64 yd] 79) none
              have HX := hid (RwAt.new wr 79 #[.int .i64 (a : Int), .int .i64 yk, .int .i64 ys, .int .i64 yd])
              have HGy := hid al
              have HRk := hid HR.out
              clear al hcq hy hB hrw ra0 ra1 hb4 hlt hj an HR
              go_upto_region 24 with (fail)
              obtain ⟨Y, hY⟩ : ∃ Y, wr.heap.size = Y := ⟨_, rfl⟩
              have HYe := hid hY
              rw [hY] at HX ⊢
              clear hY c0 c1 c2 c3 e4
              generalize wr.alloc (.cells #[.int .i64 (a : Int), .int .i64 yk, .int .i64 ys, .int .i64 yd] 79) = w7 at HX HGy ⊢
              have x0 := HX.out.cell 0 (v := .int .i64 (a : Int)) rfl
              have f0 := HX.out.free 0
              have hpl := (HRk.out.kept0 HGy.out).r9.pl
              rw [plL_length] at hpl
              have cp := hpl.cellAt a (by have := Han.out; omega)
              rw [List.getElem?_map, plL_get _ Han.out, HB.out, Option.map_some] at cp
              have HX3 := HX.out.set 0 (.int .i64 (B : Int))
              have HX3 : Hid (RwAt (w7.setCell ⟨Y, 0, none⟩ (.int .i64 (B : Int))) Y 79 #[.int .i64 (B : Int), .int .i64 yk, .int .i64 ys, .int .i64 yd]) := hid (by simpa using HX3)
              have HR3 := hid (HRk.out.kept0 (grown_new' (grown_trans (grown_none HGy.out) (grown_setCell (grown_refl w7 _) 0 (.int .i64 (B : Int)) : w7.grownBy _ (some Y))) (fun j hj => by obtain rfl := Option.some.inj hj; exact Nat.le_of_eq HYe.out)))
              clear hpl HX HGy HRk
              go_upto_region 25 with (fail)
              clear x0 f0 cp
              generalize w7.setCell ⟨Y, 0, none⟩ (.int .i64 (B : Int)) = w8 at HX3 HR3 ⊢
              have x0 := HX3.out.cell 0 (v := .int .i64 (B : Int)) rfl
              have x1 := HX3.out.cell 1 (v := .int .i64 yk) rfl
              have x2 := HX3.out.cell 2 (v := .int .i64 ys) rfl
              have x3 := HX3.out.cell 3 (v := .int .i64 yd) rfl
              obtain ⟨i, hi, hz0, hz1, hz2⟩ := info_reloc
              have Hi := hid hi
              have Hz0 := hid hz0
              have Hz1 := hid hz1
              have Hz2 := hid hz2
              have al := World.grownBy_alloc w8 (.cells #[.int .i64 (B : Int), .int .i64 yk, .int .i64 ys, .int .i64 yd] 79) none
              have HS := hid (HR3.out.kept0 al)
              have how := HS.out.r9.ob.own.q
              simp only at how
              obtain ⟨up, uc, hu⟩ := own_slice how
              rw [show ((x.Q.take j).map (rwR x)).length = j by rw [List.length_map, List.length_take]; have := HnQ.out; have := Hlt.out; omega] at how hu
              subst hu
              have HOw := hid how
              have HN : Hid (∀ j u, [Value.int .i64 (B : Int), .int .i64 yk, .int .i64 ys, .int .i64 yd][j]? = some u → (w8.alloc (.cells #[.int .i64 (B : Int), .int .i64 yk, .int .i64 ys, .int .i64 yd] 79)).cell? ((⟨w8.heap.size, 0, none⟩ : Addr).add j) = some u) := hid (World.news_of_block (heap_alloc_new w8 _))
              have eX := HR3.out.r9.ob.g1.cell 4 (v := .slice up j uc) rfl
              clear hi hz0 hz1 hz2 al how
              go_wp2_with (first
                | (refine wpList_append_lies _ rfl _ _ 24 rfl w3.heap.size 79 i _ 4 32 Tryd.underlying24 Hi.out Hz0.out Hz1.out Hz2.out rfl (by decide) _ j _ rfl HOw.out ⟨w8.heap.size, 0, none⟩ 1 1 _ rfl rfl HN.out (by simp [Value.oneCell']) (by decide) (by have := Hlt.out; have := HQn.out; unfold maxLen; omega) (by have := Hlt.out; have := HQn.out; omega) HS.out.g.size _ rfl ?_
                   intro gQ capQ wq hown hgrow hat hlt2
                   have hgrow0 : (w8.alloc (.cells #[.int .i64 (B : Int), .int .i64 yk, .int .i64 ys, .int .i64 yd] 79)).grownBy wq (Value.slice up j uc).ownBlock := hgrow
                   have hat0 : (Value.slice up j uc).ownBlock = some gQ ∨ gQ = (w8.alloc (.cells #[.int .i64 (B : Int), .int .i64 yk, .int .i64 ys, .int .i64 yd] 79)).heap.size := hat
                   have HRQ := hid (HS.out.addQ [⟨(B : Int), yk, ys, yd⟩] (by simp only []; rw [List.length_map, List.length_take, HnQ.out]; have := Hlt.out; omega) rfl hgrow0 hat0 hown HGlt.out)
                   have bx := HS.out.r9.ob.g1.kept hgrow0 (fun e => (HS.out.r9.ob.ne (.slice up j uc) (by simp)).1 e.symm)
                   have cX := bx.cell 4 (v := .slice up j uc) rfl
                   have zX := bx.free 4
                   clear hown hgrow hat hlt2 hgrow0 hat0 bx)
                | fail)
              go_roundw
              case rel => exact ⟨j + 1, _, Hlt.out, by go_num, hid (by
                have h := HRQ.out
                simp only at h
                rw [Htk.out]
                exact h)⟩
              case measure => simp [intOf]; have := Hlt.out; omega
          · obtain rfl : j = nQ := by omega
            have jn : ¬ ((j : Int) < (j : Int)) := by omega
            have HR0 : Hid (RL w3 wr G ⟨.slice dp nD dc, .slice cp k cc, .slice mp k mc, .slice rp nR rc, .slice qp j qc, .slice sp nS sc⟩ X ⟨d4, c4, m4, r4, q4, s4⟩ ⟨x.D, rwC x k, rwM x k, x.R, x.Q.map (rwR x), (x.S.take 0).map (rwS x)⟩ (.slice (some ⟨g, 0, none⟩) (k + 1) cap) (plL x (k + 1))) := hid (by
              have h := HR.out
              rw [List.take_of_length_le (by rw [HnQ.out]; exact Nat.le_refl _)] at h
              exact h)
            clear HR hlt hj
            go_wp2
            clear e4
            go_loopw [14] (fun i wr => ∃ j2 : Nat, ∃ V' : OV, j2 ≤ nS ∧ i = .int .i64 j2 ∧ Hid (RL w3 wr G ⟨.slice dp nD dc, .slice cp k cc, .slice mp k mc, .slice rp nR rc, .slice qp j qc, .slice sp nS sc⟩ X V' ⟨x.D, rwC x k, rwM x k, x.R, x.Q.map (rwR x), (x.S.take j2).map (rwS x)⟩ (.slice (some ⟨g, 0, none⟩) (k + 1) cap) (plL x (k + 1)))) (fun i _ => nS - (intOf i).toNat)
            case atStart => exact ⟨0, _, Nat.zero_le _, rfl, HR0⟩
            case round =>
              rename World => wr
              obtain ⟨j2, ⟨d5, c5, m5, r5, q5, s5⟩, hj2, rfl, HR⟩ := hrel
              clear HR0
              have j20 : (0 : Int) ≤ (j2 : Int) := by omega
              have e5 := HR.out.box.cell 5 (v := .slice sp nS sc) rfl
              by_cases hlt : j2 < nS
              · have jn2 : (j2 : Int) < (nS : Int) := by omega
                focus
                  have Hlt := hid hlt
                  obtain ⟨rr, hy⟩ : ∃ y, x.S[j2]? = some y := ⟨_, List.getElem?_eq_getElem (by rw [HnS.out]; exact hlt)⟩
                  have Hy := hid hy
                  have Htk : Hid ((x.S.take (j2 + 1)).map (rwS x) = (x.S.take j2).map (rwS x) ++ [rwS x rr]) := hid (by rw [List.take_add_one, hy]; simp)
                  obtain ⟨yn, yi, yv, yg⟩ := rr
                  obtain ⟨b4, o4, cc4, hvq, _, hb4, hcq⟩ := (HO.out.kept0 HR.out.g).s.at_ (by rw [HnS.out]; omega)
                  simp only [HnS.out, Value.slice.injEq] at hvq
                  obtain ⟨rfl, -, -⟩ := hvq
                  have c0 : wr.cell? ⟨b4, o4 + j2 * 4, none⟩ = some (.string yn) := hcq (j2 * 4 + 0) _ (by rw [sysC_get _ j2 0 _ hy (by decide)]; rfl)
                  have c1 : wr.cell? ⟨b4, o4 + j2 * 4 + 1, none⟩ = some (.int .i64 yi) := hcq (j2 * 4 + 1) _ (by rw [sysC_get _ j2 1 _ hy (by decide)]; rfl)
                  have c2 : wr.cell? ⟨b4, o4 + j2 * 4 + 2, none⟩ = some (.int .i64 yv) := hcq (j2 * 4 + 2) _ (by rw [sysC_get _ j2 2 _ hy (by decide)]; rfl)
                  have c3 : wr.cell? ⟨b4, o4 + j2 * 4 + 3, none⟩ = some (.bool yg) := hcq (j2 * 4 + 3) _ (by rw [sysC_get _ j2 3 _ hy (by decide)]; rfl)
                  have al := World.grownBy_alloc wr (.cells #[.string yn, .int .i64 yi, .int .i64 yv, .bool yg] 72) none
                  have HX := hid (RwAt.new wr 72 #[.string yn, .int .i64 yi, .int .i64 yv, .bool yg])
                  have HGy := hid al
                  have HRk := hid HR.out
                  clear al hcq hy hb4 hlt hj2 HR
                  have Hzr := zero_syw
                  go_upto_region 30 with (fail)
                  obtain ⟨Y, hY⟩ : ∃ Y, wr.heap.size = Y := ⟨_, rfl⟩
                  have HYe := hid hY
                  rw [hY] at HX ⊢
                  clear hY c0 c1 c2 c3 e5 Hzr
                  generalize wr.alloc (.cells #[.string yn, .int .i64 yi, .int .i64 yv, .bool yg] 72) = w7 at HX HGy ⊢
                  have y1 := HX.out.cell 1 (v := .int .i64 yi) rfl
                  by_cases h2 : yi = 2
                  · subst h2
                    obtain ⟨ra0, ra1⟩ := rw_s Hok.out Hy.out rfl
                    simp only at ra0 ra1
                    obtain ⟨a, rfl⟩ := Int.eq_ofNat_of_zero_le ra0
                    rw [Hne.out] at ra1
                    obtain ⟨B, hB⟩ : ∃ B, plN x a = B := ⟨_, rfl⟩
                    have hrw : rwS x ⟨yn, 2, (a : Int), yg⟩ = ⟨yn, 2, (B : Int), yg⟩ := by rw [← hB]; simp [rwS]
                    rw [hrw] at Htk
                    have HB := hid hB
                    have an : a < k + 1 := by omega
                    have Han := hid an
                    have a0 : (0 : Int) ≤ (a : Int) := by omega
                    have a1 : (a : Int) < (k : Int) + 1 := by omega
                    clear ra0 ra1 hB hrw an
                    have y2 := HX.out.cell 2 (v := .int .i64 (a : Int)) rfl
                    have f2 := HX.out.free 2
                    have hpl := (HRk.out.kept0 HGy.out).r9.pl
                    rw [plL_length] at hpl
                    have cp := hpl.cellAt a (by have := Han.out; omega)
                    rw [List.getElem?_map, plL_get _ Han.out, HB.out, Option.map_some] at cp
                    have HX3 := HX.out.set 2 (.int .i64 (B : Int))
                    have HX3 : Hid (RwAt (w7.setCell ⟨Y, 2, none⟩ (.int .i64 (B : Int))) Y 72 #[.string yn, .int .i64 2, .int .i64 (B : Int), .bool yg]) := hid (by simpa using HX3)
                    have HR3 := hid (HRk.out.kept0 (grown_new' (grown_trans (grown_none HGy.out) (grown_setCell (grown_refl w7 _) 2 (.int .i64 (B : Int)) : w7.grownBy _ (some Y))) (fun j hj => by obtain rfl := Option.some.inj hj; exact Nat.le_of_eq HYe.out)))
                    clear hpl HX HGy HRk
                    go_upto_region 32 with (fail)
                    clear y1 y2 f2 cp
                    generalize w7.setCell ⟨Y, 2, none⟩ (.int .i64 (B : Int)) = w8 at HX3 HR3 ⊢
                    have x0 := HX3.out.cell 0 (v := .string yn) rfl
                    have x1 := HX3.out.cell 1 (v := .int .i64 2) rfl
                    have x2 := HX3.out.cell 2 (v := .int .i64 (B : Int)) rfl
                    have x3 := HX3.out.cell 3 (v := .bool yg) rfl
                    obtain ⟨i, hi, hz0, hz1, hz2⟩ := info_symb
                    have Hi := hid hi
                    have Hz0 := hid hz0
                    have Hz1 := hid hz1
                    have Hz2 := hid hz2
                    have al := World.grownBy_alloc w8 (.cells #[.string yn, .int .i64 2, .int .i64 (B : Int), .bool yg] 72) none
                    have HS := hid (HR3.out.kept0 al)
                    have how := HS.out.r9.ob.own.s
                    simp only at how
                    obtain ⟨up, uc, hu⟩ := own_slice how
                    rw [show ((x.S.take j2).map (rwS x)).length = j2 by rw [List.length_map, List.length_take]; have := HnS.out; have := Hlt.out; omega] at how hu
                    subst hu
                    have HOw := hid how
                    have HN : Hid (∀ j u, [Value.string yn, .int .i64 2, .int .i64 (B : Int), .bool yg][j]? = some u → (w8.alloc (.cells #[.string yn, .int .i64 2, .int .i64 (B : Int), .bool yg] 72)).cell? ((⟨w8.heap.size, 0, none⟩ : Addr).add j) = some u) := hid (World.news_of_block (heap_alloc_new w8 _))
                    have eX := HR3.out.r9.ob.g1.cell 5 (v := .slice up j2 uc) rfl
                    clear hi hz0 hz1 hz2 al how
                    go_wp2_with (first
                      | (refine wpList_append_lies _ rfl _ _ 25 rfl w3.heap.size 72 i _ 4 40 Tryd.underlying25 Hi.out Hz0.out Hz1.out Hz2.out rfl (by decide) _ j2 _ rfl HOw.out ⟨w8.heap.size, 0, none⟩ 1 1 _ rfl rfl HN.out (by simp [Value.oneCell']) (by decide) (by have := Hlt.out; have := HSn.out; unfold maxLen; omega) (by have := Hlt.out; have := HSn.out; omega) HS.out.g.size _ rfl ?_
                         intro gQ capQ wq hown hgrow hat hlt2
                         have hgrow0 : (w8.alloc (.cells #[.string yn, .int .i64 2, .int .i64 (B : Int), .bool yg] 72)).grownBy wq (Value.slice up j2 uc).ownBlock := hgrow
                         have hat0 : (Value.slice up j2 uc).ownBlock = some gQ ∨ gQ = (w8.alloc (.cells #[.string yn, .int .i64 2, .int .i64 (B : Int), .bool yg] 72)).heap.size := hat
                         have HRQ := hid (HS.out.addS [⟨yn, 2, (B : Int), yg⟩] (by simp only []; rw [List.length_map, List.length_take, HnS.out]; have := Hlt.out; omega) rfl hgrow0 hat0 hown HGlt.out)
                         have bx := HS.out.r9.ob.g1.kept hgrow0 (fun e => (HS.out.r9.ob.ne (.slice up j2 uc) (by simp)).1 e.symm)
                         have cX := bx.cell 5 (v := .slice up j2 uc) rfl
                         have zX := bx.free 5
                         clear hown hgrow hat hlt2 hgrow0 hat0 bx)
                      | fail)
                    go_roundw
                    case rel => exact ⟨j2 + 1, _, Hlt.out, by go_num, hid (by
                      have h := HRQ.out
                      simp only at h
                      rw [Htk.out]
                      exact h)⟩
                    case measure => simp [intOf]; have := Hlt.out; omega
                  · have h2b : (yi == 2) = false := by simpa using h2
                    have hrw : rwS x ⟨yn, yi, yv, yg⟩ = ⟨yn, yi, yv, yg⟩ := by simp [rwS, h2]
                    rw [hrw] at Htk
                    have HX3 := hid HX.out
                    have HR3 := hid (HRk.out.kept0 HGy.out)
                    clear hrw HX HGy HRk h2
                    go_upto_region 32 with (fail)
                    clear y1
                    have x0 := HX3.out.cell 0 (v := .string yn) rfl
                    have x1 := HX3.out.cell 1 (v := .int .i64 yi) rfl
                    have x2 := HX3.out.cell 2 (v := .int .i64 yv) rfl
                    have x3 := HX3.out.cell 3 (v := .bool yg) rfl
                    obtain ⟨i, hi, hz0, hz1, hz2⟩ := info_symb
                    have Hi := hid hi
                    have Hz0 := hid hz0
                    have Hz1 := hid hz1
                    have Hz2 := hid hz2
                    have al := World.grownBy_alloc w7 (.cells #[.string yn, .int .i64 yi, .int .i64 yv, .bool yg] 72) none
                    have HS := hid (HR3.out.kept0 al)
                    have how := HS.out.r9.ob.own.s
                    simp only at how
                    obtain ⟨up, uc, hu⟩ := own_slice how
                    rw [show ((x.S.take j2).map (rwS x)).length = j2 by rw [List.length_map, List.length_take]; have := HnS.out; have := Hlt.out; omega] at how hu
                    subst hu
                    have HOw := hid how
                    have HN : Hid (∀ j u, [Value.string yn, .int .i64 yi, .int .i64 yv, .bool yg][j]? = some u → (w7.alloc (.cells #[.string yn, .int .i64 yi, .int .i64 yv, .bool yg] 72)).cell? ((⟨w7.heap.size, 0, none⟩ : Addr).add j) = some u) := hid (World.news_of_block (heap_alloc_new w7 _))
                    have eX := HR3.out.r9.ob.g1.cell 5 (v := .slice up j2 uc) rfl
                    clear hi hz0 hz1 hz2 al how
                    go_wp2_with (first
                      | (refine wpList_append_lies _ rfl _ _ 25 rfl w3.heap.size 72 i _ 4 40 Tryd.underlying25 Hi.out Hz0.out Hz1.out Hz2.out rfl (by decide) _ j2 _ rfl HOw.out ⟨w7.heap.size, 0, none⟩ 1 1 _ rfl rfl HN.out (by simp [Value.oneCell']) (by decide) (by have := Hlt.out; have := HSn.out; unfold maxLen; omega) (by have := Hlt.out; have := HSn.out; omega) HS.out.g.size _ rfl ?_
                         intro gQ capQ wq hown hgrow hat hlt2
                         have hgrow0 : (w7.alloc (.cells #[.string yn, .int .i64 yi, .int .i64 yv, .bool yg] 72)).grownBy wq (Value.slice up j2 uc).ownBlock := hgrow
                         have hat0 : (Value.slice up j2 uc).ownBlock = some gQ ∨ gQ = (w7.alloc (.cells #[.string yn, .int .i64 yi, .int .i64 yv, .bool yg] 72)).heap.size := hat
                         have HRQ := hid (HS.out.addS [⟨yn, yi, yv, yg⟩] (by simp only []; rw [List.length_map, List.length_take, HnS.out]; have := Hlt.out; omega) rfl hgrow0 hat0 hown HGlt.out)
                         have bx := HS.out.r9.ob.g1.kept hgrow0 (fun e => (HS.out.r9.ob.ne (.slice up j2 uc) (by simp)).1 e.symm)
                         have cX := bx.cell 5 (v := .slice up j2 uc) rfl
                         have zX := bx.free 5
                         clear hown hgrow hat hlt2 hgrow0 hat0 bx)
                      | fail)
                    go_roundw
                    case rel => exact ⟨j2 + 1, _, Hlt.out, by go_num, hid (by
                      have h := HRQ.out
                      simp only at h
                      rw [Htk.out]
                      exact h)⟩
                    case measure => simp [intOf]; have := Hlt.out; omega
              · obtain rfl : j2 = nS := by omega
                have jn2 : ¬ ((j2 : Int) < (j2 : Int)) := by omega
                focus
                  have hR := HR.out
                  rw [List.take_of_length_le (by rw [HnS.out]; exact Nat.le_refl _)] at hR
                  obtain ⟨pa0, ca0, pa1, ca1, pa2, ca2, pa3, ca3, pa4, ca4, pa5, ca5, hsl⟩ := hR.r9.ob.own.slices
                  simp only [OV.mk.injEq] at hsl
                  obtain ⟨p0, l0, c0, h0⟩ : ∃ p l c, d5 = Value.slice p l c := ⟨_, _, _, hsl.1⟩
                  obtain ⟨p1, l1, c1, h1⟩ : ∃ p l c, c5 = Value.slice p l c := ⟨_, _, _, hsl.2.1⟩
                  obtain ⟨p2, l2, c2, h2⟩ : ∃ p l c, m5 = Value.slice p l c := ⟨_, _, _, hsl.2.2.1⟩
                  obtain ⟨p3, l3, c3, h3⟩ : ∃ p l c, r5 = Value.slice p l c := ⟨_, _, _, hsl.2.2.2.1⟩
                  obtain ⟨p4, l4, c4, h4⟩ : ∃ p l c, q5 = Value.slice p l c := ⟨_, _, _, hsl.2.2.2.2.1⟩
                  obtain ⟨p5, l5, c5, h5⟩ : ∃ p l c, s5 = Value.slice p l c := ⟨_, _, _, hsl.2.2.2.2.2⟩
                  clear hsl
                  subst h0; subst h1; subst h2; subst h3; subst h4; subst h5
                  have hO : rwO x = ⟨x.D, rwC x k, rwM x k, x.R, x.Q.map (rwR x), x.S.map (rwS x)⟩ := by unfold rwO; rw [Hne.out]
                  rw [← hO] at hR
                  have HRf := hid hR
                  have hgg := hR.g
                  have hres := HB3.out.res.kept0 hgg
                  have hflt := HB3.out.flt.kept0 hgg
                  have hE := HV3.out.kept0 hgg
                  have hXg := hR.r9.ob.g1
                  have r0 := hres.cell 0 (v := .slice none 0 0) rfl
                  have r1 := hres.cell 1 (v := .slice none 0 0) rfl
                  have r2 := hres.cell 2 (v := .slice none 0 0) rfl
                  have r3 := hres.cell 3 (v := .slice none 0 0) rfl
                  have r4 := hres.cell 4 (v := .slice none 0 0) rfl
                  have r5 := hres.cell 5 (v := .slice none 0 0) rfl
                  have rf := fun j => hres.free j
                  have k0 := hflt.cell 0 (v := .int .i64 0) rfl
                  have k1 := hflt.cell 1 (v := .bool false) rfl
                  have k2 := hflt.cell 2 (v := .int .i64 0) rfl
                  have kf := fun j => hflt.free j
                  have u0 := hE.cell 0 (v := .int .i64 0) rfl
                  have u1 := hE.cell 1 (v := .bool false) rfl
                  have u2 := hE.cell 2 (v := .int .i64 0) rfl
                  have x0 := hXg.cell 0 (v := .slice p0 l0 c0) rfl
                  have x1 := hXg.cell 1 (v := .slice p1 l1 c1) rfl
                  have x2 := hXg.cell 2 (v := .slice p2 l2 c2) rfl
                  have x3 := hXg.cell 3 (v := .slice p3 l3 c3) rfl
                  have x4 := hXg.cell 4 (v := .slice p4 l4 c4) rfl
                  have x5 := hXg.cell 5 (v := .slice p5 l5 c5) rfl
                  have hRlt := HB3.out.res.lt
                  have hFlt := HB3.out.flt.lt
                  have hXge := hR.r9.ob.ge1
                  have hRF := HB3.out.ne.2.2
                  have hRE : R ≠ E := Nat.ne_of_lt HEn.out.1
                  have hFE : F ≠ E := Nat.ne_of_lt HEn.out.2
                  have hRX : R ≠ X := by omega
                  have hFX : F ≠ X := by omega
                  have HQr : RwAt ((((((wr.setCell ⟨R, 0, none⟩ (.slice p0 l0 c0)).setCell ⟨R, 1, none⟩ (.slice p1 l1 c1)).setCell ⟨R, 2, none⟩ (.slice p2 l2 c2)).setCell ⟨R, 3, none⟩ (.slice p3 l3 c3)).setCell ⟨R, 4, none⟩ (.slice p4 l4 c4)).setCell ⟨R, 5, none⟩ (.slice p5 l5 c5)) R 27 #[.slice p0 l0 c0, .slice p1 l1 c1, .slice p2 l2 c2, .slice p3 l3 c3, .slice p4 l4 c4, .slice p5 l5 c5] := by simpa using (((((hres.set 0 (.slice p0 l0 c0)).set 1 (.slice p1 l1 c1)).set 2 (.slice p2 l2 c2)).set 3 (.slice p3 l3 c3)).set 4 (.slice p4 l4 c4)).set 5 (.slice p5 l5 c5)
                  have HgA : wr.grownBy ((((((wr.setCell ⟨R, 0, none⟩ (.slice p0 l0 c0)).setCell ⟨R, 1, none⟩ (.slice p1 l1 c1)).setCell ⟨R, 2, none⟩ (.slice p2 l2 c2)).setCell ⟨R, 3, none⟩ (.slice p3 l3 c3)).setCell ⟨R, 4, none⟩ (.slice p4 l4 c4)).setCell ⟨R, 5, none⟩ (.slice p5 l5 c5)) (some R) := grown_setCell (grown_setCell (grown_setCell (grown_setCell (grown_setCell (grown_setCell (grown_refl wr _) _ _) _ _) _ _) _ _) _ _) _ _
                  have HQl : RwAt ((((((wr.setCell ⟨R, 0, none⟩ (.slice p0 l0 c0)).setCell ⟨R, 1, none⟩ (.slice p1 l1 c1)).setCell ⟨R, 2, none⟩ (.slice p2 l2 c2)).setCell ⟨R, 3, none⟩ (.slice p3 l3 c3)).setCell ⟨R, 4, none⟩ (.slice p4 l4 c4)).setCell ⟨R, 5, none⟩ (.slice p5 l5 c5)) F 37 #[.int .i64 0, .bool false, .int .i64 0] := hflt.kept HgA (by simpa using fun e => hRF e.symm)
                  have HgB : ((((((wr.setCell ⟨R, 0, none⟩ (.slice p0 l0 c0)).setCell ⟨R, 1, none⟩ (.slice p1 l1 c1)).setCell ⟨R, 2, none⟩ (.slice p2 l2 c2)).setCell ⟨R, 3, none⟩ (.slice p3 l3 c3)).setCell ⟨R, 4, none⟩ (.slice p4 l4 c4)).setCell ⟨R, 5, none⟩ (.slice p5 l5 c5)).grownBy (((((((((wr.setCell ⟨R, 0, none⟩ (.slice p0 l0 c0)).setCell ⟨R, 1, none⟩ (.slice p1 l1 c1)).setCell ⟨R, 2, none⟩ (.slice p2 l2 c2)).setCell ⟨R, 3, none⟩ (.slice p3 l3 c3)).setCell ⟨R, 4, none⟩ (.slice p4 l4 c4)).setCell ⟨R, 5, none⟩ (.slice p5 l5 c5)).setCell ⟨F, 0, none⟩ (.int .i64 0)).setCell ⟨F, 1, none⟩ (.bool false)).setCell ⟨F, 2, none⟩ (.int .i64 0)) (some F) := grown_setCell (grown_setCell (grown_setCell (grown_refl ((((((wr.setCell ⟨R, 0, none⟩ (.slice p0 l0 c0)).setCell ⟨R, 1, none⟩ (.slice p1 l1 c1)).setCell ⟨R, 2, none⟩ (.slice p2 l2 c2)).setCell ⟨R, 3, none⟩ (.slice p3 l3 c3)).setCell ⟨R, 4, none⟩ (.slice p4 l4 c4)).setCell ⟨R, 5, none⟩ (.slice p5 l5 c5)) _) _ _) _ _) _ _
                  have HQs : RwAt (((((((((wr.setCell ⟨R, 0, none⟩ (.slice p0 l0 c0)).setCell ⟨R, 1, none⟩ (.slice p1 l1 c1)).setCell ⟨R, 2, none⟩ (.slice p2 l2 c2)).setCell ⟨R, 3, none⟩ (.slice p3 l3 c3)).setCell ⟨R, 4, none⟩ (.slice p4 l4 c4)).setCell ⟨R, 5, none⟩ (.slice p5 l5 c5)).setCell ⟨F, 0, none⟩ (.int .i64 0)).setCell ⟨F, 1, none⟩ (.bool false)).setCell ⟨F, 2, none⟩ (.int .i64 0)) R 27 #[.slice p0 l0 c0, .slice p1 l1 c1, .slice p2 l2 c2, .slice p3 l3 c3, .slice p4 l4 c4, .slice p5 l5 c5] := HQr.kept HgB (by simpa using hRF)
                  have HQm : RwAt (((((((((wr.setCell ⟨R, 0, none⟩ (.slice p0 l0 c0)).setCell ⟨R, 1, none⟩ (.slice p1 l1 c1)).setCell ⟨R, 2, none⟩ (.slice p2 l2 c2)).setCell ⟨R, 3, none⟩ (.slice p3 l3 c3)).setCell ⟨R, 4, none⟩ (.slice p4 l4 c4)).setCell ⟨R, 5, none⟩ (.slice p5 l5 c5)).setCell ⟨F, 0, none⟩ (.int .i64 0)).setCell ⟨F, 1, none⟩ (.bool false)).setCell ⟨F, 2, none⟩ (.int .i64 0)) F 37 #[.int .i64 0, .bool false, .int .i64 0] := by simpa using ((HQl.set 0 (.int .i64 0)).set 1 (.bool false)).set 2 (.int .i64 0)
                  have HFn := hid (hR.fin HgA HgB hRlt hFlt)
                  have EG := hid (grown_trans (grown_new' (grown_trans (grown_none (grown_new' (grown_trans (grown_none (grown_trans HB3.out.g hgg)) HgA) (fun j hj => by obtain rfl := Option.some.inj hj; exact HB3.out.ne.1))) HgB) (fun j hj => by obtain rfl := Option.some.inj hj; exact HB3.out.ne.2.1)) (grown_drew (grown_refl (((((((((wr.setCell ⟨R, 0, none⟩ (.slice p0 l0 c0)).setCell ⟨R, 1, none⟩ (.slice p1 l1 c1)).setCell ⟨R, 2, none⟩ (.slice p2 l2 c2)).setCell ⟨R, 3, none⟩ (.slice p3 l3 c3)).setCell ⟨R, 4, none⟩ (.slice p4 l4 c4)).setCell ⟨R, 5, none⟩ (.slice p5 l5 c5)).setCell ⟨F, 0, none⟩ (.int .i64 0)).setCell ⟨F, 1, none⟩ (.bool false)).setCell ⟨F, 2, none⟩ (.int .i64 0)) none)))
                  have z0 := HQs.cell 0 (v := .slice p0 l0 c0) rfl
                  have z1 := HQs.cell 1 (v := .slice p1 l1 c1) rfl
                  have z2 := HQs.cell 2 (v := .slice p2 l2 c2) rfl
                  have z3 := HQs.cell 3 (v := .slice p3 l3 c3) rfl
                  have z4 := HQs.cell 4 (v := .slice p4 l4 c4) rfl
                  have z5 := HQs.cell 5 (v := .slice p5 l5 c5) rfl
                  have m0 := HQm.cell 0 (v := .int .i64 0) rfl
                  have m1 := HQm.cell 1 (v := .bool false) rfl
                  have m2 := HQm.cell 2 (v := .int .i64 0) rfl
                  clear HQr HgA HQl HgB HQs HQm hres hflt hE hXg hR HR hgg hO hRlt hFlt hXge hlt hj2
                  go_wp2
                  go_region
                  all_goals
                    rename (∀ (a : Act) (w : World), Code.wp _ Code.ret _ a w → _) => hKK
                    refine hKK _ _ ?_
                    clear hKK
                    go_wp2
                    refine bodyPost_ret (v := .tuple #[.agg #[.slice p0 l0 c0, .slice p1 l1 c1, .slice p2 l2 c2, .slice p3 l3 c3, .slice p4 l4 c4, .slice p5 l5 c5], .slice (some ⟨g, 0, none⟩) (k + 1) cap, .agg #[.int .i64 0, .bool false, .int .i64 0]]) (by simp [results, Tryd.results9, z0, z1, z2, z3, z4, z5, m0, m1, m2, go_sem]) rfl ?_
                    exact ⟨⟨.slice p0 l0 c0, .slice p1 l1 c1, .slice p2 l2 c2, .slice p3 l3 c3, .slice p4 l4 c4, .slice p5 l5 c5⟩, _, rfl, HFn.out.1.kept0 (grown_drew (grown_refl _ none)), by rw [Hne.out]; exact HFn.out.2.kept0 (grown_drew (grown_refl _ none)), EG.out⟩
end Go.Proofs.YtgahbpfmiibpeaaDoor
