/- An object that is read (package obj): a contract. (Made by gobjv.py.) -/
import Derived.Test.YtfkecmcnhmlnoaaDoorZObjU
import Derived.Test.YtfkecmcnhmlnoaaDoorZObjH
import Derived.Laws.Rows
namespace Go.Proofs.YtfkecmcnhmlnoaaDoor
open Go.RowKit
theorem CsAt.keptO {w w1 : World} {v : Value} {n : Nat} {cs : List Value} {r : Option Nat} (h : CsAt w v n cs) (hg : w.grownBy w1 r) (hr : v.ownBlock = none ∨ v.ownBlock ≠ r) : CsAt w1 v n cs := by
  rcases h with h | ⟨b, o, c, rfl, hn, hb, hc⟩
  · exact .inl h
  · refine .inr ⟨b, o, c, rfl, hn, Nat.lt_of_lt_of_le hb hg.size, fun j x hx => ?_⟩
    rw [grown_cell hg hb (by simpa [Value.ownBlock] using hr)]
    exact hc j x hx
/-- in blocks from B on -/
def AbB (B : Nat) (v : Value) : Prop := ∀ g, v.ownBlock = some g → B ≤ g
theorem AbB.ne {B r : Nat} {v : Value} (h : AbB B v) (hr : r < B) : v.ownBlock = none ∨ v.ownBlock ≠ some r := .inr fun e => by have := h r e; omega
structure SlB (B : Nat) (w : World) (k : IntKind) (v : Value) (xs : List Int) : Prop where
  sl : SlAt w k v xs
  ab : AbB B v
structure CsB (B : Nat) (w : World) (v : Value) (n : Nat) (cs : List Value) : Prop where
  cs : CsAt w v n cs
  ab : AbB B v
theorem SlB.kept {B r : Nat} {w w1 : World} {k : IntKind} {v : Value} {xs : List Int} (h : SlB B w k v xs) (hg : w.grownBy w1 (some r)) (hr : r < B) : SlB B w1 k v xs := ⟨h.sl.kept hg (h.ab.ne hr), h.ab⟩
theorem CsB.kept {B r : Nat} {w w1 : World} {v : Value} {n : Nat} {cs : List Value} (h : CsB B w v n cs) (hg : w.grownBy w1 (some r)) (hr : r < B) : CsB B w1 v n cs := ⟨h.cs.keptO hg (h.ab.ne hr), h.ab⟩
theorem slb_of {B K m : Nat} {w : World} {k : IntKind} {t : TypeId} {xs : List Int} (h : RwAt w K t (xs.map (Value.int k)).toArray) (hK : B ≤ K) (hm : xs.length = m) : SlB B w k (.slice (some ⟨K, 0, none⟩) m m) xs := by
  subst hm
  exact ⟨SlAt.whole (c := xs.length) h.blk, fun g hg => (show K = g by simpa [Value.ownBlock] using hg) ▸ hK⟩
theorem csb_of {B K m : Nat} {w : World} {t : TypeId} {cs : List Value} (h : RwAt w K t cs.toArray) (hK : B ≤ K) : CsB B w (.slice (some ⟨K, 0, none⟩) m m) m cs := by
  refine ⟨.inr ⟨K, 0, m, rfl, Nat.le_refl _, h.lt, fun j u hu => ?_⟩, fun g hg => (show K = g by simpa [Value.ownBlock] using hg) ▸ hK⟩
  rw [Nat.zero_add]
  exact h.cell j (by simpa using hu)
/-- sizes, the result's box, the object's box, the reader -/
structure OB (w0 w : World) (B S H G : Nat) (nn : Array Value) (gc : Array Value) (R : Nat) (A : Nat → Addr) (b o c : Nat) (s : RS) : Prop where
  sz : RwAt w S 68 nn
  hh : RwAt w H 29 #[.slice none 0 0, .slice none 0 0, .slice none 0 0, .slice none 0 0, .slice none 0 0, .slice none 0 0]
  g : RwAt w G 29 gc
  rd : RdAt w R A b o c s
  gr : w0.grownBy w (some R)
  le : B ≤ w.heap.size
structure OBn (w0 : World) (B S H G R b : Nat) : Prop where
  wR : R < w0.heap.size
  wb : b < w0.heap.size
  wS : w0.heap.size ≤ S
  wH : w0.heap.size ≤ H
  wG : w0.heap.size ≤ G
  SB : S < B
  HB : H < B
  GB : G < B
  SG : S ≠ G
  HG : H ≠ G
section
variable {w0 w w1 : World} {B S H G : Nat} {nn gc : Array Value} {R : Nat} {A : Nat → Addr} {b o c : Nat} {s : RS}
theorem OB.call (h : OB w0 w B S H G nn gc R A b o c s) (hn : OBn w0 B S H G R b) {o' c' : Nat} {s' : RS} (hr : RdAt w1 R A b o' c' s') (hg : w.grownBy w1 (some R)) : OB w0 w1 B S H G nn gc R A b o' c' s' := by
  have n1 := hn.wR; have n2 := hn.wS; have n3 := hn.wH; have n4 := hn.wG
  exact ⟨h.sz.kept hg (fun e => by have := Option.some.inj e; omega), h.hh.kept hg (fun e => by have := Option.some.inj e; omega), h.g.kept hg (fun e => by have := Option.some.inj e; omega), hr, grown_trans h.gr hg, Nat.le_trans h.le hg.size⟩
theorem OB.quiet (h : OB w0 w B S H G nn gc R A b o c s) (hg : w.grownBy w1 none) : OB w0 w1 B S H G nn gc R A b o c s :=
  ⟨h.sz.kept0 hg, h.hh.kept0 hg, h.g.kept0 hg, h.rd.kept0 hg, grown_trans h.gr (grown_none hg), Nat.le_trans h.le hg.size⟩
theorem OB.store (h : OB w0 w B S H G nn gc R A b o c s) (hn : OBn w0 B S H G R b) (i : Nat) (v : Value) : OB w0 (w.setCell ⟨G, i, none⟩ v) B S H G nn (gc.setIfInBounds i v) R A b o c s := by
  have hgs : w.grownBy (w.setCell ⟨G, i, none⟩ v) (some G) := grown_setCell (grown_refl _ _) _ _
  have n1 := hn.wR; have n2 := hn.wb; have n4 := hn.wG
  exact ⟨h.sz.other _ _ _ hn.SG, h.hh.other _ _ _ hn.HG, h.g.set i v, h.rd.kept hgs (fun e => by have := Option.some.inj e; omega) (fun e => by have := Option.some.inj e; omega), grown_over h.gr hgs hn.wG, Nat.le_trans h.le hgs.size⟩
theorem OB.err (h : OB w0 w B S H G nn gc R A b o c s) (hE : ErrR w0 A) (hV : NoVar R) : ErrR w A := hE.keptR h.gr hV
end
/-- behind object -/
def ObjRd (w : World) (R : Nat) (A : Nat → Addr) (b : Nat) (x : PO) (q : RS) (e : Ending) (w' : World) : Prop :=
  ∃ V o' c', e = .returned V.agg ∧ OAt w' V x ∧ RdAt w' R A b o' c' q ∧ w.grownBy w' (some R)
set_option maxRecDepth 100000 in
set_option maxHeartbeats 8000000 in
theorem object_any {w : World} {R : Nat} {A : Nat → Addr} {b o c : Nat} {s : RS} (h : RdAt w R A b o c s) (hE : ErrR w A) (hV : NoVar R) (hb : BtB s.l) (n0 n1 n2 n3 n4 : Nat) (hn : n0 ≤ 2048 ∧ n1 ≤ 2048 ∧ n2 ≤ 2048 ∧ n3 ≤ 2048 ∧ n4 ≤ 2048)
    (pd pc : List Int × RS) (pm : List Int × RS) (pr pq : List Rl × RS) (ps : List Sy × RS) (h0 : manyS wordS n0 s = pd) (h1 : manyS wordS n1 pd.2 = pc) (h2 : takeS n1 pc.2 = pm) (h3 : manyS relS n2 pm.2 = pr) (h4 : manyS relS n3 pr.2 = pq) (h5 : manyS symS n4 pq.2 = ps) :
    Calls Tryd.prog 75 #[.pointer (some ⟨R, 0, none⟩), .agg #[.int .i64 n0, .int .i64 n1, .int .i64 n2, .int .i64 n3, .int .i64 n4]] w (ObjRd w R A b ⟨pd.1, pc.1, pm.1, pr.1, pq.1, ps.1⟩ ps.2) := by
  have Hz := zero_obj
  have HN := hid hn
  have HE := hid hE
  have HV := hid hV
  have hb1 : BtB pd.2.l := by have := (manyS_takes wordS_takes n0).bt hb; rwa [h0] at this
  have hb2 : BtB pc.2.l := by have := (manyS_takes wordS_takes n1).bt hb1; rwa [h1] at this
  have hb3 : BtB pm.2.l := by have := (takeS_takes n1).bt hb2; rwa [h2] at this
  have hb4 : BtB pr.2.l := by have := (manyS_takes relS_takes n2).bt hb3; rwa [h3] at this
  have hb5 : BtB pq.2.l := by have := (manyS_takes relS_takes n3).bt hb4; rwa [h4] at this
  have ld : pd.1.length = n0 := by rw [← h0]; exact manyS_len _ _ _
  have lc : pc.1.length = n1 := by rw [← h1]; exact manyS_len _ _ _
  have lm : pm.1.length ≤ 1000000 := by rw [← h2]; rcases takeS_len2 n1 pc.2 with e | e; (rw [e]; simp); (rw [e]; omega)
  have lr : pr.1.length = n2 := by rw [← h3]; exact manyS_len _ _ _
  have lq : pq.1.length = n3 := by rw [← h4]; exact manyS_len _ _ _
  have ls : ps.1.length = n4 := by rw [← h5]; exact manyS_len _ _ _
  have HB0 := hid hb
  have HB1 := hid hb1
  have HB2 := hid hb2
  have HB3 := hid hb3
  have HB4 := hid hb4
  have HB5 := hid hb5
  have LD := hid ld
  have LC := hid lc
  have LM := hid lm
  have LRr := hid lr
  have LQ := hid lq
  have LS := hid ls
  have P0 := hid h0
  have P1 := hid h1
  have P2 := hid h2
  have P3 := hid h3
  have P4 := hid h4
  have P5 := hid h5
  have a1 := World.grownBy_alloc w (.cells #[.int .i64 n0, .int .i64 n1, .int .i64 n2, .int .i64 n3, .int .i64 n4] 68) none
  have a2 := World.grownBy_alloc (w.alloc (.cells #[.int .i64 n0, .int .i64 n1, .int .i64 n2, .int .i64 n3, .int .i64 n4] 68)) (.cells #[.slice none 0 0, .slice none 0 0, .slice none 0 0, .slice none 0 0, .slice none 0 0, .slice none 0 0] 29) none
  have a3 := World.grownBy_alloc ((w.alloc (.cells #[.int .i64 n0, .int .i64 n1, .int .i64 n2, .int .i64 n3, .int .i64 n4] 68)).alloc (.cells #[.slice none 0 0, .slice none 0 0, .slice none 0 0, .slice none 0 0, .slice none 0 0, .slice none 0 0] 29)) (.cells #[.slice none 0 0, .slice none 0 0, .slice none 0 0, .slice none 0 0, .slice none 0 0, .slice none 0 0] 29) none
  have HO0 : Hid (OB w (((w.alloc (.cells #[.int .i64 n0, .int .i64 n1, .int .i64 n2, .int .i64 n3, .int .i64 n4] 68)).alloc (.cells #[.slice none 0 0, .slice none 0 0, .slice none 0 0, .slice none 0 0, .slice none 0 0, .slice none 0 0] 29)).alloc (.cells #[.slice none 0 0, .slice none 0 0, .slice none 0 0, .slice none 0 0, .slice none 0 0, .slice none 0 0] 29)) (w.heap.size + 3) w.heap.size (w.heap.size + 1) (w.heap.size + 2) #[.int .i64 n0, .int .i64 n1, .int .i64 n2, .int .i64 n3, .int .i64 n4] #[.slice none 0 0, .slice none 0 0, .slice none 0 0, .slice none 0 0, .slice none 0 0, .slice none 0 0] R A b o c s) := hid
    ⟨((RwAt.new w _ _).alloc _).alloc _, (RwAt.new2 w _ _ _).alloc _, by have := RwAt.new ((w.alloc (.cells #[.int .i64 n0, .int .i64 n1, .int .i64 n2, .int .i64 n3, .int .i64 n4] 68)).alloc (.cells #[.slice none 0 0, .slice none 0 0, .slice none 0 0, .slice none 0 0, .slice none 0 0, .slice none 0 0] 29)) 29 #[.slice none 0 0, .slice none 0 0, .slice none 0 0, .slice none 0 0, .slice none 0 0, .slice none 0 0]; simpa using this, ((h.kept0 a1).kept0 a2).kept0 a3, grown_none (grown_trans (grown_trans a1 a2) a3), by simp⟩
  have hON : OBn w (w.heap.size + 3) w.heap.size (w.heap.size + 1) (w.heap.size + 2) R b := ⟨h.box.lt, h.lt, by omega, by omega, by omega, by omega, by omega, by omega, by omega, by omega⟩
  obtain ⟨S, hS⟩ : ∃ S, w.heap.size = S := ⟨_, rfl⟩
  rw [hS] at HO0 hON
  obtain ⟨B, hB⟩ : ∃ B, S + 3 = B := ⟨_, rfl⟩
  obtain ⟨G, hG0⟩ : ∃ G, S + 2 = G := ⟨_, rfl⟩
  obtain ⟨H, hH⟩ : ∃ H, S + 1 = H := ⟨_, rfl⟩
  have hG : H + 1 = G := by omega
  rw [hB, hG0, hH] at HO0 hON
  clear hB hG0
  clear h hE hV hb hb1 hb2 hb3 hb4 hb5 ld lc lm lr lq ls h0 h1 h2 h3 h4 h5 a1 a2 a3 hn
  go_enter Tryd.func75, Tryd.ntmps75
  go_upto_region 2 with (fail)
  clear hS hH hG Hz
  generalize ((w.alloc (.cells #[.int .i64 n0, .int .i64 n1, .int .i64 n2, .int .i64 n3, .int .i64 n4] 68)).alloc (.cells #[.slice none 0 0, .slice none 0 0, .slice none 0 0, .slice none 0 0, .slice none 0 0, .slice none 0 0] 29)).alloc (.cells #[.slice none 0 0, .slice none 0 0, .slice none 0 0, .slice none 0 0, .slice none 0 0, .slice none 0 0] 29) = w1 at HO0 ⊢
  have Hn := hid hON
  have bR : Hid (R < B) := hid (by have := hON.wR; have := hON.wS; have := hON.SB; omega)
  have bG : Hid (G < B) := hid hON.GB
  clear hON
  have e0 := HO0.out.sz.cell 0 (v := .int .i64 n0) rfl
  have hm0 : manyS wordS n0 s = pd := P0.out
  have Hw0 := hid (words_any HO0.out.rd (HO0.out.err HE.out HV.out) HV.out HB0.out n0 (by have := HN.out.1; omega))
  rw [hm0] at Hw0
  clear hm0
  go_wp2_with fail
  refine (Hw0.out).mono ?_
  rintro e w2 ⟨K0, o2, c2, rfl, hl⟩
  have hc0 := HO0.out.call Hn.out hl.rd ⟨hl.g.os, hl.g.tape, hl.g.output, hl.g.size, hl.g.block⟩
  have HK0 := hid (slb_of (k := .u32) hl.row (Nat.le_trans HO0.out.le hl.nK) LD.out)
  have HC0 := hid hc0
  clear hc0 hl e0 HO0 Hw0
  have q0 := HC0.out.g.cell 0 (v := .slice none 0 0) rfl
  have z0 := HC0.out.g.free 0
  have HO1 : Hid (OB w (w2.setCell ⟨G, 0, none⟩ (.slice (some ⟨K0, 0, none⟩) n0 n0)) B S H G #[.int .i64 n0, .int .i64 n1, .int .i64 n2, .int .i64 n3, .int .i64 n4] #[.slice (some ⟨K0, 0, none⟩) n0 n0, .slice none 0 0, .slice none 0 0, .slice none 0 0, .slice none 0 0, .slice none 0 0] R A b o2 c2 pd.2) := hid (by
    have := HC0.out.store Hn.out 0 (.slice (some ⟨K0, 0, none⟩) n0 n0)
    simpa using this)
  have HK0 := hid (HK0.out.kept (set_grown (R := G) 0 (.slice (some ⟨K0, 0, none⟩) n0 n0)) bG.out)
  go_upto_region 3 with (fail)
  clear q0 z0 HC0
  generalize w2.setCell ⟨G, 0, none⟩ (.slice (some ⟨K0, 0, none⟩) n0 n0) = x0 at HO1 HK0 ⊢
  have e1 := HO1.out.sz.cell 1 (v := .int .i64 n1) rfl
  have hm1 : manyS wordS n1 pd.2 = pc := P1.out
  have Hw1 := hid (words_any HO1.out.rd (HO1.out.err HE.out HV.out) HV.out HB1.out n1 (by have := HN.out.2.1; omega))
  rw [hm1] at Hw1
  clear hm1
  go_wp2_with fail
  refine (Hw1.out).mono ?_
  rintro e w2 ⟨K1, o2, c2, rfl, hl⟩
  have hc1 := HO1.out.call Hn.out hl.rd ⟨hl.g.os, hl.g.tape, hl.g.output, hl.g.size, hl.g.block⟩
  have HK1 := hid (slb_of (k := .u32) hl.row (Nat.le_trans HO1.out.le hl.nK) LC.out)
  have HK0 := hid (HK0.out.kept hl.g bR.out)
  have HC1 := hid hc1
  clear hc1 hl e1 HO1 Hw1
  have q1 := HC1.out.g.cell 1 (v := .slice none 0 0) rfl
  have z1 := HC1.out.g.free 1
  have HO2 : Hid (OB w (w2.setCell ⟨G, 1, none⟩ (.slice (some ⟨K1, 0, none⟩) n1 n1)) B S H G #[.int .i64 n0, .int .i64 n1, .int .i64 n2, .int .i64 n3, .int .i64 n4] #[.slice (some ⟨K0, 0, none⟩) n0 n0, .slice (some ⟨K1, 0, none⟩) n1 n1, .slice none 0 0, .slice none 0 0, .slice none 0 0, .slice none 0 0] R A b o2 c2 pc.2) := hid (by
    have := HC1.out.store Hn.out 1 (.slice (some ⟨K1, 0, none⟩) n1 n1)
    simpa using this)
  have HK0 := hid (HK0.out.kept (set_grown (R := G) 1 (.slice (some ⟨K1, 0, none⟩) n1 n1)) bG.out)
  have HK1 := hid (HK1.out.kept (set_grown (R := G) 1 (.slice (some ⟨K1, 0, none⟩) n1 n1)) bG.out)
  go_upto_region 4 with (fail)
  clear q1 z1 HC1
  generalize w2.setCell ⟨G, 1, none⟩ (.slice (some ⟨K1, 0, none⟩) n1 n1) = x1 at HO2 HK0 HK1 ⊢
  have e2 := HO2.out.g.cell 1 (v := .slice (some ⟨K1, 0, none⟩) n1 n1) rfl
  have Hw2 := hid (take_any HO2.out.rd (HO2.out.err HE.out HV.out) n1)
  go_wp2_with fail
  clear e2
  refine (Hw2.out).mono ?_
  rintro e w2 ⟨o2, c2, tv, rfl, hr, htk, hg⟩
  rw [P2.out] at hr htk
  have hc2 := HO2.out.call Hn.out hr hg
  have HK0 := hid (HK0.out.kept hg bR.out)
  have HK1 := hid (HK1.out.kept hg bR.out)
  have HCa := hid hc2
  have Htk := hid htk.sl
  clear hr htk hg hc2 HO2 Hw2
  go_wp2_with fail
  refine (clone_u8 Htk.out LM.out).mono ?_
  rintro e w3 ⟨mv, rfl, hown, hg⟩
  obtain ⟨pmv, cmv, rfl⟩ := own_slice hown
  have HC2 := hid (HCa.out.quiet hg)
  have HK2 : Hid (SlB B w3 .u8 (.slice pmv pm.1.length cmv) pm.1) := hid ⟨SlAt.own hown, fun g hgg => Nat.le_trans HCa.out.le ((hown.lt g hgg).1)⟩
  have HK0 := hid (HK0.out.kept (r := R) (grown_none hg) bR.out)
  have HK1 := hid (HK1.out.kept (r := R) (grown_none hg) bR.out)
  clear hown hg HCa Htk
  have q2 := HC2.out.g.cell 2 (v := .slice none 0 0) rfl
  have z2 := HC2.out.g.free 2
  have HO3 : Hid (OB w (w3.setCell ⟨G, 2, none⟩ (.slice pmv pm.1.length cmv)) B S H G #[.int .i64 n0, .int .i64 n1, .int .i64 n2, .int .i64 n3, .int .i64 n4] #[.slice (some ⟨K0, 0, none⟩) n0 n0, .slice (some ⟨K1, 0, none⟩) n1 n1, .slice pmv pm.1.length cmv, .slice none 0 0, .slice none 0 0, .slice none 0 0] R A b o2 c2 pm.2) := hid (by
    have := HC2.out.store Hn.out 2 (.slice pmv pm.1.length cmv)
    simpa using this)
  have HK0 := hid (HK0.out.kept (set_grown (R := G) 2 (.slice pmv pm.1.length cmv)) bG.out)
  have HK1 := hid (HK1.out.kept (set_grown (R := G) 2 (.slice pmv pm.1.length cmv)) bG.out)
  have HK2 := hid (HK2.out.kept (set_grown (R := G) 2 (.slice pmv pm.1.length cmv)) bG.out)
  go_upto_region 5 with (fail)
  clear q2 z2 HC2
  generalize w3.setCell ⟨G, 2, none⟩ (.slice pmv pm.1.length cmv) = x2 at HO3 HK0 HK1 HK2 ⊢
  have e3 := HO3.out.sz.cell 2 (v := .int .i64 n2) rfl
  have hm3 : manyS relS n2 pm.2 = pr := P3.out
  have Hw3 := hid (relocs_any HO3.out.rd (HO3.out.err HE.out HV.out) HV.out HB3.out n2 (by have := HN.out.2.2.1; omega))
  rw [hm3] at Hw3
  clear hm3
  go_wp2_with fail
  refine (Hw3.out).mono ?_
  rintro e w2 ⟨K3, o2, c2, rfl, hl⟩
  have hc3 := HO3.out.call Hn.out hl.rd ⟨hl.g.os, hl.g.tape, hl.g.output, hl.g.size, hl.g.block⟩
  have HK3 := hid (csb_of (m := n2) hl.row (Nat.le_trans HO3.out.le hl.nK))
  have HK0 := hid (HK0.out.kept hl.g bR.out)
  have HK1 := hid (HK1.out.kept hl.g bR.out)
  have HK2 := hid (HK2.out.kept hl.g bR.out)
  have HC3 := hid hc3
  clear hc3 hl e3 HO3 Hw3
  have q3 := HC3.out.g.cell 3 (v := .slice none 0 0) rfl
  have z3 := HC3.out.g.free 3
  have HO4 : Hid (OB w (w2.setCell ⟨G, 3, none⟩ (.slice (some ⟨K3, 0, none⟩) n2 n2)) B S H G #[.int .i64 n0, .int .i64 n1, .int .i64 n2, .int .i64 n3, .int .i64 n4] #[.slice (some ⟨K0, 0, none⟩) n0 n0, .slice (some ⟨K1, 0, none⟩) n1 n1, .slice pmv pm.1.length cmv, .slice (some ⟨K3, 0, none⟩) n2 n2, .slice none 0 0, .slice none 0 0] R A b o2 c2 pr.2) := hid (by
    have := HC3.out.store Hn.out 3 (.slice (some ⟨K3, 0, none⟩) n2 n2)
    simpa using this)
  have HK0 := hid (HK0.out.kept (set_grown (R := G) 3 (.slice (some ⟨K3, 0, none⟩) n2 n2)) bG.out)
  have HK1 := hid (HK1.out.kept (set_grown (R := G) 3 (.slice (some ⟨K3, 0, none⟩) n2 n2)) bG.out)
  have HK2 := hid (HK2.out.kept (set_grown (R := G) 3 (.slice (some ⟨K3, 0, none⟩) n2 n2)) bG.out)
  have HK3 := hid (HK3.out.kept (set_grown (R := G) 3 (.slice (some ⟨K3, 0, none⟩) n2 n2)) bG.out)
  go_upto_region 6 with (fail)
  clear q3 z3 HC3
  generalize w2.setCell ⟨G, 3, none⟩ (.slice (some ⟨K3, 0, none⟩) n2 n2) = x3 at HO4 HK0 HK1 HK2 HK3 ⊢
  have e4 := HO4.out.sz.cell 3 (v := .int .i64 n3) rfl
  have hm4 : manyS relS n3 pr.2 = pq := P4.out
  have Hw4 := hid (relocs_any HO4.out.rd (HO4.out.err HE.out HV.out) HV.out HB4.out n3 (by have := HN.out.2.2.2.1; omega))
  rw [hm4] at Hw4
  clear hm4
  go_wp2_with fail
  refine (Hw4.out).mono ?_
  rintro e w2 ⟨K4, o2, c2, rfl, hl⟩
  have hc4 := HO4.out.call Hn.out hl.rd ⟨hl.g.os, hl.g.tape, hl.g.output, hl.g.size, hl.g.block⟩
  have HK4 := hid (csb_of (m := n3) hl.row (Nat.le_trans HO4.out.le hl.nK))
  have HK0 := hid (HK0.out.kept hl.g bR.out)
  have HK1 := hid (HK1.out.kept hl.g bR.out)
  have HK2 := hid (HK2.out.kept hl.g bR.out)
  have HK3 := hid (HK3.out.kept hl.g bR.out)
  have HC4 := hid hc4
  clear hc4 hl e4 HO4 Hw4
  have q4 := HC4.out.g.cell 4 (v := .slice none 0 0) rfl
  have z4 := HC4.out.g.free 4
  have HO5 : Hid (OB w (w2.setCell ⟨G, 4, none⟩ (.slice (some ⟨K4, 0, none⟩) n3 n3)) B S H G #[.int .i64 n0, .int .i64 n1, .int .i64 n2, .int .i64 n3, .int .i64 n4] #[.slice (some ⟨K0, 0, none⟩) n0 n0, .slice (some ⟨K1, 0, none⟩) n1 n1, .slice pmv pm.1.length cmv, .slice (some ⟨K3, 0, none⟩) n2 n2, .slice (some ⟨K4, 0, none⟩) n3 n3, .slice none 0 0] R A b o2 c2 pq.2) := hid (by
    have := HC4.out.store Hn.out 4 (.slice (some ⟨K4, 0, none⟩) n3 n3)
    simpa using this)
  have HK0 := hid (HK0.out.kept (set_grown (R := G) 4 (.slice (some ⟨K4, 0, none⟩) n3 n3)) bG.out)
  have HK1 := hid (HK1.out.kept (set_grown (R := G) 4 (.slice (some ⟨K4, 0, none⟩) n3 n3)) bG.out)
  have HK2 := hid (HK2.out.kept (set_grown (R := G) 4 (.slice (some ⟨K4, 0, none⟩) n3 n3)) bG.out)
  have HK3 := hid (HK3.out.kept (set_grown (R := G) 4 (.slice (some ⟨K4, 0, none⟩) n3 n3)) bG.out)
  have HK4 := hid (HK4.out.kept (set_grown (R := G) 4 (.slice (some ⟨K4, 0, none⟩) n3 n3)) bG.out)
  go_upto_region 7 with (fail)
  clear q4 z4 HC4
  generalize w2.setCell ⟨G, 4, none⟩ (.slice (some ⟨K4, 0, none⟩) n3 n3) = x4 at HO5 HK0 HK1 HK2 HK3 HK4 ⊢
  have e5 := HO5.out.sz.cell 4 (v := .int .i64 n4) rfl
  have hm5 : manyS symS n4 pq.2 = ps := P5.out
  have Hw5 := hid (syms_any HO5.out.rd (HO5.out.err HE.out HV.out) HV.out HB5.out n4 (by have := HN.out.2.2.2.2; omega))
  rw [hm5] at Hw5
  clear hm5
  go_wp2_with fail
  refine (Hw5.out).mono ?_
  rintro e w2 ⟨K5, o2, c2, rfl, hl⟩
  have hc5 := HO5.out.call Hn.out hl.rd ⟨hl.g.os, hl.g.tape, hl.g.output, hl.g.size, hl.g.block⟩
  have HK5 := hid (csb_of (m := n4) hl.row (Nat.le_trans HO5.out.le hl.nK))
  have HK0 := hid (HK0.out.kept hl.g bR.out)
  have HK1 := hid (HK1.out.kept hl.g bR.out)
  have HK2 := hid (HK2.out.kept hl.g bR.out)
  have HK3 := hid (HK3.out.kept hl.g bR.out)
  have HK4 := hid (HK4.out.kept hl.g bR.out)
  have HC5 := hid hc5
  clear hc5 hl e5 HO5 Hw5
  have q5 := HC5.out.g.cell 5 (v := .slice none 0 0) rfl
  have z5 := HC5.out.g.free 5
  have HO6 : Hid (OB w (w2.setCell ⟨G, 5, none⟩ (.slice (some ⟨K5, 0, none⟩) n4 n4)) B S H G #[.int .i64 n0, .int .i64 n1, .int .i64 n2, .int .i64 n3, .int .i64 n4] #[.slice (some ⟨K0, 0, none⟩) n0 n0, .slice (some ⟨K1, 0, none⟩) n1 n1, .slice pmv pm.1.length cmv, .slice (some ⟨K3, 0, none⟩) n2 n2, .slice (some ⟨K4, 0, none⟩) n3 n3, .slice (some ⟨K5, 0, none⟩) n4 n4] R A b o2 c2 ps.2) := hid (by
    have := HC5.out.store Hn.out 5 (.slice (some ⟨K5, 0, none⟩) n4 n4)
    simpa using this)
  have HK0 := hid (HK0.out.kept (set_grown (R := G) 5 (.slice (some ⟨K5, 0, none⟩) n4 n4)) bG.out)
  have HK1 := hid (HK1.out.kept (set_grown (R := G) 5 (.slice (some ⟨K5, 0, none⟩) n4 n4)) bG.out)
  have HK2 := hid (HK2.out.kept (set_grown (R := G) 5 (.slice (some ⟨K5, 0, none⟩) n4 n4)) bG.out)
  have HK3 := hid (HK3.out.kept (set_grown (R := G) 5 (.slice (some ⟨K5, 0, none⟩) n4 n4)) bG.out)
  have HK4 := hid (HK4.out.kept (set_grown (R := G) 5 (.slice (some ⟨K5, 0, none⟩) n4 n4)) bG.out)
  have HK5 := hid (HK5.out.kept (set_grown (R := G) 5 (.slice (some ⟨K5, 0, none⟩) n4 n4)) bG.out)
  go_upto_region 8 with (fail)
  clear q5 z5 HC5
  generalize w2.setCell ⟨G, 5, none⟩ (.slice (some ⟨K5, 0, none⟩) n4 n4) = x5 at HO6 HK0 HK1 HK2 HK3 HK4 HK5 ⊢
  have g0 := HO6.out.hh.cell 0 rfl
  have g1 := HO6.out.hh.cell 1 rfl
  have g2 := HO6.out.hh.cell 2 rfl
  have g3 := HO6.out.hh.cell 3 rfl
  have g4 := HO6.out.hh.cell 4 rfl
  have g5 := HO6.out.hh.cell 5 rfl
  have gf := fun j => HO6.out.hh.free j
  go_wp2_with (first
    | (refine wpList_load_rw rfl 29 _ rfl rfl HO6.out.g rfl Tryd.underlying29 info_object ?_)
    | (refine wpList_store_rw rfl 29 _ _ rfl rfl rfl HO6.out.hh info_object rfl (by simp [Value.oneCell']) ?_)
    | fail)
  clear g0 g1 g2 g3 g4 g5 gf
  have HF : RwAt (x5.setRow H #[.slice (some ⟨K0, 0, none⟩) n0 n0, .slice (some ⟨K1, 0, none⟩) n1 n1, .slice pmv pm.1.length cmv, .slice (some ⟨K3, 0, none⟩) n2 n2, .slice (some ⟨K4, 0, none⟩) n3 n3, .slice (some ⟨K5, 0, none⟩) n4 n4]) H 29 #[.slice (some ⟨K0, 0, none⟩) n0 n0, .slice (some ⟨K1, 0, none⟩) n1 n1, .slice pmv pm.1.length cmv, .slice (some ⟨K3, 0, none⟩) n2 n2, .slice (some ⟨K4, 0, none⟩) n3 n3, .slice (some ⟨K5, 0, none⟩) n4 n4] := HO6.out.hh.row _
  have hgr : x5.grownBy (x5.setRow H #[.slice (some ⟨K0, 0, none⟩) n0 n0, .slice (some ⟨K1, 0, none⟩) n1 n1, .slice pmv pm.1.length cmv, .slice (some ⟨K3, 0, none⟩) n2 n2, .slice (some ⟨K4, 0, none⟩) n3 n3, .slice (some ⟨K5, 0, none⟩) n4 n4]) (some H) := ⟨rfl, rfl, rfl, by simp [World.setRow], fun i _ hi => setRow_other x5 H i _ (fun e => hi (by rw [e]))⟩
  have hH := Hn.out.wH
  have hR := Hn.out.wR
  have hb := Hn.out.wb
  have hHB := Hn.out.HB
  have HF := hid HF
  have HRD := hid (HO6.out.rd.kept hgr (fun e => by have := Option.some.inj e; omega) (fun e => by have := Option.some.inj e; omega))
  have HGR := hid (grown_over HO6.out.gr hgr hH)
  have HOA : Hid (OAt (x5.setRow H #[.slice (some ⟨K0, 0, none⟩) n0 n0, .slice (some ⟨K1, 0, none⟩) n1 n1, .slice pmv pm.1.length cmv, .slice (some ⟨K3, 0, none⟩) n2 n2, .slice (some ⟨K4, 0, none⟩) n3 n3, .slice (some ⟨K5, 0, none⟩) n4 n4]) ⟨.slice (some ⟨K0, 0, none⟩) n0 n0, .slice (some ⟨K1, 0, none⟩) n1 n1, .slice pmv pm.1.length cmv, .slice (some ⟨K3, 0, none⟩) n2 n2, .slice (some ⟨K4, 0, none⟩) n3 n3, .slice (some ⟨K5, 0, none⟩) n4 n4⟩ ⟨pd.1, pc.1, pm.1, pr.1, pq.1, ps.1⟩) := hid (by
    refine ⟨(HK0.out.kept hgr hHB).sl, (HK1.out.kept hgr hHB).sl, (HK2.out.kept hgr hHB).sl, ?_, ?_, ?_⟩
    · have := (HK3.out.kept hgr hHB).cs; rw [← LRr.out] at this ⊢; exact this
    · have := (HK4.out.kept hgr hHB).cs; rw [← LQ.out] at this ⊢; exact this
    · have := (HK5.out.kept hgr hHB).cs; rw [← LS.out] at this ⊢; exact this)
  clear hgr HO6
  generalize x5.setRow H #[.slice (some ⟨K0, 0, none⟩) n0 n0, .slice (some ⟨K1, 0, none⟩) n1 n1, .slice pmv pm.1.length cmv, .slice (some ⟨K3, 0, none⟩) n2 n2, .slice (some ⟨K4, 0, none⟩) n3 n3, .slice (some ⟨K5, 0, none⟩) n4 n4] = x6 at HF HRD HGR HOA ⊢
  have r0 := HF.out.cell 0 rfl
  have r1 := HF.out.cell 1 rfl
  have r2 := HF.out.cell 2 rfl
  have r3 := HF.out.cell 3 rfl
  have r4 := HF.out.cell 4 rfl
  have r5 := HF.out.cell 5 rfl
  refine bodyPost_ret (v := .agg #[.slice (some ⟨K0, 0, none⟩) n0 n0, .slice (some ⟨K1, 0, none⟩) n1 n1, .slice pmv pm.1.length cmv, .slice (some ⟨K3, 0, none⟩) n2 n2, .slice (some ⟨K4, 0, none⟩) n3 n3, .slice (some ⟨K5, 0, none⟩) n4 n4]) (by simp [results, Tryd.results75, go_sem, r0, r1, r2, r3, r4, r5]) rfl ?_
  exact ⟨⟨.slice (some ⟨K0, 0, none⟩) n0 n0, .slice (some ⟨K1, 0, none⟩) n1 n1, .slice pmv pm.1.length cmv, .slice (some ⟨K3, 0, none⟩) n2 n2, .slice (some ⟨K4, 0, none⟩) n3 n3, .slice (some ⟨K5, 0, none⟩) n4 n4⟩, _, _, rfl, HOA.out, HRD.out, HGR.out⟩
end Go.Proofs.YtfkecmcnhmlnoaaDoor
