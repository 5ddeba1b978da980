/- Read (package obj): a contract. -/
import Derived.Test.YtfkecmcnhmlnoaaDoorZObjW
namespace Go.Proofs.YtfkecmcnhmlnoaaDoor
open Go.RowKit
theorem read0_any {w : World} {A : Nat → Addr} (hE : ErrR w A) {bv : Value} {l : List Int} (hv : BvAt w bv l) (hb : BtB l) (hl : l.length ≤ 1099511627776) : Calls Tryd.prog 43 #[bv] w (ReadAt w A l) := by
  by_cases hs : l.length < 24
  · exact read_short hE hv hs
  · rcases hv with ⟨p, c, rfl, rfl⟩ | ⟨b, o, c, rfl, h1, h2, h3, h4⟩
    · simp at hs
    · exact read_long hE h1 h2 hl h3 h4 hb hs
/-- behind Read -/
def RdsAt (w : World) (A : Nat → Addr) (l : List Int) (e : Ending) (w' : World) : Prop :=
  ∃ V fv, e = .returned (.tuple #[V.agg, fv]) ∧ w.grownBy w' none ∧ FltAt A w' fv (readF l) ∧ (readF l = none → OAt w' V (readO l)) ∧ (readF l ≠ none → V = ov0)
theorem flt_box {A : Nat → Addr} {w w1 : World} {H : Nat} {v : Value} {y : Fl} (h : FltAt A w v y) (hH : RwAt w H 29 #[.slice none 0 0, .slice none 0 0, .slice none 0 0, .slice none 0 0, .slice none 0 0, .slice none 0 0]) (hg : w.grownBy w1 (some H)) : FltAt A w1 v y := by
  match y, h with
  | none, h => exact h
  | some (c, none), h => exact h
  | some (c, some p), ⟨B, hv, hb⟩ =>
    refine ⟨B, hv, hb.kept hg (fun e => ?_)⟩
    have e := Option.some.inj e
    have h1 := hb.blk
    have h2 := hH.blk
    rw [e, h2] at h1
    simp at h1
theorem row_grown (w : World) (H : Nat) (c : Array Value) : w.grownBy (w.setRow H c) (some H) := ⟨rfl, rfl, rfl, by simp [World.setRow], fun i _ hi => setRow_other w H i _ (fun e => hi (by rw [e]))⟩
theorem one_ov {V : OV} (h : V.cells.all (·.oneCell') = true) : (#[V.d, V.c, V.m, V.r, V.q, V.s] : Array Value).all (·.oneCell') = true := h
set_option maxRecDepth 100000 in
set_option maxHeartbeats 8000000 in
theorem rread_any {w : World} {A : Nat → Addr} (hE : ErrR w A) (hC : ErrC w A) {bv : Value} {l : List Int} (hv : BvAt w bv l) (hb : BtB l) (hl : l.length ≤ 1099511627776) : Calls Tryd.prog 17 #[bv] w (RdsAt w A l) := by
  have Hz := zero_obj
  have al := World.grownBy_alloc w (.cells #[.slice none 0 0, .slice none 0 0, .slice none 0 0, .slice none 0 0, .slice none 0 0, .slice none 0 0] 29) none
  have HR := hid (read0_any (hE.kept0 al) (hv.kept0 al) hb hl)
  have HC := hid (hC.kept0 al)
  have HG := hid al
  have HH := hid (RwAt.new w 29 #[.slice none 0 0, .slice none 0 0, .slice none 0 0, .slice none 0 0, .slice none 0 0, .slice none 0 0])
  have HB := hid hb
  obtain ⟨p, c, rfl⟩ := hv.len
  obtain ⟨H, hH⟩ : ∃ H, w.heap.size = H := ⟨_, rfl⟩
  have HHw : Hid (w.heap.size ≤ H) := hid (Nat.le_of_eq hH)
  rw [hH] at HH
  clear hE hC hv hb al
  go_enter Tryd.func17, Tryd.ntmps17
  go_upto_region 1 with (fail)
  clear hH
  generalize w.alloc (.cells #[.slice none 0 0, .slice none 0 0, .slice none 0 0, .slice none 0 0, .slice none 0 0, .slice none 0 0] 29) = w1 at HR HC HG HH ⊢
  go_wp2_with fail
  refine (HR.out).mono ?_
  rintro e w2 ⟨⟨vd, vc, vm, vr, vq, vs⟩, ev, rfl, hg, hev, hoa, hone⟩
  have HC2 := hid (HC.out.kept0 hg)
  have HG2 := hid (grown_trans HG.out hg)
  have HH2 := hid (HH.out.kept0 hg)
  have al2 := World.grownBy_alloc w2 (.cells #[.slice none 0 0, .slice none 0 0, .slice none 0 0, .slice none 0 0, .slice none 0 0, .slice none 0 0] 29) none
  have HGz := hid (RwAt.new w2 29 #[.slice none 0 0, .slice none 0 0, .slice none 0 0, .slice none 0 0, .slice none 0 0, .slice none 0 0])
  have Hone := hid (one_ov hone)
  have hgs : w2.grownBy ((w2.alloc (.cells #[.slice none 0 0, .slice none 0 0, .slice none 0 0, .slice none 0 0, .slice none 0 0, .slice none 0 0] 29)).setRow w2.heap.size #[vd, vc, vm, vr, vq, vs]) none := grown_setRow al2 (Nat.le_refl _) _
  have HGo := hid (HGz.out.row #[vd, vc, vm, vr, vq, vs])
  have HC3 := hid (HC2.out.kept0 hgs)
  have HG3 := hid (grown_trans HG2.out hgs)
  have HH3 := hid (HH2.out.kept0 hgs)
  have HOA := hid (fun e => (hoa e).kept0 hgs)
  have Hev := hid hev
  clear hg hev hoa hone al2 hgs HC2 HG2 HH2 HC HG HH HR
  obtain ⟨G, hG⟩ : ∃ G, w2.heap.size = G := ⟨_, rfl⟩
  rw [hG] at HGz HGo HC3 HG3 HH3 HOA
  go_upto_region 2 with (first
    | (refine wpList_store_rw rfl 29 _ _ rfl rfl rfl HGz.out info_object rfl Hone.out ?_)
    | fail)
  clear hG Hz HGz
  generalize (w2.alloc (.cells #[.slice none 0 0, .slice none 0 0, .slice none 0 0, .slice none 0 0, .slice none 0 0, .slice none 0 0] 29)).setRow G #[vd, vc, vm, vr, vq, vs] = w3 at HGo HC3 HG3 HH3 HOA ⊢
  have Hz := zero_obj
  cases hre : readE l with
  | some ec =>
    have hev := Hev.out
    rw [hre] at hev
    obtain rfl : ev = .iface 154 (.pointer (some (A ec))) := hev
    have hrf : readF l = some (ec, none) := by unfold readF; rw [hre]
    have Hrf := hid hrf
    have hn1 := fun W => run_err_nil (A ec) W
    have hn2 := fun W => run_err_neq_nil (A ec) W
    unfold errV at hn1 hn2
    clear hre hrf
    go_wp2_with (first
      | (refine wpList_store_rw rfl 29 _ _ rfl rfl rfl HH3.out info_object rfl (by simp [Value.oneCell']) ?_)
      | fail)
    clear hn1 hn2 Hz
    have HF := HH3.out.row #[.slice none 0 0, .slice none 0 0, .slice none 0 0, .slice none 0 0, .slice none 0 0, .slice none 0 0]
    have hs : w.grownBy (w3.setRow H #[.slice none 0 0, .slice none 0 0, .slice none 0 0, .slice none 0 0, .slice none 0 0, .slice none 0 0]) none := grown_new' (grown_trans (grown_none HG3.out) (row_grown _ _ _)) (fun k hk => by obtain rfl := Option.some.inj hk; exact HHw.out)
    have hfl : FltAt A (w3.setRow H #[.slice none 0 0, .slice none 0 0, .slice none 0 0, .slice none 0 0, .slice none 0 0, .slice none 0 0]) (.iface 154 (.pointer (some (A ec)))) (readF l) := by rw [Hrf.out]; rfl
    generalize w3.setRow H #[.slice none 0 0, .slice none 0 0, .slice none 0 0, .slice none 0 0, .slice none 0 0, .slice none 0 0] = wF at HF hs hfl ⊢
    have r0 := HF.cell 0 rfl
    have r1 := HF.cell 1 rfl
    have r2 := HF.cell 2 rfl
    have r3 := HF.cell 3 rfl
    have r4 := HF.cell 4 rfl
    have r5 := HF.cell 5 rfl
    refine bodyPost_ret (v := .tuple #[.agg #[.slice none 0 0, .slice none 0 0, .slice none 0 0, .slice none 0 0, .slice none 0 0, .slice none 0 0], .iface 154 (.pointer (some (A ec)))]) (by simp [results, Tryd.results17, go_sem, r0, r1, r2, r3, r4, r5]) rfl ?_
    exact ⟨ov0, _, rfl, hs, hfl, fun e => (by rw [Hrf.out] at e; cases e), fun _ => rfl⟩
  | none =>
    have hev := Hev.out
    rw [hre] at hev
    obtain rfl : ev = .nilIface := hev
    have hrf : readF l = validP (readO l) := by unfold readF; rw [hre]
    have Hrf := hid hrf
    have HO3 := hid (HOA.out hre)
    have HFit := hid (oread_fit HB.out hre)
    clear hre hrf
    go_wp2_with (first
      | (refine wpList_load_rw rfl 29 _ rfl rfl HGo.out rfl Tryd.underlying29 info_object ?_)
      | fail)
    refine (valid_any (V := ⟨vd, vc, vm, vr, vq, vs⟩) HO3.out HC3.out HFit.out).mono ?_
    rintro e w4 ⟨fv, rfl, hfl0, hg⟩
    rw [← Hrf.out] at hfl0
    have HFl := hid hfl0
    have HO4 := hid (HO3.out.kept0 hg)
    have HH4 := hid (HH3.out.kept0 hg)
    have HG4 := hid (grown_trans HG3.out hg)
    have HGo4 := hid (HGo.out.kept0 hg)
    clear hfl0 hg HO3 HH3 HG3 HGo HC3 HOA
    by_cases hy : readF l = none
    · have hfl0 := HFl.out
      rw [hy] at hfl0
      obtain rfl : fv = .nilIface := hfl0
      have Hy := hid hy
      clear hy
      go_wp2_with (first
        | (refine wpList_load_rw rfl 29 _ rfl rfl HGo4.out rfl Tryd.underlying29 info_object ?_)
        | (refine wpList_store_rw rfl 29 _ _ rfl rfl rfl HH4.out info_object rfl Hone.out ?_)
        | fail)
      clear Hz
      have HF := HH4.out.row #[vd, vc, vm, vr, vq, vs]
      have hs : w.grownBy (w4.setRow H #[vd, vc, vm, vr, vq, vs]) none := grown_new' (grown_trans (grown_none HG4.out) (row_grown _ _ _)) (fun k hk => by obtain rfl := Option.some.inj hk; exact HHw.out)
      have hfl : FltAt A (w4.setRow H #[vd, vc, vm, vr, vq, vs]) .nilIface (readF l) := flt_box HFl.out HH4.out (row_grown _ _ _)
      have hoF : OAt (w4.setRow H #[vd, vc, vm, vr, vq, vs]) ⟨vd, vc, vm, vr, vq, vs⟩ (readO l) := oat_box HO4.out HH4.out (row_grown _ _ _)
      generalize w4.setRow H #[vd, vc, vm, vr, vq, vs] = wF at HF hs hfl hoF ⊢
      have r0 := HF.cell 0 rfl
      have r1 := HF.cell 1 rfl
      have r2 := HF.cell 2 rfl
      have r3 := HF.cell 3 rfl
      have r4 := HF.cell 4 rfl
      have r5 := HF.cell 5 rfl
      refine bodyPost_ret (v := .tuple #[.agg #[vd, vc, vm, vr, vq, vs], .nilIface]) (by simp [results, Tryd.results17, go_sem, r0, r1, r2, r3, r4, r5]) rfl ?_
      exact ⟨⟨vd, vc, vm, vr, vq, vs⟩, _, rfl, hs, hfl, fun _ => hoF, fun e => absurd Hy.out e⟩
    · obtain ⟨t, pv, rfl, hneq⟩ := flt_is HFl.out hy
      have Hy := hid hy
      clear hy
      go_wp2_with (first
        | (refine wpList_store_rw rfl 29 _ _ rfl rfl rfl HH4.out info_object rfl (by simp [Value.oneCell']) ?_)
        | fail)
      clear Hz hneq
      have HF := HH4.out.row #[.slice none 0 0, .slice none 0 0, .slice none 0 0, .slice none 0 0, .slice none 0 0, .slice none 0 0]
      have hs : w.grownBy (w4.setRow H #[.slice none 0 0, .slice none 0 0, .slice none 0 0, .slice none 0 0, .slice none 0 0, .slice none 0 0]) none := grown_new' (grown_trans (grown_none HG4.out) (row_grown _ _ _)) (fun k hk => by obtain rfl := Option.some.inj hk; exact HHw.out)
      have hfl : FltAt A (w4.setRow H #[.slice none 0 0, .slice none 0 0, .slice none 0 0, .slice none 0 0, .slice none 0 0, .slice none 0 0]) (.iface t pv) (readF l) := flt_box HFl.out HH4.out (row_grown _ _ _)
      generalize w4.setRow H #[.slice none 0 0, .slice none 0 0, .slice none 0 0, .slice none 0 0, .slice none 0 0, .slice none 0 0] = wF at HF hs hfl ⊢
      have r0 := HF.cell 0 rfl
      have r1 := HF.cell 1 rfl
      have r2 := HF.cell 2 rfl
      have r3 := HF.cell 3 rfl
      have r4 := HF.cell 4 rfl
      have r5 := HF.cell 5 rfl
      refine bodyPost_ret (v := .tuple #[.agg #[.slice none 0 0, .slice none 0 0, .slice none 0 0, .slice none 0 0, .slice none 0 0, .slice none 0 0], .iface t pv]) (by simp [results, Tryd.results17, go_sem, r0, r1, r2, r3, r4, r5]) rfl ?_
      exact ⟨ov0, _, rfl, hs, hfl, fun e => absurd e Hy.out, fun _ => rfl⟩
end Go.Proofs.YtfkecmcnhmlnoaaDoor
