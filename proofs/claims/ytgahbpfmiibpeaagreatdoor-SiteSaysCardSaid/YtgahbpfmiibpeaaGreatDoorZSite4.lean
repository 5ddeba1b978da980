/- Sites where the object may not be: contract. -/
import Derived.Test.YtgahbpfmiibpeaaGreatDoorZGSite
import Derived.Test.YtgahbpfmiibpeaaGreatDoorZOBent0
namespace Go.Proofs.YtgahbpfmiibpeaaGreatDoor
open Go.RowKit
set_option maxRecDepth 100000 in
set_option maxHeartbeats 4000000 in
theorem sites_no {W : World} {A : Nat → Addr} {V : OV} {x : PO} (h : OAt W V x) (he : ErrC W A) (hf : OFit x) (hv : validP x ≠ none) :
    Calls Tryz.prog 12 #[V.agg] W fun e w' => ∃ fv, e = .returned (.tuple #[.slice none 0 0, fv]) ∧ FltAt A w' fv (validP x) ∧ W.grownBy w' none := by
  obtain ⟨d, c, m, r, q, s⟩ := V
  have HB0 := hid (RwAt.new W 27 #[d, c, m, r, q, s])
  have HG0 := hid (World.grownBy_alloc W (.cells #[d, c, m, r, q, s] 27) none)
  have HO := hid h
  have HE := hid he
  have HF := hid hf
  have HV := hid hv
  clear h he hf hv
  go_enter Tryz.func12, Tryz.ntmps12
  go_upto_region 1 with (fail)
  obtain ⟨G, hG⟩ : ∃ G, W.heap.size = G := ⟨_, rfl⟩
  rw [hG] at HB0 ⊢
  clear hG
  generalize W.alloc (.cells #[d, c, m, r, q, s] 27) = w1 at HB0 HG0 ⊢
  go_wp2_with (first
    | (refine wpList_load_rw rfl 27 _ rfl rfl HB0.out rfl Tryz.underlying27 info_object ?_)
    | fail)
  refine (valid_any (V := ⟨d, c, m, r, q, s⟩) (HO.out.kept0 HG0.out) (HE.out.kept0 HG0.out) HF.out).mono ?_
  rintro e w2 ⟨fv, rfl, hfl, hg⟩
  have HFl := hid hfl
  obtain ⟨t, pv, rfl, heq, hneq⟩ := flt_is_e hfl HV.out
  have HG2 := hid (grown_trans HG0.out hg)
  clear hfl hg
  go_wp2
  refine bodyPost_ret (v := .tuple #[.slice none 0 0, .iface t pv]) (by simp [results, Tryz.results12, go_sem]) rfl ?_
  exact ⟨_, rfl, HFl.out, HG2.out⟩
end Go.Proofs.YtgahbpfmiibpeaaGreatDoor
