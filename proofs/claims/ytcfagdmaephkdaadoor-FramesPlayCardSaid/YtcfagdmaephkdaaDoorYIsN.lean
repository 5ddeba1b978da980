/- facadesee's question about no error: contracts. -/
import Derived.Test.YtcfagdmaephkdaaDoorYBase
import Derived.Laws.CopyOwn
import Derived.Laws.Bits64b
import Derived.Deep.RegionLaw
import Derived.LoopTactic
namespace Go.Proofs.YtcfagdmaephkdaaDoor
open Go.RowKit
set_option maxRecDepth 100000 in
theorem none_anyF (w : World) : Calls Tryd.prog 54 #[] w fun e w' => e = .returned (faultV 0) ∧ w.grownBy w' none := by
  have Hr := hid (grown_refl w none)
  go_enter Tryd.func54, Tryd.ntmps54
  go_wp2
  refine bodyPost_ret (v := .agg #[.int .i64 0, .bool false, .int .i64 0]) (by simp [results, Tryd.results54, go_sem]) rfl ⟨rfl, grown_alloc Hr.out _⟩
set_option maxRecDepth 100000 in
set_option maxHeartbeats 1000000 in
theorem fault_noneF (w : World) : Calls Tryd.prog 48 #[.nilIface] w fun e w' => e = .returned (faultV 0) ∧ w.grownBy w' none := by
  go_enter Tryd.func48, Tryd.ntmps48
  go_wp2_with fail
  refine (none_anyF _).mono ?_; rintro e w2 ⟨rfl, hg⟩
  have HG2 := hid (grown_trans (World.grownBy_alloc w (.cells #[.int .i64 0, .bool false, .int .i64 0] 64) none) hg)
  have hblk : w2.heap[w.heap.size]? = some (.cells #[.int .i64 0, .bool false, .int .i64 0] 64 (0, 0)) := (hg.block _ (by simp) (by simp)).trans (heap_alloc_last _ _)
  have c0 : w2.cell? ⟨w.heap.size, 0, none⟩ = some (.int .i64 0) := by rw [cell_of_row w2 _ _ _ _ _ hblk]; rfl
  have c1 : w2.cell? ⟨w.heap.size, 1, none⟩ = some (.bool false) := by rw [cell_of_row w2 _ _ _ _ _ hblk]; rfl
  have c2 : w2.cell? ⟨w.heap.size, 2, none⟩ = some (.int .i64 0) := by rw [cell_of_row w2 _ _ _ _ _ hblk]; rfl
  have z0 := frozen_of_row w2 w.heap.size 0 _ _ hblk
  have z1 := frozen_of_row w2 w.heap.size 1 _ _ hblk
  have z2 := frozen_of_row w2 w.heap.size 2 _ _ hblk
  clear hblk hg
  unfold faultV
  go_wp2
  refine bodyPost_ret (v := .agg #[.int .i64 0, .bool false, .int .i64 0]) ?_ rfl ⟨rfl, ?_⟩
  · simp [results, Tryd.results48, go_sem, c0, c1, c2]
  · exact grown_new' (grown_setCell (grown_setCell (grown_setCell (grown_none HG2.out) _ _) _ _) _ _) (fun k hk => by obtain rfl := Option.some.inj hk; exact Nat.le_refl _)
set_option maxRecDepth 100000 in
set_option maxHeartbeats 1000000 in
theorem same_noneF {w : World} (d : Int) (r : Bool) (hr : ((0 : Int) == d) = r) :
    Calls Tryd.prog 28 #[.nilIface, faultV d] w fun e w' => e = .returned (.bool r) ∧ w.grownBy w' none := by
  have Hr := hid hr
  clear hr
  obtain ⟨v, hv⟩ : ∃ v : Value, .nilIface = v := ⟨_, rfl⟩
  have Hf : ∀ W, w.grownBy W none → Calls Tryd.prog 48 #[v] W fun e w' => e = .returned (faultV 0) ∧ W.grownBy w' none := fun W hW => by rw [← hv]; exact fault_noneF W
  have Hf := hid Hf
  rw [hv]
  clear hv
  unfold faultV
  go_enter Tryd.func28, Tryd.ntmps28
  go_wp2
  obtain ⟨W0, hW0⟩ : ∃ W0, W0 = w.alloc (.cells #[.int .i64 d, .bool false, .int .i64 0] 64) := ⟨_, rfl⟩
  rw [← hW0]
  have hb0 : W0.heap[w.heap.size]? = some (.cells #[.int .i64 d, .bool false, .int .i64 0] 64 (0, 0)) := by rw [hW0]; exact heap_alloc_last _ _
  have c0 : W0.cell? ⟨w.heap.size, 0, none⟩ = some (.int .i64 d) := by rw [cell_of_row W0 _ _ _ _ _ hb0]; rfl
  have c1 : W0.cell? ⟨w.heap.size, 1, none⟩ = some (.bool false) := by rw [cell_of_row W0 _ _ _ _ _ hb0]; rfl
  have c2 : W0.cell? ⟨w.heap.size, 2, none⟩ = some (.int .i64 0) := by rw [cell_of_row W0 _ _ _ _ _ hb0]; rfl
  have hlt : w.heap.size < W0.heap.size := (Array.getElem?_eq_some_iff.1 hb0).1
  have hg0 : w.grownBy W0 none := by rw [hW0]; exact World.grownBy_alloc _ _ _
  clear hW0 hb0
  go_region_held3 (fun W => W.cell? ⟨w.heap.size, 0, none⟩ = some (.int .i64 d) ∧ W.cell? ⟨w.heap.size, 1, none⟩ = some (.bool false) ∧ W.cell? ⟨w.heap.size, 2, none⟩ = some (.int .i64 0) ∧ w.heap.size < W.heap.size ∧ w.grownBy W none)
    (first | (exact ⟨c0, c1, c2, hlt, grown_drew hg0⟩) | (go_split_ands; exact ⟨(grown_cell hcb (by assumption) (by simp)).trans (by assumption), (grown_cell hcb (by assumption) (by simp)).trans (by assumption), (grown_cell hcb (by assumption) (by simp)).trans (by assumption), Nat.lt_of_lt_of_le (by assumption) hcb.size, grown_trans (by assumption) hcb⟩))
    (first
      | (go_split_ands; go_at_call 48; refine (Hf.out _ (by assumption)).mono ?_; rintro e w' ⟨rfl, hcb⟩)
      | (go_split_ands; go_at_call 47; refine (same_fault _ d _ r Hr.out).mono ?_; rintro e w' ⟨rfl, hcb⟩))
  go_wp2
  go_ret
  go_split_ands
  exact ⟨rfl, by assumption⟩
set_option maxRecDepth 100000 in
theorem is_noneF {w : World} (d : Int) (r : Bool) (hr : ((0 : Int) == d) = r) :
    Calls Tryd.prog 9 #[.nilIface, .int .i64 d] w fun e w' => e = .returned (.bool r) ∧ w.grownBy w' none := by
  have Hr := hid hr
  clear hr
  obtain ⟨v, hv⟩ : ∃ v : Value, .nilIface = v := ⟨_, rfl⟩
  have Hf : ∀ W, w.grownBy W none → Calls Tryd.prog 28 #[v, faultV d] W fun e w' => e = .returned (.bool r) ∧ W.grownBy w' none := fun W hW => by rw [← hv]; exact same_noneF d r Hr.out
  have Hf := hid Hf
  rw [hv]
  clear hv
  go_enter Tryd.func9, Tryd.ntmps9
  go_wp2_with fail
  refine (bare_any d w).mono ?_; rintro e w1 ⟨rfl, hg⟩
  have HG1 := hid hg
  clear hg
  go_wp2_with fail
  refine (Hf.out _ HG1.out).mono ?_; rintro e w2 ⟨rfl, hg⟩
  have HG2 := hid (grown_trans HG1.out hg)
  clear hg
  go_wp2
  go_ret
  exact ⟨rfl, HG2.out⟩
/-- an error, or none, against a number of the document's -/
theorem is_errO {A : Nat → Addr} {w : World} (h : Sents w A) (e : Option Nat) (he : ∀ k, e = some k → k < 16) (d : Int) (r : Bool) (hr : (codO e == d) = r) :
    Calls Tryd.prog 9 #[errO A e, .int .i64 d] w fun x w' => x = .returned (.bool r) ∧ w.grownBy w' none := by
  cases e with
  | none => exact is_noneF d r hr
  | some k => exact is_sent h k (he k rfl) d r hr
end Go.Proofs.YtcfagdmaephkdaaDoor
namespace Go.Proofs.YtcfagdmaephkdaaDoor
open Go.RowKit
abbrev FkAt (w : World) (m b n c : Nat) (L : List Fm) : Prop := FrAt w 61 39 m b n c L
theorem err_neqF (a : Addr) (w : World) : (binOp .neq 26 (errV a) .nilIface).run Tryd.prog w = .ok (.bool true) w := by
  have h : ∀ d : Nat, (Op.equalIn (d + 1) 26 (errV a) .nilIface).run Tryd.prog w = .ok false w := fun d => by simp [errV, Op.equalIn, run_underlying Tryd.underlying26]
  simp only [binOp]
  simp [Op.equal, Op.maxDepth, h 9999]
section
variable {w : World} {m b n c : Nat} {L : List Fm} {A : Nat → Addr}
theorem has_fr (h : FkAt w m b n c L) (f : Int) (r : Bool) (hr : decide (0 ≤ f ∧ f < (n : Int)) = r) :
    Calls Tryd.prog 39 #[.pointer (some ⟨m, 0, none⟩), .int .i64 f] w fun e w' => e = .returned (.bool r) ∧ w = w' := by
  have hm := h.mcell
  by_cases h0 : 0 ≤ f
  · go_enter Tryd.func39, Tryd.ntmps39
    go_wp2
    go_ret
    exact ⟨ret_b (by rw [← hr]; simp [h0]), rfl⟩
  · have h1 : decide (0 ≤ f) = false := by simpa using h0
    go_enter Tryd.func39, Tryd.ntmps39
    go_wp2
    go_ret
    exact ⟨ret_b (by rw [← hr]; simp; omega), rfl⟩
theorem held_no (h : FkAt w m b n c L) (hs : Sents w A) (i : Int) (hat : atF L i = none) :
    Calls Tryd.prog 43 #[.pointer (some ⟨m, 0, none⟩), .int .i64 i] w fun e w' => e = .returned (.tuple #[.pointer none, errV (A 6)]) ∧ w.grownBy w' none := by
  have Hr := hid (grown_refl w none)
  have c6 : w.cell? ⟨4, 0, none⟩ = some (errV (A 6)) := hs.cell 6 _ rfl
  have hl := h.len
  have H := hid h
  have hb : (decide (0 ≤ i ∧ i < (n : Int)) = false) ∨ ∃ k : Nat, ∃ f, i = k ∧ L[k]? = some f ∧ f.o = -1 := by
    rcases atF_none hat with h0 | h0 | h0
    · exact .inl (by simp; omega)
    · exact .inl (by simp; omega)
    · exact .inr h0
  clear h hat hs
  rcases hb with hq | ⟨k, f, rfl, hk, ho⟩
  · have hq := hid hq
    go_enter Tryd.func43, Tryd.ntmps43
    go_wp2_with (go_at_call 39; refine (has_fr H.out i false hq.out).mono ?_; rintro e w' ⟨rfl, rfl⟩)
    go_quiet (fail)
    go_wp2
    go_ret2
    exact ⟨rfl, grown_drewN Hr.out _⟩
  · have hkn := H.out.klt hk
    have hq : Hid (decide (0 ≤ (k : Int) ∧ (k : Int) < (n : Int)) = true) := hid (by simp; omega)
    have co := H.out.cO hk
    rw [ho] at co
    have hm := H.out.mcell
    have k0 : (0 : Int) ≤ (k : Int) := by omega
    have k1 : (k : Int) < (n : Int) := by omega
    clear hk ho
    go_enter Tryd.func43, Tryd.ntmps43
    go_wp2_with (go_at_call 39; refine (has_fr H.out k true hq.out).mono ?_; rintro e w' ⟨rfl, rfl⟩)
    go_quiet (fail)
    go_wp2
    go_ret2
    exact ⟨rfl, grown_drewN Hr.out _⟩
theorem held_yes (h : FkAt w m b n c L) {k : Nat} {f : Fm} (hk : L[k]? = some f) (ho : f.o ≠ -1) :
    Calls Tryd.prog 43 #[.pointer (some ⟨m, 0, none⟩), .int .i64 k] w fun e w' => e = .returned (.tuple #[.pointer (some ⟨b, k * 4, none⟩), .nilIface]) ∧ w = w' := by
  have H := hid h
  have hkn := H.out.klt hk
  have hq : Hid (decide (0 ≤ (k : Int) ∧ (k : Int) < (n : Int)) = true) := hid (by simp; omega)
  have co := H.out.cO hk
  have hm := H.out.mcell
  have k0 : (0 : Int) ≤ (k : Int) := by omega
  have k1 : (k : Int) < (n : Int) := by omega
  have ho1 : (f.o == -1) = false := by simpa using ho
  clear h hk ho
  go_enter Tryd.func43, Tryd.ntmps43
  go_wp2_with (go_at_call 39; refine (has_fr H.out k true hq.out).mono ?_; rintro e w' ⟨rfl, rfl⟩)
  go_ret2
  exact ⟨rfl, rfl⟩
theorem owned_no (h : FkAt w m b n c L) (hs : Sents w A) (i who : Int) (hat : atF L i = none) :
    Calls Tryd.prog 44 #[.pointer (some ⟨m, 0, none⟩), .int .i64 i, .int .i64 who] w fun e w' => e = .returned (.tuple #[.pointer none, errV (A 6)]) ∧ w.grownBy w' none := by
  have Hc := hid (held_no h hs i hat)
  have hn := fun W => err_neqF (A 6) W
  unfold errV at hn Hc ⊢
  clear h hs hat
  go_enter Tryd.func44, Tryd.ntmps44
  go_wp2_with fail
  refine Hc.out.mono ?_; rintro e w1 ⟨rfl, hg⟩
  have Hg := hid hg
  clear hg
  go_wp2
  go_ret2
  exact ⟨rfl, Hg.out⟩
theorem owned_other (h : FkAt w m b n c L) (hs : Sents w A) {k : Nat} {f : Fm} (hk : L[k]? = some f) (ho : f.o ≠ -1) (who : Int) (hw : f.o ≠ who) :
    Calls Tryd.prog 44 #[.pointer (some ⟨m, 0, none⟩), .int .i64 k, .int .i64 who] w fun e w' => e = .returned (.tuple #[.pointer none, errV (A 9)]) ∧ w.grownBy w' none := by
  have Hr := hid (grown_refl w none)
  have c9 : w.cell? ⟨5, 0, none⟩ = some (errV (A 9)) := hs.cell 9 _ rfl
  have Hc := hid (held_yes h hk ho)
  have co := h.cO hk
  have ho1 : (f.o != who) = true := by simpa using hw
  clear h hk ho hs hw
  go_enter Tryd.func44, Tryd.ntmps44
  go_wp2_with (go_at_call 43; refine Hc.out.mono ?_; rintro e w' ⟨rfl, rfl⟩)
  go_quiet (fail)
  go_wp2
  go_ret2
  exact ⟨rfl, grown_drewN Hr.out _⟩
theorem owned_yes (h : FkAt w m b n c L) {k : Nat} {f : Fm} (hk : L[k]? = some f) (ho : f.o ≠ -1) (who : Int) (hw : f.o = who) :
    Calls Tryd.prog 44 #[.pointer (some ⟨m, 0, none⟩), .int .i64 k, .int .i64 who] w fun e w' => e = .returned (.tuple #[.pointer (some ⟨b, k * 4, none⟩), .nilIface]) ∧ w = w' := by
  have Hc := hid (held_yes h hk ho)
  have co := h.cO hk
  have ho1 : (f.o != who) = false := by simpa using hw
  clear h hk ho hw
  go_enter Tryd.func44, Tryd.ntmps44
  go_wp2_with (go_at_call 43; refine Hc.out.mono ?_; rintro e w' ⟨rfl, rfl⟩)
  go_ret2
  exact ⟨rfl, rfl⟩
end
theorem busy_fr (f : Fm) (w : World) : Calls Tryd.prog 45 #[.agg #[.int .i64 f.o, .int .i64 f.t, .int .i64 f.w, .int .i64 f.u]] w fun e w' => e = .returned (.bool (decide (bsy f))) ∧ w.grownBy w' none := by
  have Hr := hid (grown_refl w none)
  by_cases h0 : 0 < f.w
  · have h1 : decide (f.w > 0) = true := by simpa using h0
    have Hd : Hid (true = decide (bsy f)) := hid (by unfold bsy; simp [h0])
    clear h0
    go_enter Tryd.func45, Tryd.ntmps45
    go_wp2
    go_ret
    exact ⟨ret_b Hd.out, grown_alloc Hr.out _⟩
  · have h1 : decide (f.w > 0) = false := by simpa using h0
    have Hd : Hid (decide (f.u > 0) = decide (bsy f)) := hid (by unfold bsy; simp [h0])
    clear h0
    go_enter Tryd.func45, Tryd.ntmps45
    go_wp2
    go_ret
    exact ⟨ret_b Hd.out, grown_alloc Hr.out _⟩
theorem mayOwn_fr (who : Int) (w : World) : Calls Tryd.prog 40 #[.int .i64 who] w fun e w' => e = .returned (.bool (mayB who)) ∧ w = w' := by
  by_cases h0 : 0 ≤ who
  · by_cases h1 : who < 8
    · have Hd : Hid (true = mayB who) := hid (by unfold mayB; simp [h0, h1])
      have e1 : decide (who < 8) = true := by simpa using h1
      go_enter Tryd.func40, Tryd.ntmps40
      go_wp2
      go_ret
      exact ⟨ret_b Hd.out, rfl⟩
    · have Hd : Hid ((who == 100) = mayB who) := hid (by unfold mayB; simp [h1, BEq.beq])
      have e1 : decide (who < 8) = false := by simpa using h1
      clear h1
      go_enter Tryd.func40, Tryd.ntmps40
      go_wp2
      go_ret
      exact ⟨ret_b Hd.out, rfl⟩
  · have Hd : Hid ((who == 100) = mayB who) := hid (by unfold mayB; simp [h0, BEq.beq])
    have e1 : decide (0 ≤ who) = false := by simpa using h0
    clear h0
    go_enter Tryd.func40, Tryd.ntmps40
    go_wp2
    go_ret
    exact ⟨ret_b Hd.out, rfl⟩
end Go.Proofs.YtcfagdmaephkdaaDoor
namespace Go.Proofs.YtcfagdmaephkdaaDoor
open Go.RowKit
theorem frame_infoF : (Tryd.prog.info? 39).map (·.size) = some 4 := by kernel_rfl
theorem free_fn (w : World) : Calls Tryd.prog 27 #[] w fun e w' => e = .returned (.agg #[.int .i64 (-1), .int .i64 0, .int .i64 0, .int .i64 0]) ∧ w.grownBy w' none := by
  have Hr := hid (grown_refl w none)
  have hb : ∀ W : World, (Instr.build 39 #[(0, .int .i64 (-1)), (1, .int .i64 0)]).run Tryd.prog W = .ok (.agg #[.int .i64 (-1), .int .i64 0, .int .i64 0, .int .i64 0]) W := fun W => by kernel_rfl
  go_enter Tryd.func27, Tryd.ntmps27
  go_wp2
  refine bodyPost_ret (v := .agg #[.int .i64 (-1), .int .i64 0, .int .i64 0, .int .i64 0]) (by simp [results, Tryd.results27, go_sem]) rfl ⟨rfl, ?_⟩
  exact grown_alloc Hr.out _
section
variable {w : World} {m b n c : Nat} {L : List Fm} {A : Nat → Addr} {K : Int}
set_option maxHeartbeats 4000000 in
theorem write_fr (h : FkAt w m b n c L) (hs : Sents w A) (hG : FsOk K L) (hK : K ≤ 1000000) (i : Int) :
    Calls Tryd.prog 19 #[.pointer (some ⟨m, 0, none⟩), .int .i64 i] w fun e w' => e = .returned (errO A (writeF L i).1) ∧ FkAt w' m b n c (writeF L i).2 ∧ w.grownBy w' (some b) := by
  have Hr := hid (grown_refl w none)
  have H := hid h
  have HS := hid hs
  cases hat : atF L i with
  | none =>
    have e1 : writeF L i = (some 6, L) := by unfold writeF; rw [hat]
    rw [e1]
    have Hc := hid (held_no h hs i hat)
    have hn := fun W => err_neqF (A 6) W
    unfold errO errV at *
    clear h hs hat hG hK e1 HS
    go_enter Tryd.func19, Tryd.ntmps19
    go_wp2_with fail
    refine Hc.out.mono ?_; rintro e w1 ⟨rfl, hg⟩
    have Hg := hid hg
    clear hg
    go_wp2
    go_ret
    exact ⟨rfl, H.out.kept0 Hg.out, grown_none Hg.out⟩
  | some f =>
    obtain ⟨k, rfl, hk, ho⟩ := atF_some hat
    obtain ⟨w0, wK, u0, uK, htab, hnob⟩ := hG k f hk
    clear htab hnob
    have Hk := hid hk
    have ct := h.cT hk
    have cw := h.cW hk
    have cu := h.cU hk
    by_cases h1 : ¬ f.t = 0
    · skip
      have e1 : writeF L (k : Int) = (some 10, L) := by unfold writeF; rw [hat]; simp [h1]
      rw [e1]
      have dh1 : (f.t != 0) = true := by simpa using h1
      have Hc := hid (held_yes h hk ho)
      have ce : w.cell? ⟨2, 0, none⟩ = some (errV (A 10)) := hs.cell 10 _ rfl
      unfold errO
      clear h hs hG hK e1 hat hk ho
      go_enter Tryd.func19, Tryd.ntmps19
      go_wp2_with (go_at_call 43; refine Hc.out.mono ?_; rintro e w' ⟨rfl, rfl⟩)
      go_ret
      exact ⟨rfl, H.out, grown_none Hr.out⟩
    · skip
      have e1 : writeF L (k : Int) = (none, L.set k ⟨f.o, f.t, f.w + 1, f.u⟩) := by unfold writeF; rw [hat]; simp [h1]
      rw [e1]
      have dh1 : (f.t != 0) = false := by simpa using h1
      have Hc := hid (held_yes h hk ho)
      have z := h.free (k * 4 + 2)
      have zw : IntKind.i64.wrap (f.w + 1) = f.w + 1 := by rw [IntKind.wrap_i64]; omega
      unfold errO
      clear h hs hG hK e1 hat hk ho
      go_enter Tryd.func19, Tryd.ntmps19
      go_wp2_with (go_at_call 43; refine Hc.out.mono ?_; rintro e w' ⟨rfl, rfl⟩)
      go_ret
      exact ⟨rfl, H.out.sW Hk.out _, grown_setCell (grown_none Hr.out) _ _⟩
set_option maxHeartbeats 4000000 in
theorem unwrite_fr (h : FkAt w m b n c L) (hs : Sents w A) (hG : FsOk K L) (hK : K ≤ 1000000) (i : Int) :
    Calls Tryd.prog 25 #[.pointer (some ⟨m, 0, none⟩), .int .i64 i] w fun e w' => e = .returned (errO A (unwriteF L i).1) ∧ FkAt w' m b n c (unwriteF L i).2 ∧ w.grownBy w' (some b) := by
  have Hr := hid (grown_refl w none)
  have H := hid h
  have HS := hid hs
  cases hat : atF L i with
  | none =>
    have e1 : unwriteF L i = (some 6, L) := by unfold unwriteF; rw [hat]
    rw [e1]
    have Hc := hid (held_no h hs i hat)
    have hn := fun W => err_neqF (A 6) W
    unfold errO errV at *
    clear h hs hat hG hK e1 HS
    go_enter Tryd.func25, Tryd.ntmps25
    go_wp2_with fail
    refine Hc.out.mono ?_; rintro e w1 ⟨rfl, hg⟩
    have Hg := hid hg
    clear hg
    go_wp2
    go_ret
    exact ⟨rfl, H.out.kept0 Hg.out, grown_none Hg.out⟩
  | some f =>
    obtain ⟨k, rfl, hk, ho⟩ := atF_some hat
    obtain ⟨w0, wK, u0, uK, htab, hnob⟩ := hG k f hk
    clear htab hnob
    have Hk := hid hk
    have ct := h.cT hk
    have cw := h.cW hk
    have cu := h.cU hk
    by_cases h1 : f.w = 0
    · skip
      have e1 : unwriteF L (k : Int) = (some 11, L) := by unfold unwriteF; rw [hat]; simp [h1]
      rw [e1]
      have dh1 : (f.w == 0) = true := by simpa using h1
      have Hc := hid (held_yes h hk ho)
      have ce : w.cell? ⟨3, 0, none⟩ = some (errV (A 11)) := hs.cell 11 _ rfl
      unfold errO
      clear h hs hG hK e1 hat hk ho
      go_enter Tryd.func25, Tryd.ntmps25
      go_wp2_with (go_at_call 43; refine Hc.out.mono ?_; rintro e w' ⟨rfl, rfl⟩)
      go_ret
      exact ⟨rfl, H.out, grown_none Hr.out⟩
    · skip
      have e1 : unwriteF L (k : Int) = (none, L.set k ⟨f.o, f.t, f.w - 1, f.u⟩) := by unfold unwriteF; rw [hat]; simp [h1]
      rw [e1]
      have dh1 : (f.w == 0) = false := by simpa using h1
      have Hc := hid (held_yes h hk ho)
      have z := h.free (k * 4 + 2)
      have zw : IntKind.i64.wrap (f.w - 1) = f.w - 1 := by rw [IntKind.wrap_i64]; omega
      unfold errO
      clear h hs hG hK e1 hat hk ho
      go_enter Tryd.func25, Tryd.ntmps25
      go_wp2_with (go_at_call 43; refine Hc.out.mono ?_; rintro e w' ⟨rfl, rfl⟩)
      go_ret
      exact ⟨rfl, H.out.sW Hk.out _, grown_setCell (grown_none Hr.out) _ _⟩
set_option maxHeartbeats 4000000 in
theorem use_fr (h : FkAt w m b n c L) (hs : Sents w A) (hG : FsOk K L) (hK : K ≤ 1000000) (i : Int) :
    Calls Tryd.prog 20 #[.pointer (some ⟨m, 0, none⟩), .int .i64 i] w fun e w' => e = .returned (errO A (useF L i).1) ∧ FkAt w' m b n c (useF L i).2 ∧ w.grownBy w' (some b) := by
  have Hr := hid (grown_refl w none)
  have H := hid h
  have HS := hid hs
  cases hat : atF L i with
  | none =>
    have e1 : useF L i = (some 6, L) := by unfold useF; rw [hat]
    rw [e1]
    have Hc := hid (held_no h hs i hat)
    have hn := fun W => err_neqF (A 6) W
    unfold errO errV at *
    clear h hs hat hG hK e1 HS
    go_enter Tryd.func20, Tryd.ntmps20
    go_wp2_with fail
    refine Hc.out.mono ?_; rintro e w1 ⟨rfl, hg⟩
    have Hg := hid hg
    clear hg
    go_wp2
    go_ret
    exact ⟨rfl, H.out.kept0 Hg.out, grown_none Hg.out⟩
  | some f =>
    obtain ⟨k, rfl, hk, ho⟩ := atF_some hat
    obtain ⟨w0, wK, u0, uK, htab, hnob⟩ := hG k f hk
    clear htab hnob
    have Hk := hid hk
    have ct := h.cT hk
    have cw := h.cW hk
    have cu := h.cU hk
    have e1 : useF L (k : Int) = (none, L.set k ⟨f.o, f.t, f.w, f.u + 1⟩) := by unfold useF; rw [hat]; simp [Int.toNat_natCast]
    rw [e1]
    have Hc := hid (held_yes h hk ho)
    have z := h.free (k * 4 + 3)
    have zw : IntKind.i64.wrap (f.u + 1) = f.u + 1 := by rw [IntKind.wrap_i64]; omega
    unfold errO
    clear h hs hG hK e1 hat hk ho
    go_enter Tryd.func20, Tryd.ntmps20
    go_wp2_with (go_at_call 43; refine Hc.out.mono ?_; rintro e w' ⟨rfl, rfl⟩)
    go_ret
    exact ⟨rfl, H.out.sU Hk.out _, grown_setCell (grown_none Hr.out) _ _⟩
set_option maxHeartbeats 4000000 in
theorem unuse_fr (h : FkAt w m b n c L) (hs : Sents w A) (hG : FsOk K L) (hK : K ≤ 1000000) (i : Int) :
    Calls Tryd.prog 24 #[.pointer (some ⟨m, 0, none⟩), .int .i64 i] w fun e w' => e = .returned (errO A (unuseF L i).1) ∧ FkAt w' m b n c (unuseF L i).2 ∧ w.grownBy w' (some b) := by
  have Hr := hid (grown_refl w none)
  have H := hid h
  have HS := hid hs
  cases hat : atF L i with
  | none =>
    have e1 : unuseF L i = (some 6, L) := by unfold unuseF; rw [hat]
    rw [e1]
    have Hc := hid (held_no h hs i hat)
    have hn := fun W => err_neqF (A 6) W
    unfold errO errV at *
    clear h hs hat hG hK e1 HS
    go_enter Tryd.func24, Tryd.ntmps24
    go_wp2_with fail
    refine Hc.out.mono ?_; rintro e w1 ⟨rfl, hg⟩
    have Hg := hid hg
    clear hg
    go_wp2
    go_ret
    exact ⟨rfl, H.out.kept0 Hg.out, grown_none Hg.out⟩
  | some f =>
    obtain ⟨k, rfl, hk, ho⟩ := atF_some hat
    obtain ⟨w0, wK, u0, uK, htab, hnob⟩ := hG k f hk
    clear htab hnob
    have Hk := hid hk
    have ct := h.cT hk
    have cw := h.cW hk
    have cu := h.cU hk
    by_cases h1 : f.u = 0
    · skip
      have e1 : unuseF L (k : Int) = (some 11, L) := by unfold unuseF; rw [hat]; simp [h1]
      rw [e1]
      have dh1 : (f.u == 0) = true := by simpa using h1
      have Hc := hid (held_yes h hk ho)
      have ce : w.cell? ⟨3, 0, none⟩ = some (errV (A 11)) := hs.cell 11 _ rfl
      unfold errO
      clear h hs hG hK e1 hat hk ho
      go_enter Tryd.func24, Tryd.ntmps24
      go_wp2_with (go_at_call 43; refine Hc.out.mono ?_; rintro e w' ⟨rfl, rfl⟩)
      go_ret
      exact ⟨rfl, H.out, grown_none Hr.out⟩
    · skip
      have e1 : unuseF L (k : Int) = (none, L.set k ⟨f.o, f.t, f.w, f.u - 1⟩) := by unfold unuseF; rw [hat]; simp [h1]
      rw [e1]
      have dh1 : (f.u == 0) = false := by simpa using h1
      have Hc := hid (held_yes h hk ho)
      have z := h.free (k * 4 + 3)
      have zw : IntKind.i64.wrap (f.u - 1) = f.u - 1 := by rw [IntKind.wrap_i64]; omega
      unfold errO
      clear h hs hG hK e1 hat hk ho
      go_enter Tryd.func24, Tryd.ntmps24
      go_wp2_with (go_at_call 43; refine Hc.out.mono ?_; rintro e w' ⟨rfl, rfl⟩)
      go_ret
      exact ⟨rfl, H.out.sU Hk.out _, grown_setCell (grown_none Hr.out) _ _⟩
set_option maxHeartbeats 4000000 in
theorem plain_fr (h : FkAt w m b n c L) (hs : Sents w A) (hG : FsOk K L) (_hK : K ≤ 1000000) (i who : Int) :
    Calls Tryd.prog 23 #[.pointer (some ⟨m, 0, none⟩), .int .i64 i, .int .i64 who] w fun e w' => e = .returned (errO A (plainF L i who).1) ∧ FkAt w' m b n c (plainF L i who).2 ∧ w.grownBy w' (some b) := by
  have Hr := hid (grown_refl w none)
  have H := hid h
  have HS := hid hs
  cases hat : atF L i with
  | none =>
    have e1 : plainF L i who = (some 6, L) := by unfold plainF; rw [hat]
    rw [e1]
    have Hc := hid (owned_no h hs i who hat)
    have hn := fun W => err_neqF (A 6) W
    unfold errO errV at *
    clear h hs hat hG _hK e1 HS
    go_enter Tryd.func23, Tryd.ntmps23
    go_wp2_with fail
    refine Hc.out.mono ?_; rintro e w1 ⟨rfl, hg⟩
    have Hg := hid hg
    clear hg
    go_wp2
    go_ret
    exact ⟨rfl, H.out.kept0 Hg.out, grown_none Hg.out⟩
  | some f =>
    obtain ⟨k, rfl, hk, ho⟩ := atF_some hat
    obtain ⟨w0, wK, u0, uK, htab, hnob⟩ := hG k f hk
    clear htab hnob
    have Hk := hid hk
    have ct := h.cT hk
    have cw := h.cW hk
    have cu := h.cU hk
    by_cases hw : f.o = who
    · skip
      by_cases h1 : f.t = 0
      · skip
        have e1 : plainF L (k : Int) who = (some 10, L) := by unfold plainF; rw [hat]; simp [hw, h1]
        rw [e1]
        have dh1 : (f.t == 0) = true := by simpa using h1
        have Hc := hid (owned_yes h hk ho who hw)
        have ce : w.cell? ⟨2, 0, none⟩ = some (errV (A 10)) := hs.cell 10 _ rfl
        unfold errO
        clear h hs hG _hK e1 hat hk ho hw
        go_enter Tryd.func23, Tryd.ntmps23
        go_wp2_with (go_at_call 44; refine Hc.out.mono ?_; rintro e w' ⟨rfl, rfl⟩)
        go_ret
        exact ⟨rfl, H.out, grown_none Hr.out⟩
      · skip
        by_cases h2 : 0 < f.u
        · skip
          have e1 : plainF L (k : Int) who = (some 11, L) := by unfold plainF; rw [hat]; simp [hw, h1, h2]
          rw [e1]
          have dh1 : (f.t == 0) = false := by simpa using h1
          have dh2 : decide (f.u > 0) = true := by simpa using h2
          have Hc := hid (owned_yes h hk ho who hw)
          have ce : w.cell? ⟨3, 0, none⟩ = some (errV (A 11)) := hs.cell 11 _ rfl
          unfold errO
          clear h hs hG _hK e1 hat hk ho hw
          go_enter Tryd.func23, Tryd.ntmps23
          go_wp2_with (go_at_call 44; refine Hc.out.mono ?_; rintro e w' ⟨rfl, rfl⟩)
          go_ret
          exact ⟨rfl, H.out, grown_none Hr.out⟩
        · skip
          have e1 : plainF L (k : Int) who = (none, L.set k ⟨f.o, 0, f.w, f.u⟩) := by unfold plainF; rw [hat]; simp [hw, h1, h2]
          rw [e1]
          have dh1 : (f.t == 0) = false := by simpa using h1
          have dh2 : decide (f.u > 0) = false := by simpa using h2
          have Hc := hid (owned_yes h hk ho who hw)
          have z := h.free (k * 4 + 1)
          unfold errO
          clear h hs hG _hK e1 hat hk ho hw
          go_enter Tryd.func23, Tryd.ntmps23
          go_wp2_with (go_at_call 44; refine Hc.out.mono ?_; rintro e w' ⟨rfl, rfl⟩)
          go_ret
          exact ⟨rfl, H.out.sT Hk.out _, grown_setCell (grown_none Hr.out) _ _⟩
    · skip
      have e1 : plainF L (k : Int) who = (some 9, L) := by unfold plainF; rw [hat]; simp [hw]
      rw [e1]
      have Hc := hid (owned_other h hs hk ho who hw)
      have hn := fun W => err_neqF (A 9) W
      unfold errO errV at *
      clear h hs hG _hK e1 hat hk ho hw
      go_enter Tryd.func23, Tryd.ntmps23
      go_wp2_with fail
      refine Hc.out.mono ?_; rintro e w1 ⟨rfl, hg⟩
      have Hg := hid hg
      clear hg
      go_wp2
      go_ret
      exact ⟨rfl, H.out.kept0 Hg.out, grown_none Hg.out⟩
set_option maxHeartbeats 4000000 in
theorem make_fr (h : FkAt w m b n c L) (hs : Sents w A) (hG : FsOk K L) (_hK : K ≤ 1000000) (i who kind : Int) :
    Calls Tryd.prog 21 #[.pointer (some ⟨m, 0, none⟩), .int .i64 i, .int .i64 who, .int .i64 kind] w fun e w' => e = .returned (errO A (makeF L i who kind).1) ∧ FkAt w' m b n c (makeF L i who kind).2 ∧ w.grownBy w' (some b) := by
  have Hr := hid (grown_refl w none)
  by_cases hk1 : kind = 1 ∨ kind = 2
  · rcases hk1 with hk1 | hk1
    · have kd : (kind != 1) = false := by simp [hk1]
      have H := hid h
      have HS := hid hs
      cases hat : atF L i with
      | none =>
        have e1 : makeF L i who kind = (some 6, L) := by unfold makeF; rw [hat]; simp [hk1]
        rw [e1]
        have Hc := hid (owned_no h hs i who hat)
        have hn := fun W => err_neqF (A 6) W
        unfold errO errV at *
        clear h hs hat hG _hK e1 HS hk1
        go_enter Tryd.func21, Tryd.ntmps21
        go_wp2_with fail
        refine Hc.out.mono ?_; rintro e w1 ⟨rfl, hg⟩
        have Hg := hid hg
        clear hg
        go_wp2
        go_ret
        exact ⟨rfl, H.out.kept0 Hg.out, grown_none Hg.out⟩
      | some f =>
        obtain ⟨k, rfl, hk, ho⟩ := atF_some hat
        obtain ⟨w0, wK, u0, uK, htab, hnob⟩ := hG k f hk
        clear htab hnob
        have Hk := hid hk
        have ct := h.cT hk
        have cw := h.cW hk
        have cu := h.cU hk
        by_cases hw : f.o = who
        · skip
          by_cases h1 : ¬ f.t = 0
          · skip
            have e1 : makeF L (k : Int) who kind = (some 10, L) := by unfold makeF; rw [hat]; simp [hk1, hw, h1]
            rw [e1]
            have dh1 : (f.t != 0) = true := by simpa using h1
            have Hc := hid (owned_yes h hk ho who hw)
            have ce : w.cell? ⟨2, 0, none⟩ = some (errV (A 10)) := hs.cell 10 _ rfl
            unfold errO
            clear h hs hG _hK e1 hat hk ho hw hk1
            go_enter Tryd.func21, Tryd.ntmps21
            go_wp2_with (go_at_call 44; refine Hc.out.mono ?_; rintro e w' ⟨rfl, rfl⟩)
            go_ret
            exact ⟨rfl, H.out, grown_none Hr.out⟩
          · skip
            by_cases hb : bsy f
            · have Hb : Hid (decide (bsy f) = true) := hid (by simpa using hb)
              have e1 : makeF L (k : Int) who kind = (some 11, L) := by unfold makeF; rw [hat]; simp [hk1, hw, h1, hb]
              rw [e1]
              have dh1 : (f.t != 0) = false := by simpa using h1
              have Hc := hid (owned_yes h hk ho who hw)
              have Hrg := hid (h.range hk)
              unfold errO
              clear h hs hG _hK e1 hat hk ho hw hk1
              go_enter Tryd.func21, Tryd.ntmps21
              go_wp2_with (first | (go_at_call 44; refine Hc.out.mono ?_; rintro e w' ⟨rfl, rfl⟩) | (refine wpList_load_mid rfl 39 _ rfl b (k * 4) rfl _ _ Hrg.out Tryd.underlying39 rfl frame_infoF ?_) | fail)
              refine (busy_fr f w).mono ?_; rintro e w1 ⟨rfl, hg⟩
              rw [show decide (bsy f) = true from Hb.out]
              have Hg := hid hg
              have HF := hid (H.out.kept0 hg)
              have ce : w1.cell? ⟨3, 0, none⟩ = some (errV (A 11)) := (HS.out.kept0 hg).cell 11 _ rfl
              clear hg
              go_wp2
              go_ret
              exact ⟨rfl, HF.out, grown_none Hg.out⟩
            · have Hb : Hid (decide (bsy f) = false) := hid (by simpa using hb)
              have e1 : makeF L (k : Int) who kind = (none, L.set k ⟨f.o, kind, f.w, f.u⟩) := by unfold makeF; rw [hat]; simp [hk1, hw, h1, hb]
              rw [e1]
              have dh1 : (f.t != 0) = false := by simpa using h1
              have Hc := hid (owned_yes h hk ho who hw)
              have Hrg := hid (h.range hk)
              unfold errO
              clear h hs hG _hK e1 hat hk ho hw hk1
              go_enter Tryd.func21, Tryd.ntmps21
              go_wp2_with (first | (go_at_call 44; refine Hc.out.mono ?_; rintro e w' ⟨rfl, rfl⟩) | (refine wpList_load_mid rfl 39 _ rfl b (k * 4) rfl _ _ Hrg.out Tryd.underlying39 rfl frame_infoF ?_) | fail)
              refine (busy_fr f w).mono ?_; rintro e w1 ⟨rfl, hg⟩
              rw [show decide (bsy f) = false from Hb.out]
              have Hg := hid hg
              have HF := hid (H.out.kept0 hg)
              have z := HF.out.free (k * 4 + 1)
              have ct1 := HF.out.cT Hk.out
              clear hg
              go_wp2
              go_ret
              exact ⟨rfl, HF.out.sT Hk.out _, grown_setCell (grown_none Hg.out) _ _⟩
        · skip
          have e1 : makeF L (k : Int) who kind = (some 9, L) := by unfold makeF; rw [hat]; simp [hk1, hw]
          rw [e1]
          have Hc := hid (owned_other h hs hk ho who hw)
          have hn := fun W => err_neqF (A 9) W
          unfold errO errV at *
          clear h hs hG _hK e1 hat hk ho hw hk1
          go_enter Tryd.func21, Tryd.ntmps21
          go_wp2_with fail
          refine Hc.out.mono ?_; rintro e w1 ⟨rfl, hg⟩
          have Hg := hid hg
          clear hg
          go_wp2
          go_ret
          exact ⟨rfl, H.out.kept0 Hg.out, grown_none Hg.out⟩
    · have kd : (kind != 1) = true := by simp [hk1]
      have kd2 : (kind != 2) = false := by simp [hk1]
      have H := hid h
      have HS := hid hs
      cases hat : atF L i with
      | none =>
        have e1 : makeF L i who kind = (some 6, L) := by unfold makeF; rw [hat]; simp [hk1]
        rw [e1]
        have Hc := hid (owned_no h hs i who hat)
        have hn := fun W => err_neqF (A 6) W
        unfold errO errV at *
        clear h hs hat hG _hK e1 HS hk1
        go_enter Tryd.func21, Tryd.ntmps21
        go_wp2_with fail
        refine Hc.out.mono ?_; rintro e w1 ⟨rfl, hg⟩
        have Hg := hid hg
        clear hg
        go_wp2
        go_ret
        exact ⟨rfl, H.out.kept0 Hg.out, grown_none Hg.out⟩
      | some f =>
        obtain ⟨k, rfl, hk, ho⟩ := atF_some hat
        obtain ⟨w0, wK, u0, uK, htab, hnob⟩ := hG k f hk
        clear htab hnob
        have Hk := hid hk
        have ct := h.cT hk
        have cw := h.cW hk
        have cu := h.cU hk
        by_cases hw : f.o = who
        · skip
          by_cases h1 : ¬ f.t = 0
          · skip
            have e1 : makeF L (k : Int) who kind = (some 10, L) := by unfold makeF; rw [hat]; simp [hk1, hw, h1]
            rw [e1]
            have dh1 : (f.t != 0) = true := by simpa using h1
            have Hc := hid (owned_yes h hk ho who hw)
            have ce : w.cell? ⟨2, 0, none⟩ = some (errV (A 10)) := hs.cell 10 _ rfl
            unfold errO
            clear h hs hG _hK e1 hat hk ho hw hk1
            go_enter Tryd.func21, Tryd.ntmps21
            go_wp2_with (go_at_call 44; refine Hc.out.mono ?_; rintro e w' ⟨rfl, rfl⟩)
            go_ret
            exact ⟨rfl, H.out, grown_none Hr.out⟩
          · skip
            by_cases hb : bsy f
            · have Hb : Hid (decide (bsy f) = true) := hid (by simpa using hb)
              have e1 : makeF L (k : Int) who kind = (some 11, L) := by unfold makeF; rw [hat]; simp [hk1, hw, h1, hb]
              rw [e1]
              have dh1 : (f.t != 0) = false := by simpa using h1
              have Hc := hid (owned_yes h hk ho who hw)
              have Hrg := hid (h.range hk)
              unfold errO
              clear h hs hG _hK e1 hat hk ho hw hk1
              go_enter Tryd.func21, Tryd.ntmps21
              go_wp2_with (first | (go_at_call 44; refine Hc.out.mono ?_; rintro e w' ⟨rfl, rfl⟩) | (refine wpList_load_mid rfl 39 _ rfl b (k * 4) rfl _ _ Hrg.out Tryd.underlying39 rfl frame_infoF ?_) | fail)
              refine (busy_fr f w).mono ?_; rintro e w1 ⟨rfl, hg⟩
              rw [show decide (bsy f) = true from Hb.out]
              have Hg := hid hg
              have HF := hid (H.out.kept0 hg)
              have ce : w1.cell? ⟨3, 0, none⟩ = some (errV (A 11)) := (HS.out.kept0 hg).cell 11 _ rfl
              clear hg
              go_wp2
              go_ret
              exact ⟨rfl, HF.out, grown_none Hg.out⟩
            · have Hb : Hid (decide (bsy f) = false) := hid (by simpa using hb)
              have e1 : makeF L (k : Int) who kind = (none, L.set k ⟨f.o, kind, f.w, f.u⟩) := by unfold makeF; rw [hat]; simp [hk1, hw, h1, hb]
              rw [e1]
              have dh1 : (f.t != 0) = false := by simpa using h1
              have Hc := hid (owned_yes h hk ho who hw)
              have Hrg := hid (h.range hk)
              unfold errO
              clear h hs hG _hK e1 hat hk ho hw hk1
              go_enter Tryd.func21, Tryd.ntmps21
              go_wp2_with (first | (go_at_call 44; refine Hc.out.mono ?_; rintro e w' ⟨rfl, rfl⟩) | (refine wpList_load_mid rfl 39 _ rfl b (k * 4) rfl _ _ Hrg.out Tryd.underlying39 rfl frame_infoF ?_) | fail)
              refine (busy_fr f w).mono ?_; rintro e w1 ⟨rfl, hg⟩
              rw [show decide (bsy f) = false from Hb.out]
              have Hg := hid hg
              have HF := hid (H.out.kept0 hg)
              have z := HF.out.free (k * 4 + 1)
              have ct1 := HF.out.cT Hk.out
              clear hg
              go_wp2
              go_ret
              exact ⟨rfl, HF.out.sT Hk.out _, grown_setCell (grown_none Hg.out) _ _⟩
        · skip
          have e1 : makeF L (k : Int) who kind = (some 9, L) := by unfold makeF; rw [hat]; simp [hk1, hw]
          rw [e1]
          have Hc := hid (owned_other h hs hk ho who hw)
          have hn := fun W => err_neqF (A 9) W
          unfold errO errV at *
          clear h hs hG _hK e1 hat hk ho hw hk1
          go_enter Tryd.func21, Tryd.ntmps21
          go_wp2_with fail
          refine Hc.out.mono ?_; rintro e w1 ⟨rfl, hg⟩
          have Hg := hid hg
          clear hg
          go_wp2
          go_ret
          exact ⟨rfl, H.out.kept0 Hg.out, grown_none Hg.out⟩
  · have kd : (kind != 1) = true := by simp; omega
    have kd2 : (kind != 2) = true := by simp; omega
    have e1 : makeF L i who kind = (some 2, L) := by unfold makeF; rw [if_pos (by omega)]
    rw [e1]
    have H := hid h
    have ce : w.cell? ⟨0, 0, none⟩ = some (errV (A 2)) := hs.cell 2 _ rfl
    unfold errO
    clear h hs hG _hK e1 hk1
    go_enter Tryd.func21, Tryd.ntmps21
    go_wp2
    go_ret
    exact ⟨rfl, H.out, grown_none Hr.out⟩
set_option maxHeartbeats 4000000 in
theorem free_fr (h : FkAt w m b n c L) (hs : Sents w A) (hG : FsOk K L) (_hK : K ≤ 1000000) (i who : Int) :
    Calls Tryd.prog 22 #[.pointer (some ⟨m, 0, none⟩), .int .i64 i, .int .i64 who] w fun e w' => e = .returned (errO A (freeF L i who).1) ∧ FkAt w' m b n c (freeF L i who).2 ∧ w.grownBy w' (some b) := by
  have Hr := hid (grown_refl w none)
  have H := hid h
  have HS := hid hs
  cases hat : atF L i with
  | none =>
    have e1 : freeF L i who = (some 6, L) := by unfold freeF; rw [hat]
    rw [e1]
    have Hc := hid (owned_no h hs i who hat)
    have hn := fun W => err_neqF (A 6) W
    unfold errO errV at *
    clear h hs hat hG _hK e1 HS
    go_enter Tryd.func22, Tryd.ntmps22
    go_wp2_with fail
    refine Hc.out.mono ?_; rintro e w1 ⟨rfl, hg⟩
    have Hg := hid hg
    clear hg
    go_wp2
    go_ret
    exact ⟨rfl, H.out.kept0 Hg.out, grown_none Hg.out⟩
  | some f =>
    obtain ⟨k, rfl, hk, ho⟩ := atF_some hat
    obtain ⟨w0, wK, u0, uK, htab, hnob⟩ := hG k f hk
    clear htab hnob
    have Hk := hid hk
    have ct := h.cT hk
    have cw := h.cW hk
    have cu := h.cU hk
    by_cases hw : f.o = who
    · skip
      by_cases hb : bsy f
      · have Hb : Hid (decide (bsy f) = true) := hid (by simpa using hb)
        have e1 : freeF L (k : Int) who = (some 11, L) := by unfold freeF; rw [hat]; simp [hw, hb]
        rw [e1]
        have Hc := hid (owned_yes h hk ho who hw)
        have Hrg := hid (h.range hk)
        unfold errO
        clear h hs hG _hK e1 hat hk ho hw
        go_enter Tryd.func22, Tryd.ntmps22
        go_wp2_with (first | (go_at_call 44; refine Hc.out.mono ?_; rintro e w' ⟨rfl, rfl⟩) | (refine wpList_load_mid rfl 39 _ rfl b (k * 4) rfl _ _ Hrg.out Tryd.underlying39 rfl frame_infoF ?_) | fail)
        refine (busy_fr f w).mono ?_; rintro e w1 ⟨rfl, hg⟩
        rw [show decide (bsy f) = true from Hb.out]
        have Hg := hid hg
        have HF := hid (H.out.kept0 hg)
        have ce : w1.cell? ⟨3, 0, none⟩ = some (errV (A 11)) := (HS.out.kept0 hg).cell 11 _ rfl
        clear hg
        go_wp2
        go_ret
        exact ⟨rfl, HF.out, grown_none Hg.out⟩
      · have Hb : Hid (decide (bsy f) = false) := hid (by simpa using hb)
        have e1 : freeF L (k : Int) who = (none, L.set k noFm) := by unfold freeF; rw [hat]; simp [hw, hb]
        rw [e1]
        have Hc := hid (owned_yes h hk ho who hw)
        have Hrg := hid (h.range hk)
        unfold errO
        clear h hs hG _hK e1 hat hk ho hw
        go_enter Tryd.func22, Tryd.ntmps22
        go_wp2_with (first | (go_at_call 44; refine Hc.out.mono ?_; rintro e w' ⟨rfl, rfl⟩) | (refine wpList_load_mid rfl 39 _ rfl b (k * 4) rfl _ _ Hrg.out Tryd.underlying39 rfl frame_infoF ?_) | fail)
        refine (busy_fr f w).mono ?_; rintro e w1 ⟨rfl, hg⟩
        rw [show decide (bsy f) = false from Hb.out]
        have Hg := hid hg
        have HF := hid (H.out.kept0 hg)
        clear hg
        go_wp2_with fail
        refine (free_fn w1).mono ?_; rintro e w2 ⟨rfl, hg⟩
        have HF2 := hid (HF.out.kept0 hg)
        have Hg2 := hid (grown_trans Hg.out hg)
        clear hg HF Hg
        have co2 := HF2.out.cO Hk.out
        have ct2 := HF2.out.cT Hk.out
        have cw2 := HF2.out.cW Hk.out
        have cu2 := HF2.out.cU Hk.out
        have z0 := HF2.out.free (k * 4)
        have z1 := HF2.out.free (k * 4 + 1)
        have z2 := HF2.out.free (k * 4 + 2)
        have z3 := HF2.out.free (k * 4 + 3)
        go_wp2
        go_ret
        exact ⟨rfl, HF2.out.sAll Hk.out _ _ _ _, grown_four (grown_none Hg2.out) _ _ _ _⟩
    · skip
      have e1 : freeF L (k : Int) who = (some 9, L) := by unfold freeF; rw [hat]; simp [hw]
      rw [e1]
      have Hc := hid (owned_other h hs hk ho who hw)
      have hn := fun W => err_neqF (A 9) W
      unfold errO errV at *
      clear h hs hG _hK e1 hat hk ho hw
      go_enter Tryd.func22, Tryd.ntmps22
      go_wp2_with fail
      refine Hc.out.mono ?_; rintro e w1 ⟨rfl, hg⟩
      have Hg := hid hg
      clear hg
      go_wp2
      go_ret
      exact ⟨rfl, H.out.kept0 Hg.out, grown_none Hg.out⟩
end
end Go.Proofs.YtcfagdmaephkdaaDoor
namespace Go.Proofs.YtcfagdmaephkdaaDoor
open Go.RowKit
section
variable {P : Program}
theorem run_copy_rowN (w : World) (dT sT ty elem : TypeId) (sz g o dLen dCap : Nat) (a : Addr) (sLen sCap : Nat) (cur : Array Value) (t : TypeId) (cs : List Value) (n : Nat)
    (hu : P.underlying dT = some (.slice elem)) (hs : (P.info? elem).map (·.size) = some sz)
    (hg : w.heap[g]? = some (.cells cur t (0, 0))) (hn : n = Nat.min sLen dLen) (hcs : cs.length = n * sz)
    (hsrc : ∀ j v, cs[j]? = some v → w.cell? (a.add j) = some v) (hfit : o + cs.length ≤ cur.size) (h1 : ∀ v ∈ cs, v.oneCell' = true) :
    (Builtin.copy_ #[dT, sT] ty #[.slice (some ⟨g, o, none⟩) dLen dCap, .slice (some a) sLen sCap]).run P w =
      .ok (goInt n) (w.setRow g (cur.toList.take o ++ cs ++ cur.toList.drop (o + cs.length)).toArray) := by
  have hl := run_loadCells_list (P := P) w a cs hsrc
  have hst := run_storeCells_at P g o t cs 0 cur w hg (by simpa using hfit) h1
  cases hq : P.info? elem with
  | none => simp [hq] at hs
  | some i =>
    have hi : i.size = sz := by simpa [hq] using hs
    subst hn
    rw [hcs] at hl
    simp [Builtin.copy_, run_underlying hu, Builtin.lenOf, Builtin.firstCells, sizeOf, typeInfo, hq, hi, hl, hst]
theorem wpList_copy_rowN {w : World} {ops : Array Oper} {rest : List Oper} {o : Oper} {a : Act} {Q : Exit → Act → World → Prop} (hgd : o.guard = none) (d s : Operand) (dT sT : TypeId)
    (ho : o.op = .call { callee := .builtin .copy, args := #[d, s], argTypes := #[dT, sT] }) (elem : TypeId) (sz : Nat) (hu : P.underlying dT = some (.slice elem)) (hsz : (P.info? elem).map (·.size) = some sz)
    (g off dLen dCap : Nat) (ad : Addr) (sLen sCap : Nat) (hd : a.eval d = .slice (some ⟨g, off, none⟩) dLen dCap) (hs : a.eval s = .slice (some ad) sLen sCap)
    (cur : Array Value) (t : TypeId) (hg : w.heap[g]? = some (.cells cur t (0, 0))) (cs : List Value) (n : Nat) (hn : n = Nat.min sLen dLen) (hcs : cs.length = n * sz)
    (hsrc : ∀ j v, cs[j]? = some v → w.cell? (ad.add j) = some v) (hfit : off + cs.length ≤ cur.size) (h1 : ∀ v ∈ cs, v.oneCell' = true)
    (h : wpList P ops Q rest (a.put o.dst (goInt n)) (w.setRow g (cur.toList.take off ++ cs ++ cur.toList.drop (off + cs.length)).toArray)) : wpList P ops Q (o :: rest) a w := by
  refine wpList_plain hgd fun K hK => ?_
  have hrun := run_copy_rowN (P := P) w dT sT o.type elem sz g off dLen dCap ad sLen sCap cur t cs n hu hsz hg hn hcs hsrc hfit h1
  unfold Oper.wp
  simp [execOp, ho, resolve, invoke, builtin, hd, hs, hrun, Result.andThen]
  rw [List.append_assoc] at h
  exact hK _ _ h
theorem step_copy_rowN {ops : Array Oper} {o : Oper} {a : Act} {w : World} {K : Act → World → Prop} {Q : Exit → Act → World → Prop} {E : Prop} (hgd : o.guard = none) (d s : Operand) (dT sT : TypeId)
    (ho : o.op = .call { callee := .builtin .copy, args := #[d, s], argTypes := #[dT, sT] }) (elem : TypeId) (sz : Nat) (hu : P.underlying dT = some (.slice elem)) (hsz : (P.info? elem).map (·.size) = some sz)
    (g off dLen dCap : Nat) (ad : Addr) (sLen sCap : Nat) (hd : a.eval d = .slice (some ⟨g, off, none⟩) dLen dCap) (hs : a.eval s = .slice (some ad) sLen sCap)
    (cur : Array Value) (t : TypeId) (hg : w.heap[g]? = some (.cells cur t (0, 0))) (cs : List Value) (n : Nat) (hn : n = Nat.min sLen dLen) (hcs : cs.length = n * sz)
    (hsrc : ∀ j v, cs[j]? = some v → w.cell? (ad.add j) = some v) (hfit : off + cs.length ≤ cur.size) (h1 : ∀ v ∈ cs, v.oneCell' = true)
    (h : K (a.put o.dst (goInt n)) (w.setRow g (cur.toList.take off ++ cs ++ cur.toList.drop (off + cs.length)).toArray)) :
    if Region.wanted o (yielded ops a.tmps) = true then Oper.wp P o a w K Q else E := by
  have hw : Region.wanted o (yielded ops a.tmps) = true := by simp [Region.wanted, hgd]
  rw [if_pos hw]
  have hrun := run_copy_rowN (P := P) w dT sT o.type elem sz g off dLen dCap ad sLen sCap cur t cs n hu hsz hg hn hcs hsrc hfit h1
  unfold Oper.wp
  simp [execOp, ho, resolve, invoke, builtin, hd, hs, hrun, Result.andThen]
  rw [List.append_assoc] at h
  exact h
end
end Go.Proofs.YtcfagdmaephkdaaDoor
namespace Go.Proofs.YtcfagdmaephkdaaDoor
open Go.RowKit
theorem and32F (n : Nat) (hn : n ≤ 1024) : bits .and .u64 (n : Int) 4294967295 = (n : Int) := by
  have := bits_and_u64_nat n 4294967295 (by omega) (by omega)
  rw [show ((4294967295 : Nat) : Int) = 4294967295 from rfl] at this
  rw [this]
  have e : n &&& 4294967295 = n % 2 ^ 32 := Nat.and_two_pow_sub_one_eq_mod n 32
  rw [e, Nat.mod_eq_of_lt (by omega)]
set_option maxHeartbeats 4000000 in
theorem mul64_oneF (n : Nat) (hn : n ≤ 1024) (w : World) : Calls Tryd.prog 53 #[.int .u64 1, .int .u64 n] w fun e w' => e = .returned (.tuple #[.int .u64 0, .int .u64 n]) ∧ w = w' := by
  have n0 : (0 : Int) ≤ (n : Int) := by omega
  have n1 : (n : Int) ≤ 1024 := by omega
  have b0 : bits .and .u64 1 4294967295 = 1 := and32F 1 (by omega)
  have b1 := and32F n hn
  have b2 : bits .and .u64 0 4294967295 = 0 := and32F 0 (by omega)
  have d0 : (n : Int) / 4294967296 = 0 := by omega
  go_enter Tryd.func53, Tryd.ntmps53
  go_wp2
  go_ret2
  exact ⟨rfl, rfl⟩
theorem mul_oneF (n : Nat) (hn : n ≤ 1024) (w : World) : Calls Tryd.prog 46 #[.int .u64 1, .int .u64 n] w fun e w' => e = .returned (.tuple #[.int .u64 0, .int .u64 n]) ∧ w = w' := by
  have n0 : (0 : Int) ≤ (n : Int) := by omega
  have n1 : (n : Int) ≤ 1024 := by omega
  have H := hid (mul64_oneF n hn)
  go_enter Tryd.func46, Tryd.ntmps46
  go_wp2_with (go_at_call 53; refine (H.out _).mono ?_; rintro e w' ⟨rfl, rfl⟩)
  go_ret2
  exact ⟨rfl, rfl⟩
theorem frsL_append : ∀ (a b : List Fm), frsL (a ++ b) = frsL a ++ frsL b
  | [], _ => rfl
  | x :: a, b => by simp [frsL, frsL_append a b]
theorem frsL_take : ∀ (l : List Fm) (k : Nat), (frsL l).take (k * 4) = frsL (l.take k)
  | [], k => by simp [frsL]
  | x :: l, 0 => by simp [frsL]
  | x :: l, k + 1 => by rw [show (k + 1) * 4 = k * 4 + 1 + 1 + 1 + 1 by omega]; simp [frsL, frsL_take l k]
theorem frsL_drop : ∀ (l : List Fm) (k : Nat), (frsL l).drop (k * 4) = frsL (l.drop k)
  | [], k => by simp [frsL]
  | x :: l, 0 => by simp
  | x :: l, k + 1 => by rw [show (k + 1) * 4 = k * 4 + 1 + 1 + 1 + 1 by omega]; simp [frsL, frsL_drop l k]
def zFm : Fm := ⟨0, 0, 0, 0⟩
theorem frsL_zeros : ∀ n, (frsL (List.replicate n zFm)) = List.replicate (n * 4) (.int .i64 0)
  | 0 => rfl
  | n + 1 => by rw [show (n + 1) * 4 = n * 4 + 1 + 1 + 1 + 1 by omega, List.replicate_succ, frsL, frsL_zeros n]; rfl
/-- n frames, of which c are made -/
def partF (n c : Nat) : List Fm := List.replicate c noFm ++ List.replicate (n - c) zFm
theorem partF_length {n c : Nat} (h : c ≤ n) : (partF n c).length = n := by simp [partF]; omega
theorem partF_splice {n c d : Nat} (_h : c + d ≤ n) : ((partF n c).take c ++ List.replicate d noFm) ++ (partF n c).drop (c + d) = partF n (c + d) := by
  have e1 : (partF n c).take c = List.replicate c noFm := by unfold partF; simp
  have e2 : (partF n c).drop (c + d) = List.replicate (n - (c + d)) zFm := by
    unfold partF
    rw [List.drop_append]
    simp
    omega
  rw [e1, e2, List.replicate_append_replicate]
  rfl
theorem partF_all (n : Nat) : partF n n = List.replicate n noFm := by simp [partF]
theorem cells_spliceF {n c d : Nat} (h : c + d ≤ n) : ((frsL (partF n c)).toArray.toList.take (c * 4) ++ frsL (List.replicate d noFm) ++ (frsL (partF n c)).toArray.toList.drop (c * 4 + (frsL (List.replicate d noFm)).length)).toArray = (frsL (partF n (c + d))).toArray := by
  simp only
  rw [frsL_length, List.length_replicate, ← Nat.add_mul, frsL_take, frsL_drop, ← frsL_append, ← frsL_append, partF_splice h]
/-- what a call of New, Repeat, Clone has made: a row of these frames -/
def RowF (w : World) (n : Nat) (L : List Fm) (e : Ending) (w' : World) : Prop :=
  ∃ g c, e = .returned (.slice (some ⟨g, 0, none⟩) n c) ∧ w.heap.size ≤ g ∧ w'.ownsRow w.heap.size 39 4 (.slice (some ⟨g, 0, none⟩) n c) n (frsL L) ∧ w.grownBy w' none
theorem grown_setRowF {w w1 : World} {g : Nat} (h : w.grownBy w1 none) (hg : w.heap.size ≤ g) (c : Array Value) : w.grownBy (w1.setRow g c) none :=
  ⟨h.os, h.tape, h.output, by simp [World.setRow]; exact h.size, fun i hi _ => (setRow_other w1 g i c (by omega)).trans (h.block i hi (by simp))⟩
set_option maxRecDepth 100000 in
set_option maxHeartbeats 16000000 in
theorem repeat_fr {w : World} {g0 c0 : Nat} (h0 : w.heap[g0]? = some (.cells (frsL [noFm]).toArray 39 (0, 0))) (n : Nat) (n1 : 1 ≤ n) (n2 : n ≤ 1024) :
    Calls Tryd.prog 26 #[.slice (some ⟨g0, 0, none⟩) 1 c0, .int .i64 n] w (RowF w n (List.replicate n noFm)) := by
  obtain ⟨i, hi, hz0, hz1, hz2⟩ := info_parts (P := Tryd.prog) (e := 39) (z := .agg #[.int .i64 0, .int .i64 0, .int .i64 0, .int .i64 0]) (size := 4) (bytes := 32) (by kernel_rfl)
  have hmk : ∀ W : World, (Instr.makeSlice 57 (.int .i64 n) (.int .i64 n)).run Tryd.prog W = .ok (.slice (some ⟨W.heap.size, 0, none⟩) n n) (W.alloc (.cells (frsL (partF n 0)).toArray 39)) := fun W => by
    have := run_make (P := Tryd.prog) W 57 39 i _ Tryd.underlying57 hi hz0 .i64 .i64 n n (by omega) (by omega) (by rw [hz2]; omega) (by omega)
    rw [this, hz1]
    have e := toList_madeZero (.int .i64 0) (n * 4) 4 (by omega)
    simp only [Int.toNat_natCast]
    have e2 : (frsL (partF n 0)).toArray = Array.replicate (n * 4) (.int .i64 0) := by
      unfold partF
      simp only [List.replicate_zero, List.nil_append, Nat.sub_zero, frsL_zeros]
      simp
    rw [e2, ← e]
    rfl
  have Hlt0 : Hid (g0 < w.heap.size) := hid (Array.getElem?_eq_some_iff.1 h0).1
  have H0 := hid h0
  have Hmu := hid (mul_oneF n n2)
  have Hsz := hid frame_infoF
  clear hi hz0 hz1 hz2 h0
  have nn0 : (0 : Int) ≤ (n : Int) := by omega
  have nn1 : ¬ (n : Int) < 0 := by omega
  have nn2 : (n : Int) ≤ 1024 := by omega
  have Hn := hid (And.intro n1 n2)
  have Hg1 := hid (World.grownBy_alloc w (.cells (frsL (partF n 0)).toArray 39) none)
  have Hb1 : Hid ((w.alloc (.cells (frsL (partF n 0)).toArray 39)).heap[w.heap.size]? = some (.cells (frsL (partF n 0)).toArray 39 (0, 0))) := hid (heap_alloc_last _ _)
  have Hs0 : Hid (∀ j v, (frsL (List.replicate 1 noFm))[j]? = some v → (w.alloc (.cells (frsL (partF n 0)).toArray 39)).cell? ((⟨g0, 0, none⟩ : Addr).add j) = some v) := hid (fun j v hj => by
    rw [Addr.add_mid, Nat.zero_add, World.cell?_alloc_lt _ _ _ Hlt0.out, cell_of_row w g0 j _ _ _ H0.out]
    simpa using hj)
  have Hl1 : Hid (0 + (frsL (List.replicate 1 noFm)).length ≤ (frsL (partF n 0)).toArray.size) := hid (by
    simp only [List.size_toArray]
    rw [frsL_length, frsL_length, partF_length (by omega), List.length_replicate]; omega)
  have Hmn : Hid (1 = Nat.min 1 n) := hid (by have : min 1 n = 1 := by omega
                                              exact this.symm)
  go_enter Tryd.func26, Tryd.ntmps26
  go_wp2_with (first
    | (go_at_call 46; refine (Hmu.out _).mono ?_; rintro e w' ⟨rfl, rfl⟩)
    | (refine wpList_copy_rowN rfl _ _ _ _ rfl 39 4 Tryd.underlying57 Hsz.out w.heap.size 0 n n ⟨g0, 0, none⟩ 1 c0 rfl rfl _ 39 Hb1.out (frsL (List.replicate 1 noFm)) 1 Hmn.out rfl Hs0.out Hl1.out (frsL_one _) ?_)
    | fail)
  obtain ⟨g, hgg⟩ : ∃ g, w.heap.size = g := ⟨_, rfl⟩
  have Hge : Hid (w.heap.size ≤ g) := hid (Nat.le_of_eq hgg)
  rw [hgg] at Hb1 ⊢
  go_loopw [8] (fun i wr => ∃ c : Nat, 1 ≤ c ∧ c ≤ n ∧ i = .int .i64 c ∧ Hid (wr.heap[g]? = some (.cells (frsL (partF n c)).toArray 39 (0, 0))) ∧ Hid (w.grownBy wr none)) (fun i _ => n - (intOf i).toNat)
  case atStart =>
    refine ⟨1, Nat.le_refl _, Hn.out.1, rfl, hid ?_, hid (grown_setRowF Hg1.out Hge.out _)⟩
    rw [setRow_heap _ _ _ _ _ _ Hb1.out]
    have := cells_spliceF (n := n) (c := 0) (d := 1) (by have := Hn.out.1; omega)
    refine congrArg (fun z => some (Obj.cells z 39 (0, 0))) ?_
    simpa using this
  case round =>
    obtain ⟨c, hc1, hcn, rfl, Hb, Hg⟩ := hrel
    by_cases hlt : c < n
    · obtain ⟨d, hd⟩ : ∃ d, d = Nat.min c (n - c) := ⟨_, rfl⟩
      have hd0 : d = min c (n - c) := hd
      obtain ⟨c', hc'⟩ : ∃ c', c + d = c' := ⟨_, rfl⟩
      have q0 : (0 : Int) ≤ (c : Int) := by omega
      have q1 : (c : Int) < (n : Int) := by omega
      have q2 : (c : Int) ≤ (n : Int) := by omega
      have qq := hcn
      have zw : IntKind.i64.wrap ((c : Int) + (d : Int)) = (c' : Int) := by rw [IntKind.wrap_i64]; omega
      have qne : (n = c) = False := by simp; omega
      have Hd := hid hd
      have Hlt : Hid (c < n ∧ 1 ≤ c ∧ c + d ≤ n ∧ c + d = c' ∧ c < c') := hid (by omega)
      have Hsrc : Hid (∀ j v, (frsL (List.replicate d noFm))[j]? = some v → (wr.drew).cell? ((⟨g, 0, none⟩ : Addr).add j) = some v) := hid (fun j v hj => by
        rw [Addr.add_mid, Nat.zero_add]
        have h2 : wr.drew.heap[g]? = some (.cells (frsL (partF n c)).toArray 39 (0, 0)) := Hb.out
        rw [cell_of_row wr.drew g j _ _ _ h2]
        have hj2 := (List.getElem?_eq_some_iff.1 hj).1
        rw [frsL_length, List.length_replicate] at hj2
        have := Hlt.out
        have e : frsL (partF n c) = frsL (List.replicate d noFm) ++ frsL (List.replicate (c - d) noFm ++ List.replicate (n - c) zFm) := by
          rw [← frsL_append, ← List.append_assoc, List.replicate_append_replicate, show d + (c - d) = c by omega]
          rfl
        rw [List.getElem?_toArray, e, List.getElem?_append_left (by rw [frsL_length, List.length_replicate]; omega)]
        exact hj)
      have Hfit : Hid (c * 4 + (frsL (List.replicate d noFm)).length ≤ (frsL (partF n c)).toArray.size) := hid (by
        have := Hlt.out
        simp only [List.size_toArray]
        rw [frsL_length, frsL_length, partF_length (by omega), List.length_replicate]; omega)
      have Hcl : Hid ((frsL (List.replicate d noFm)).length = d * 4) := hid (by rw [frsL_length, List.length_replicate])
      clear hd hd0 hlt hc1 hcn hc'
      go_wp2
      go_region_law (first
        | (refine step_copy_rowN rfl (.tmp 41) (.tmp 44) 57 57 rfl 39 4 Tryd.underlying57 Hsz.out g (c * 4) (n - c) (n - c) ⟨g, 0, none⟩ c n (by simp [Act.eval, Act.put]) (by simp [Act.eval, Act.put]) _ 39 Hb.out (frsL (List.replicate d noFm)) d Hd.out Hcl.out Hsrc.out Hfit.out (frsL_one _) ?_)
        | fail)
      all_goals
        go_simp
        go_roundw
        case rel =>
          have hh : wr.drew.heap[g]? = some (.cells (frsL (partF n c)).toArray 39 (0, 0)) := Hb.out
          have hl := Hlt.out
          (repeat apply Exists.intro)
          refine ⟨?_, rfl⟩
          refine ⟨c', by omega, by omega, rfl, hid ?_, hid (grown_setRowF (grown_drew Hg.out) Hge.out _)⟩
          rw [setRow_heap _ _ _ _ _ _ hh]
          refine congrArg (fun z => some (Obj.cells z 39 (0, 0))) ?_
          have := cells_spliceF (n := n) (c := c) (d := d) (by omega)
          rw [hl.2.2.2.1] at this
          simpa using this
        case measure => simp [intOf]; have := Hlt.out; omega
    · obtain rfl : c = n := by omega
      have q1 : ¬ ((c : Int) < (c : Int)) := by omega
      have q3 : ((c : Int) < (c : Int)) = False := by simp
      have Hb' := hid (partF_all c)
      go_wp2
      go_ret
      refine ⟨g, c, rfl, Hge.out, ?_, Hg.out⟩
      rw [← Hb'.out]
      refine ⟨by rw [frsL_length, partF_length (Nat.le_refl _)], .inr ⟨g, c, _, rfl, Hge.out, Hb.out, Nat.le_refl _, by have := Hn.out; unfold maxLen; omega, ?_, ?_⟩⟩
      · simp only [List.size_toArray]
        rw [frsL_length, partF_length (Nat.le_refl _)]
      · exact List.take_of_length_le (by rw [frsL_length, partF_length (Nat.le_refl _)]; exact Nat.le_refl _)
end Go.Proofs.YtcfagdmaephkdaaDoor
