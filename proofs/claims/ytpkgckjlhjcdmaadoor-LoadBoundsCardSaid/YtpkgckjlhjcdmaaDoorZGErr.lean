/- Package api's errors: what the listed variables hold; facadesee's questions about an error: contracts. -/
import Derived.Test.YtpkgckjlhjcdmaaDoorZGMem
import Derived.LaidEql
import Derived.Stop.LaidErr
import Derived.Laws.ResultCell
import Derived.Deep.RegionHeld3
namespace Go.Proofs.YtpkgckjlhjcdmaaDoor
open Go.RowKit Go.ChangeShapes
/-- the variables of api's errors, in the order in which facadesee names them -/
def errG : List Nat := [5, 4, 1, 0, 6, 3, 2, 7, 8, 9, 10, 11, 12, 13, 14, 15]
def errV (a : Addr) : Value := .iface 260 (.pointer (some a))
structure Sents (W : World) (A : Nat → Addr) : Prop where
  cell : ∀ i g, errG[i]? = some g → W.cell? ⟨g, 0, none⟩ = some (errV (A i))
  row : ∀ i, i < 16 → ∃ c t, W.heap[(A i).block]? = some (.cells c t (0, 0))
  inj : ∀ i j, i < 16 → j < 16 → A i = A j → i = j
theorem Sents.kept0 {w w1 : World} {A : Nat → Addr} (h : Sents w A) (hg : w.grownBy w1 none) : Sents w1 A := by
  refine ⟨fun i g hi => ?_, fun i hi => ?_, h.inj⟩
  · have := h.cell i g hi
    rw [grown_cell hg (World.block_lt_of_cell? w _ this) (by simp)]
    exact this
  · obtain ⟨c, t, hb⟩ := h.row i hi
    exact ⟨c, t, (hg.block _ (Array.getElem?_eq_some_iff.1 hb).1 (by simp)).trans hb⟩

/-! ### out of what the row lists -/
section
variable {P : Program} {W : World}
theorem laid_sents {nm : String} {ti tp te ts : TypeId} {ms : Array (String × TypeId)} {f : Field}
    (hi : P.underlying ti = some (.interface ms)) (hrow : ∀ u, P.typeName? 3 u = some nm → u = tp)
    (hp : P.underlying tp = some (.pointer te)) (he : P.underlying te = some (.struct #[f])) (hft : f.type = ts) (hfo : f.offset = 0) (hs : P.underlying ts = some .string) (hc : P.cellsOf te = 1) (hcs : P.cellsOf ts = 1) :
    ∀ (l : List (String × List UInt8)) (ps : List MemPlace), DataW.LaidVars P W (l.map fun x => (x.1, .iface nm (.ptr (.agg [.lit (.string x.2)])))) ps →
      (∀ b off, MemPlace.cell b off ∈ ps → (∃ c t, W.heap[b]? = some (.cells c t (0, 0))) ∧ ∀ u v, W.cell? ⟨b, off, none⟩ = some (.iface u v) → Value.okWide P W .any 0 u v) → ps.Nodup →
      (∀ x ∈ l, (P.globalNamed x.1).bind (fun g => (P.globals[g]?).map (·.type)) = some ti) →
      ∃ al : List Addr, al.length = l.length ∧ al.Nodup ∧ (∀ a ∈ al, MemPlace.cell a.block a.off ∈ ps) ∧ ∀ (i : Nat) (x : String × List UInt8), l[i]? = some x → ∃ a, al[i]? = some a ∧ ∃ g, P.globalNamed x.1 = some g ∧ W.cell? ⟨g, 0, none⟩ = some (.iface tp (.pointer (some a)))
  | [], _, _, _, _, _ => ⟨[], rfl, List.nodup_nil, by simp, by simp⟩
  | (n, text) :: l, ps, h, hrows, hnd, hty => by
    obtain ⟨g, t, cs, fuel, p, q, hg, ht, hv, hd, hq, rfl⟩ := h
    have htt : t = ti := by
      have := hty (n, text) (by simp)
      simp only [hg, Option.bind_some, ht, Option.some.injEq] at this
      exact this
    subst htt
    rw [List.nodup_append] at hnd
    obtain ⟨_, hq2, hdis⟩ := hnd
    obtain ⟨al, hl, hn, hin, hall⟩ := laid_sents hi hrow hp he hft hfo hs hc hcs l q hq (fun b off hm => hrows b off (List.mem_append_right _ hm)) hq2 (fun x hx => hty x (by simp [hx]))
    obtain ⟨cl⟩ := cs
    have ok0 : ∀ u v, cl = [.iface u v] → Value.okWide P W .any 0 u v := fun u v e => by
      subst e
      exact (hrows g 0 (by simp [MemPlace.row])).2 u v (by simpa using World.var?_cell hg hv 0)
    obtain ⟨a, s, rfl, _, _, _, rfl⟩ := errorString_of_trod hi hrow hp he hft hfo hs hc hcs hd ok0
    have ha : MemPlace.cell a.block a.off ∈ MemPlace.row (⟨g, 0, none⟩ : Addr) 1 ++ MemPlace.row a 1 := by simp [MemPlace.row]
    refine ⟨a :: al, by simp [hl], List.nodup_cons.2 ⟨fun hm => ?_, hn⟩, fun b hb => ?_, fun i x hx => ?_⟩
    · exact hdis _ (by simpa using ha) _ (hin a hm) rfl
    · rcases List.mem_cons.1 hb with rfl | hb
      · exact List.mem_append_left _ (by simpa using ha)
      · exact List.mem_append_right _ (hin b hb)
    · cases i with
      | zero =>
        simp only [List.getElem?_cons_zero, Option.some.injEq] at hx
        subst hx
        exact ⟨a, rfl, g, hg, by simpa using World.var?_cell hg hv 0⟩
      | succ i =>
        simp only [List.getElem?_cons_succ] at hx ⊢
        exact hall i x hx
end
end Go.Proofs.YtpkgckjlhjcdmaaDoor
/- facadesee's questions about an error: contracts. -/
namespace Go.Proofs.YtpkgckjlhjcdmaaDoor
open Go.RowKit
theorem info_errp : ∃ i, Tryd.prog.info? 260 = some i ∧ i.comparable = true := by
  have h : (Tryd.prog.info? 260).map (·.comparable) = some true := by kernel_rfl
  cases hi : Tryd.prog.info? 260 with
  | none => simp [hi] at h
  | some i => exact ⟨i, rfl, by simpa [hi] using h⟩
theorem info_errs : ∃ i, Tryd.prog.info? 284 = some i ∧ i.size ≠ 0 := by
  have h : (Tryd.prog.info? 284).map (·.size) = some 1 := by kernel_rfl
  cases hi : Tryd.prog.info? 284 with
  | none => simp [hi] at h
  | some i =>
    have : i.size = 1 := by simpa [hi] using h
    exact ⟨i, rfl, by omega⟩
theorem run_err_same (a : Addr) (w : World) : (binOp .eql 31 (errV a) (errV a)).run Tryd.prog w = .ok (.bool true) w := by
  obtain ⟨i, hi, hc⟩ := info_errp
  obtain ⟨j, hj, _⟩ := info_errs
  exact run_eql_iface_ptr_same w a Tryd.underlying31 Tryd.underlying260 hi hc hj
theorem run_err_other {a b : Addr} {w : World} (hne : a ≠ b) (ha : ∃ c t, w.heap[a.block]? = some (.cells c t (0, 0))) (hb : ∃ c t, w.heap[b.block]? = some (.cells c t (0, 0))) : (binOp .eql 31 (errV a) (errV b)).run Tryd.prog w = .ok (.bool false) w := by
  obtain ⟨i, hi, hc⟩ := info_errp
  obtain ⟨j, hj, hs⟩ := info_errs
  obtain ⟨ca, ta, ha⟩ := ha
  obtain ⟨cb, tb, hb⟩ := hb
  exact run_eql_iface_ptr_other w Tryd.underlying31 Tryd.underlying260 hi hc hj hs hne ha hb
theorem run_err_nil (a : Addr) (w : World) : (binOp .eql 31 (errV a) .nilIface).run Tryd.prog w = .ok (.bool false) w := by
  have h : ∀ d : Nat, (Op.equalIn (d + 1) 31 (errV a) .nilIface).run Tryd.prog w = .ok false w := fun d => by simp [errV, Op.equalIn, run_underlying Tryd.underlying31]
  simp only [binOp]
  simp [Op.equal, Op.maxDepth, h 9999]
theorem alike_same (a : Addr) (w : World) : Calls Tryd.prog 116 #[errV a, errV a] w fun e w' => e = .returned (.bool true) ∧ w = w' := by
  have h1 := fun W => run_err_same a W
  have h2 := fun W => run_err_nil a W
  unfold errV at h1 h2 ⊢
  go_enter Tryd.func116, Tryd.ntmps116
  go_wp2
  go_ret
  exact ⟨rfl, rfl⟩
theorem alike_other {a b : Addr} {w : World} (hne : a ≠ b) (ha : ∃ c t, w.heap[a.block]? = some (.cells c t (0, 0))) (hb : ∃ c t, w.heap[b.block]? = some (.cells c t (0, 0))) :
    Calls Tryd.prog 116 #[errV a, errV b] w fun e w' => e = .returned (.bool false) ∧ w = w' := by
  have h1 := run_err_other hne ha hb
  have h2 := fun W => run_err_nil a W
  have h3 := fun W => run_err_nil b W
  unfold errV at h1 h2 h3 ⊢
  clear hne ha hb
  go_enter Tryd.func116, Tryd.ntmps116
  go_wp2
  go_ret
  exact ⟨rfl, rfl⟩
def errs (A : Nat → Addr) : Array Value := ((List.range 16).map fun i => errV (A i)).toArray
theorem errs_get (A : Nat → Addr) {i : Nat} (h : i < 16) : (errs A)[i]? = some (errV (A i)) := by simp [errs, h]
set_option maxHeartbeats 1000000 in
theorem sentinels_any {A : Nat → Addr} {w : World} (h : Sents w A) : Calls Tryd.prog 115 #[] w fun e w' => e = .returned (.slice (some ⟨w.heap.size, 0, none⟩) 16 16) ∧ w' = w.alloc (.cells (errs A) 31) := by
  have c0 := h.cell 0 _ rfl
  have c1 := h.cell 1 _ rfl
  have c2 := h.cell 2 _ rfl
  have c3 := h.cell 3 _ rfl
  have c4 := h.cell 4 _ rfl
  have c5 := h.cell 5 _ rfl
  have c6 := h.cell 6 _ rfl
  have c7 := h.cell 7 _ rfl
  have c8 := h.cell 8 _ rfl
  have c9 := h.cell 9 _ rfl
  have c10 := h.cell 10 _ rfl
  have c11 := h.cell 11 _ rfl
  have c12 := h.cell 12 _ rfl
  have c13 := h.cell 13 _ rfl
  have c14 := h.cell 14 _ rfl
  have c15 := h.cell 15 _ rfl
  clear h
  have He : Hid (errs A = #[errV (A 0), errV (A 1), errV (A 2), errV (A 3), errV (A 4), errV (A 5), errV (A 6), errV (A 7), errV (A 8), errV (A 9), errV (A 10), errV (A 11), errV (A 12), errV (A 13), errV (A 14), errV (A 15)]) := hid rfl
  rw [He.out]
  unfold errV at c0 c1 c2 c3 c4 c5 c6 c7 c8 c9 c10 c11 c12 c13 c14 c15
  clear He
  go_enter Tryd.func115, Tryd.ntmps115
  go_wp2
  go_ret
  exact ⟨rfl, rfl⟩
set_option maxHeartbeats 1000000 in
theorem sentinel_any {A : Nat → Addr} {w : World} (h : Sents w A) (k : Nat) (hk : k < 16) : Calls Tryd.prog 100 #[errV (A k)] w fun e w' => e = .returned (.int .i64 ((101 + k : Nat) : Int)) ∧ w.grownBy w' none := by
  have H := hid h
  clear h
  obtain ⟨v, hv⟩ : ∃ v, errV (A k) = v := ⟨_, rfl⟩
  rw [hv]
  have Hv := hid hv
  clear hv
  go_enter Tryd.func100, Tryd.ntmps100
  go_wp2_with fail
  refine (sentinels_any H.out).mono ?_; rintro e w1 ⟨rfl, hw1⟩
  have Hh : Hid (w1.heap[w.heap.size]? = some (.cells (errs A) 31 (0, 0))) := hid (by rw [hw1]; exact heap_alloc_last _ _)
  have H1 : Hid (Sents w1 A) := hid (H.out.kept0 (by rw [hw1]; exact World.grownBy_alloc w _ none))
  have HG : Hid (w.grownBy w1 none) := hid (by rw [hw1]; exact World.grownBy_alloc w _ none)
  clear hw1
  go_wp2
  go_loop [2, 4] (fun _ i => ∃ j : Nat, j ≤ k ∧ i = .int .i64 j) (fun _ i => k - (intOf i).toNat)
  case atStart => exact ⟨0, Nat.zero_le _, rfl⟩
  case round =>
    obtain ⟨j, hj, rfl⟩ := hrel
    have hc : w1.cell? ⟨w.heap.size, j, none⟩ = some (errV (A j)) := by rw [cell_of_row w1 _ _ _ _ _ Hh.out, errs_get A (by omega)]
    have hj0 : (0 : Int) ≤ (j : Int) := by omega
    have hj1 : (j : Int) < 16 := by omega
    by_cases hjk : j = k
    · have hkk : (101 : Int) + (j : Int) = ((101 + k : Nat) : Int) := by omega
      have Hk := hid hkk
      rw [hjk, Hv.out] at hc
      have hs : Calls Tryd.prog 116 #[v, v] w1 fun e w' => e = .returned (.bool true) ∧ w1 = w' := by rw [← Hv.out]; exact alike_same (A k) w1
      obtain rfl := hjk
      have Hs := hid hs
      clear hs hkk
      go_wp2_with fail
      refine (Hs.out).mono ?_; rintro e w' ⟨rfl, rfl⟩
      go_wp2
      go_ret
      exact ⟨ret_i Hk.out, HG.out⟩
    · have hs : Calls Tryd.prog 116 #[v, errV (A j)] w1 fun e w' => e = .returned (.bool false) ∧ w1 = w' := by rw [← Hv.out]; exact alike_other (fun e => hjk (H1.out.inj _ _ (by omega) (by omega) e).symm) (H1.out.row k hk) (H1.out.row j (by omega))
      have Hs := hid hs
      have Hjk : Hid (j + 1 ≤ k) := hid (by omega)
      clear hs hjk
      go_wp2_with fail
      refine (Hs.out).mono ?_; rintro e w' ⟨rfl, rfl⟩
      go_wp2
      go_round
      case rel => exact ⟨j + 1, Hjk.out, by go_num⟩
      case measure => have := Hjk.out; simp [intOf]; omega
end Go.Proofs.YtpkgckjlhjcdmaaDoor
/- facadesee's questions about an error: contracts, the rest; New where it refuses. -/
namespace Go.Proofs.YtpkgckjlhjcdmaaDoor
open Go.RowKit
def faultV (c : Int) : Value := .agg #[.int .i64 c, .bool false, .int .i64 0]
theorem bare_any (c : Int) (w : World) : Calls Tryd.prog 54 #[.int .i64 c] w fun e w' => e = .returned (faultV c) ∧ w.grownBy w' none := by
  have Hr := hid (grown_refl w none)
  go_enter Tryd.func54, Tryd.ntmps54
  go_wp2
  refine bodyPost_ret (v := .agg #[.int .i64 c, .bool false, .int .i64 0]) (by simp [results, Tryd.results54, go_sem]) rfl ⟨rfl, grown_alloc Hr.out _⟩
theorem same_fault (c d : Int) (w : World) (r : Bool) (hr : (c == d) = r) : Calls Tryd.prog 79 #[faultV c, faultV d] w fun e w' => e = .returned (.bool r) ∧ w.grownBy w' none := by
  unfold faultV
  have Hr := hid (grown_refl w none)
  cases r
  · go_enter Tryd.func79, Tryd.ntmps79
    go_wp2
    go_ret
    exact ⟨rfl, grown_alloc (grown_alloc Hr.out _) _⟩
  · go_enter Tryd.func79, Tryd.ntmps79
    go_wp2
    go_ret
    exact ⟨rfl, grown_alloc (grown_alloc Hr.out _) _⟩
theorem new_no {w : World} (v : Value) (hv : w.cell? ⟨1, 0, none⟩ = some v) (a : Int) (ha : a < 1 ∨ 1024 < a) :
    Calls Tryd.prog 81 #[.int .i64 a] w fun e w' => e = .returned (.tuple #[.pointer none, v]) ∧ w.grownBy w' none := by
  have Hr := hid (grown_refl w none)
  rcases ha with ha | ha
  · go_enter Tryd.func81, Tryd.ntmps81
    go_wp2
    go_quiet (fail)
    go_wp2
    go_ret2
    exact ⟨rfl, grown_drewN Hr.out _⟩
  · have h1 : ¬ a < 1 := by omega
    have h2 : a > 1024 := by omega
    clear ha
    go_enter Tryd.func81, Tryd.ntmps81
    go_wp2
    go_quiet (fail)
    go_wp2
    go_ret2
    exact ⟨rfl, grown_drewN Hr.out _⟩
theorem run_not_at (v : Value) (W : World) : (Instr.typeAssert (.iface 260 v) 31 185 true).run Tryd.prog W = .ok (.tuple #[.pointer none, .bool false]) W := by
  have hz : (Tryd.prog.info? 185).map (·.zero) = some (some (.pointer none)) := by kernel_rfl
  cases hi : Tryd.prog.info? 185 with
  | none => simp [hi] at hz
  | some i =>
    have h1 : i.zero = some (.pointer none) := by simpa [hi] using hz
    simp [Instr.typeAssert, run_underlying Tryd.underlying185, zeroValue, typeInfo, hi, h1]
set_option maxHeartbeats 1000000 in
theorem fault_sent {A : Nat → Addr} {w : World} (h : Sents w A) (k : Nat) (hk : k < 16) : Calls Tryd.prog 80 #[errV (A k)] w fun e w' => e = .returned (faultV ((101 + k : Nat) : Int)) ∧ w.grownBy w' none := by
  have H := hid (h.kept0 (World.grownBy_alloc w (.cells #[.int .i64 0, .bool false, .int .i64 0] 114) none))
  have hnil := fun W => run_err_nil (A k) W
  have hat := run_not_at
  have Hs := hid (sentinel_any H.out k hk)
  unfold errV at hnil Hs ⊢
  obtain ⟨C, hC⟩ : ∃ C, ((101 + k : Nat) : Int) = C := ⟨_, rfl⟩
  rw [hC] at Hs ⊢
  clear h hC
  go_enter Tryd.func80, Tryd.ntmps80
  go_wp2_with fail
  refine (Hs.out).mono ?_; rintro e w1 ⟨rfl, hg⟩
  have HG1 := hid hg
  have hfr : w.heap.size < w1.heap.size := by have := hg.size; simp at this; omega
  have hblk : w1.heap[w.heap.size]? = some (.cells #[.int .i64 0, .bool false, .int .i64 0] 114 (0, 0)) := (hg.block _ (by simp) (by simp)).trans (heap_alloc_last _ _)
  have Hblk := hid hblk
  clear hg hblk
  go_wp2_with fail
  refine (bare_any C _).mono ?_; rintro e w2 ⟨rfl, hg⟩
  have HG2 := hid (grown_trans HG1.out hg)
  have hblk : w2.heap[w.heap.size]? = some (.cells #[.int .i64 0, .bool false, .int .i64 0] 114 (0, 0)) := (hg.block _ hfr (by simp)).trans Hblk.out
  have c0 : w2.cell? ⟨w.heap.size, 0, none⟩ = some (.int .i64 0) := by rw [cell_of_row w2 _ _ _ _ _ hblk]; rfl
  have c1 : w2.cell? ⟨w.heap.size, 1, none⟩ = some (.bool false) := by rw [cell_of_row w2 _ _ _ _ _ hblk]; rfl
  have c2 : w2.cell? ⟨w.heap.size, 2, none⟩ = some (.int .i64 0) := by rw [cell_of_row w2 _ _ _ _ _ hblk]; rfl
  have z0 := frozen_of_row w2 w.heap.size 0 _ _ hblk
  have z1 := frozen_of_row w2 w.heap.size 1 _ _ hblk
  have z2 := frozen_of_row w2 w.heap.size 2 _ _ hblk
  clear hblk hg
  unfold faultV
  go_wp2
  refine bodyPost_ret (v := .agg #[.int .i64 C, .bool false, .int .i64 0]) ?_ rfl ⟨rfl, ?_⟩
  · simp [results, Tryd.results80, go_sem, c0, c1, c2]
  · exact grown_new' (grown_setCell (grown_setCell (grown_setCell (grown_none (grown_trans (World.grownBy_alloc _ _ _) HG2.out)) _ _) _ _) _ _) (fun k hk => by obtain rfl := Option.some.inj hk; exact Nat.le_refl _)
set_option maxRecDepth 100000 in
set_option maxHeartbeats 1000000 in
theorem same_sent {A : Nat → Addr} {w : World} (h : Sents w A) (k : Nat) (hk : k < 16) (d : Int) (r : Bool) (hr : ((((101 + k : Nat) : Int)) == d) = r) :
    Calls Tryd.prog 53 #[errV (A k), faultV d] w fun e w' => e = .returned (.bool r) ∧ w.grownBy w' none := by
  have H := hid h
  have Hr := hid hr
  clear h hr
  obtain ⟨v, hv⟩ : ∃ v, errV (A k) = v := ⟨_, rfl⟩
  have Hf : ∀ W, w.grownBy W none → Calls Tryd.prog 80 #[v] W fun e w' => e = .returned (faultV ((101 + k : Nat) : Int)) ∧ W.grownBy w' none := fun W hW => by rw [← hv]; exact fault_sent (H.out.kept0 hW) k hk
  have Hf := hid Hf
  rw [hv]
  clear hv
  unfold faultV
  go_enter Tryd.func53, Tryd.ntmps53
  go_wp2
  obtain ⟨W0, hW0⟩ : ∃ W0, W0 = w.alloc (.cells #[.int .i64 d, .bool false, .int .i64 0] 114) := ⟨_, rfl⟩
  rw [← hW0]
  have hb0 : W0.heap[w.heap.size]? = some (.cells #[.int .i64 d, .bool false, .int .i64 0] 114 (0, 0)) := by rw [hW0]; exact heap_alloc_last _ _
  have c0 : W0.cell? ⟨w.heap.size, 0, none⟩ = some (.int .i64 d) := by rw [cell_of_row W0 _ _ _ _ _ hb0]; rfl
  have c1 : W0.cell? ⟨w.heap.size, 1, none⟩ = some (.bool false) := by rw [cell_of_row W0 _ _ _ _ _ hb0]; rfl
  have c2 : W0.cell? ⟨w.heap.size, 2, none⟩ = some (.int .i64 0) := by rw [cell_of_row W0 _ _ _ _ _ hb0]; rfl
  have hlt : w.heap.size < W0.heap.size := (Array.getElem?_eq_some_iff.1 hb0).1
  have hg0 : w.grownBy W0 none := by rw [hW0]; exact World.grownBy_alloc _ _ _
  clear hW0 hb0
  go_region_held3 (fun W => W.cell? ⟨w.heap.size, 0, none⟩ = some (.int .i64 d) ∧ W.cell? ⟨w.heap.size, 1, none⟩ = some (.bool false) ∧ W.cell? ⟨w.heap.size, 2, none⟩ = some (.int .i64 0) ∧ w.heap.size < W.heap.size ∧ w.grownBy W none)
    (first | (exact ⟨c0, c1, c2, hlt, grown_drew hg0⟩) | (go_split_ands; exact ⟨(grown_cell hcb (by assumption) (by simp)).trans (by assumption), (grown_cell hcb (by assumption) (by simp)).trans (by assumption), (grown_cell hcb (by assumption) (by simp)).trans (by assumption), Nat.lt_of_lt_of_le (by assumption) hcb.size, grown_trans (by assumption) hcb⟩))
    (first
      | (go_split_ands; go_at_call 80; refine (Hf.out _ (by assumption)).mono ?_; rintro e w' ⟨rfl, hcb⟩)
      | (go_split_ands; go_at_call 79; refine (same_fault _ d _ r Hr.out).mono ?_; rintro e w' ⟨rfl, hcb⟩))
  go_wp2
  go_ret
  go_split_ands
  exact ⟨rfl, by assumption⟩
theorem is_sent {A : Nat → Addr} {w : World} (h : Sents w A) (k : Nat) (hk : k < 16) (d : Int) (r : Bool) (hr : ((((101 + k : Nat) : Int)) == d) = r) :
    Calls Tryd.prog 27 #[errV (A k), .int .i64 d] w fun e w' => e = .returned (.bool r) ∧ w.grownBy w' none := by
  have H := hid h
  have Hr := hid hr
  clear h hr
  obtain ⟨v, hv⟩ : ∃ v, errV (A k) = v := ⟨_, rfl⟩
  have Hf : ∀ W, w.grownBy W none → Calls Tryd.prog 53 #[v, faultV d] W fun e w' => e = .returned (.bool r) ∧ W.grownBy w' none := fun W hW => by rw [← hv]; exact same_sent (H.out.kept0 hW) k hk d r Hr.out
  have Hf := hid Hf
  rw [hv]
  clear hv
  go_enter Tryd.func27, Tryd.ntmps27
  go_wp2_with fail
  refine (bare_any d w).mono ?_; rintro e w1 ⟨rfl, hg⟩
  have HG1 := hid hg
  clear hg
  go_wp2_with fail
  refine (Hf.out _ HG1.out).mono ?_; rintro e w2 ⟨rfl, hg⟩
  have HG2 := hid (grown_trans HG1.out hg)
  clear hg
  go_wp2
  go_ret
  exact ⟨rfl, HG2.out⟩
end Go.Proofs.YtpkgckjlhjcdmaaDoor
