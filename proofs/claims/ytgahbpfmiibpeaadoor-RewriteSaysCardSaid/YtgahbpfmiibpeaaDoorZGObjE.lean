/- Lists compared (slices.Equal; the document's own): contracts. (Made by gobje.py.) -/
import Derived.Test.YtgahbpfmiibpeaaDoorZGObjB
import Derived.BigQuiet
import Derived.Deep.QuietTactic
import Derived.Laws.StructEq
namespace Go.Proofs.YtgahbpfmiibpeaaDoor
open Go.RowKit

set_option maxHeartbeats 1000000 in
theorem srl1 (a b : Rl) (r : Bool) (hr : decide (a = b) = r) (w : World) :
    Calls Tryd.prog 66 #[a.agg, b.agg] w fun e w' => e = .returned (.bool r) ∧ w.grownBy w' none := by
  obtain ⟨x0, x1, x2, x3⟩ := a
  obtain ⟨y0, y1, y2, y3⟩ := b
  have Hg := hid (grown_alloc (grown_alloc (grown_refl w none) (.cells #[.int .i64 x0, .int .i64 x1, .int .i64 x2, .int .i64 x3] 79)) (.cells #[.int .i64 y0, .int .i64 y1, .int .i64 y2, .int .i64 y3] 79))
  have Hr := hid hr
  clear hr
  by_cases h0 : x0 = y0
  · subst h0
    by_cases h1 : x1 = y1
    · subst h1
      by_cases h2 : x2 = y2
      · subst h2
        obtain ⟨q, hq⟩ : ∃ q, (x3 == y3) = q := ⟨_, rfl⟩
        go_enter Tryd.func66, Tryd.ntmps66
        go_wp2
        go_ret
        exact ⟨ret_b (by rw [← Hr.out, ← hq]; simp [Bool.beq_eq_decide_eq]), Hg.out⟩
      · have hx : (x2 == y2) = false := by simpa using h2
        go_enter Tryd.func66, Tryd.ntmps66
        go_wp2
        go_ret
        exact ⟨ret_b (by rw [← Hr.out]; simp [h2]), Hg.out⟩
    · have hx : (x1 == y1) = false := by simpa using h1
      go_enter Tryd.func66, Tryd.ntmps66
      go_wp2
      go_ret
      exact ⟨ret_b (by rw [← Hr.out]; simp [h1]), Hg.out⟩
  · have hx : (x0 == y0) = false := by simpa using h0
    go_enter Tryd.func66, Tryd.ntmps66
    go_wp2
    go_ret
    exact ⟨ret_b (by rw [← Hr.out]; simp [h0]), Hg.out⟩

set_option maxHeartbeats 1000000 in
theorem ssy1 (a b : Sy) (r : Bool) (hr : decide (a = b) = r) (w : World) :
    Calls Tryd.prog 67 #[a.agg, b.agg] w fun e w' => e = .returned (.bool r) ∧ w.grownBy w' none := by
  obtain ⟨x0, x1, x2, x3⟩ := a
  obtain ⟨y0, y1, y2, y3⟩ := b
  have Hg := hid (grown_alloc (grown_alloc (grown_refl w none) (.cells #[.string x0, .int .i64 x1, .int .i64 x2, .bool x3] 72)) (.cells #[.string y0, .int .i64 y1, .int .i64 y2, .bool y3] 72))
  have Hr := hid hr
  clear hr
  by_cases h0 : x0 = y0
  · subst h0
    by_cases h1 : x1 = y1
    · subst h1
      by_cases h2 : x2 = y2
      · subst h2
        obtain ⟨q, hq⟩ : ∃ q, (x3 == y3) = q := ⟨_, rfl⟩
        go_enter Tryd.func67, Tryd.ntmps67
        go_wp2
        go_ret
        exact ⟨ret_b (by rw [← Hr.out, ← hq]; simp [Bool.beq_eq_decide_eq]), Hg.out⟩
      · have hx : (x2 == y2) = false := by simpa using h2
        go_enter Tryd.func67, Tryd.ntmps67
        go_wp2
        go_ret
        exact ⟨ret_b (by rw [← Hr.out]; simp [h2]), Hg.out⟩
    · have hx : (x1 == y1) = false := by simpa using h1
      go_enter Tryd.func67, Tryd.ntmps67
      go_wp2
      go_ret
      exact ⟨ret_b (by rw [← Hr.out]; simp [h1]), Hg.out⟩
  · have hx : (x0.toList == y0.toList) = false := by rw [beq_eq_false_iff_ne]; intro e; exact h0 (toList_iff.1 e)
    go_enter Tryd.func67, Tryd.ntmps67
    go_wp2
    go_ret
    exact ⟨ret_b (by rw [← Hr.out]; simp [h0]), Hg.out⟩

theorem rl_guard : Tryd.prog.eqGuardType Tryd.prog.depth 79 = false := by kernel_rfl
set_option maxRecDepth 100000 in
theorem run_neq_rl (a b : Rl) (W : World) : (binOp .neq 79 a.agg b.agg).run Tryd.prog W = .ok (.bool (!decide (a = b))) W := by
  have hS : Tryd.prog.underlying 79 = some (.struct (Tryd.prog.fieldsOf 79)) := by kernel_rfl
  have hp : Tryd.prog.stoodInHeld 79 = false := by kernel_rfl
  have u3 := Tryd.underlying3
  have u4 := Tryd.underlying4
  have u9 := Tryd.underlying9
  have a3 := Tryd.isAgg3
  have a4 := Tryd.isAgg4
  have a9 := Tryd.isAgg9
  have z3 := Tryd.sizeOf3
  have z4 := Tryd.sizeOf4
  have z9 := Tryd.sizeOf9
  obtain ⟨x0, x1, x2, x3⟩ := a
  obtain ⟨y0, y1, y2, y3⟩ := b
  rw [run_neq_struct, show (10000 : Nat) = 9999 + 1 from rfl, run_equalIn_agg W 9999 79 _ _ hS hp]
  simp only [Program.fieldsOf, Tryd.underlying79]
  go_simp
  by_cases h0 : x0 = y0 <;> by_cases h1 : x1 = y1 <;> by_cases h2 : x2 = y2 <;> by_cases h3 : x3 = y3 <;> simp [h0, h1, h2, h3]
theorem quiet_neq_rl {o : Oper} {a : Act} {K : Act → Prop} (W : World) (x y : Operand) (ho : o.op = .binOp .neq 79 x y 79) (l k : Rl) (hx : a.eval x = l.agg) (hy : a.eval y = k.agg)
    (r : Bool) (hr : decide (l = k) = r) (hk : K (a.put o.dst (.bool (!r)))) : o.quiet Tryd.prog a (fun w' => ∃ n, w' = W.drewN n) K :=
  ⟨_, fun w _ => by
    unfold Oper.quietAt execOp
    simp [ho, hx, hy, run_eqGuard_agg w .neq 79 x y _ _ rl_guard, run_neq_rl l k w, hr, Result.andThen, Oper.quietUpon], hk⟩

theorem sy_guard : Tryd.prog.eqGuardType Tryd.prog.depth 72 = false := by kernel_rfl
set_option maxRecDepth 100000 in
theorem run_neq_sy (a b : Sy) (W : World) : (binOp .neq 72 a.agg b.agg).run Tryd.prog W = .ok (.bool (!decide (a = b))) W := by
  have hS : Tryd.prog.underlying 72 = some (.struct (Tryd.prog.fieldsOf 72)) := by kernel_rfl
  have hp : Tryd.prog.stoodInHeld 72 = false := by kernel_rfl
  have u3 := Tryd.underlying3
  have u4 := Tryd.underlying4
  have u9 := Tryd.underlying9
  have a3 := Tryd.isAgg3
  have a4 := Tryd.isAgg4
  have a9 := Tryd.isAgg9
  have z3 := Tryd.sizeOf3
  have z4 := Tryd.sizeOf4
  have z9 := Tryd.sizeOf9
  obtain ⟨x0, x1, x2, x3⟩ := a
  obtain ⟨y0, y1, y2, y3⟩ := b
  rw [run_neq_struct, show (10000 : Nat) = 9999 + 1 from rfl, run_equalIn_agg W 9999 72 _ _ hS hp]
  simp only [Program.fieldsOf, Tryd.underlying72]
  go_simp
  by_cases h0 : x0 = y0 <;> by_cases h1 : x1 = y1 <;> by_cases h2 : x2 = y2 <;> cases x3 <;> cases y3 <;> simp [h0, h1, h2, toList_iff]
theorem quiet_neq_sy {o : Oper} {a : Act} {K : Act → Prop} (W : World) (x y : Operand) (ho : o.op = .binOp .neq 72 x y 72) (l k : Sy) (hx : a.eval x = l.agg) (hy : a.eval y = k.agg)
    (r : Bool) (hr : decide (l = k) = r) (hk : K (a.put o.dst (.bool (!r)))) : o.quiet Tryd.prog a (fun w' => ∃ n, w' = W.drewN n) K :=
  ⟨_, fun w _ => by
    unfold Oper.quietAt execOp
    simp [ho, hx, hy, run_eqGuard_agg w .neq 72 x y _ _ sy_guard, run_neq_sy l k w, hr, Result.andThen, Oper.quietUpon], hk⟩
end Go.Proofs.YtgahbpfmiibpeaaDoor
/- Lists compared (slices.Equal; the document's own): contracts. (Made by gobje.py.) -/
namespace Go.Proofs.YtgahbpfmiibpeaaDoor
open Go.RowKit

theorem sby_parted {w : World} {p q : Option Addr} {c d : Nat} {la lb : List Int} (h : la.length ≠ lb.length) :
    Calls Tryd.prog 44 #[.slice p la.length c, .slice q lb.length d] w fun e w' => e = .returned (.bool false) ∧ w.grownBy w' none := by
  have hz : ((la.length : Int) == (lb.length : Int)) = false := by simp; omega
  have hz2 : (la.length == lb.length) = false := by simpa using h
  have Hr := hid (grown_refl w none)
  go_enter Tryd.func44, Tryd.ntmps44
  go_wp2
  go_ret
  exact ⟨rfl, Hr.out⟩
theorem sby_empty {w : World} {p q : Option Addr} {c d : Nat} :
    Calls Tryd.prog 44 #[.slice p 0 c, .slice q 0 d] w fun e w' => e = .returned (.bool true) ∧ w.grownBy w' none := by
  have Hr := hid (grown_refl w none)
  go_enter Tryd.func44, Tryd.ntmps44
  go_wp2
  go_loop [5] (fun i => i = .int .i64 0) (fun _ => 0)
  case atStart => rfl
  case round =>
    obtain rfl := hrel
    go_wp2
    go_ret
    exact ⟨rfl, Hr.out⟩
set_option maxHeartbeats 1000000 in
theorem sby_some {w : World} {b o b' o' c d N : Nat} {la lb : List Int} (hla : la.length = N) (hlb : lb.length = N) (h1 : N ≤ 4611686018427387904)
    (hb : b < w.heap.size) (hb' : b' < w.heap.size)
    (ha : ∀ j x, la[j]? = some x → w.cell? ⟨b, o + j, none⟩ = some (.int .u8 x)) (hc : ∀ j x, lb[j]? = some x → w.cell? ⟨b', o' + j, none⟩ = some (.int .u8 x)) (r : Bool) (hr : decide (la = lb) = r) :
    Calls Tryd.prog 44 #[.slice (some ⟨b, o, none⟩) N c, .slice (some ⟨b', o', none⟩) N d] w fun e w' => e = .returned (.bool r) ∧ w.grownBy w' none := by
  have Ha := hid ha
  have Hc := hid hc
  have Hla := hid hla
  have Hlb := hid hlb
  have Hr := hid hr
  clear ha hc hla hlb hr
  go_enter Tryd.func44, Tryd.ntmps44
  go_wp2
  go_loopw [5, 6] (fun i _ wr => ∃ k : Nat, k ≤ N ∧ i = .int .i64 k ∧ Hid (la.take k = lb.take k) ∧ Hid (w.grownBy wr none)) (fun i _ _ => N - (intOf i).toNat)
  case atStart => exact ⟨0, Nat.zero_le _, rfl, hid (by simp), hid (grown_refl _ _)⟩
  case round =>
    obtain ⟨k, hk, rfl, Hk, Hg⟩ := hrel
    by_cases hlt : k < N
    · obtain ⟨x, Hx⟩ : ∃ x, Hid (la[k]? = some x) := ⟨_, hid (List.getElem?_eq_getElem (by rw [Hla.out]; exact hlt))⟩
      obtain ⟨y, Hy⟩ : ∃ y, Hid (lb[k]? = some y) := ⟨_, hid (List.getElem?_eq_getElem (by rw [Hlb.out]; exact hlt))⟩
      have cx := (grown_cell (p := ⟨b, o + k, none⟩) Hg.out hb (by simp)).trans (Ha.out k x Hx.out)
      have cy := (grown_cell (p := ⟨b', o' + k, none⟩) Hg.out hb' (by simp)).trans (Hc.out k y Hy.out)
      have hk0 : (0 : Int) ≤ (k : Int) := by omega
      have hk1 : (k : Int) < (N : Int) := by omega
      by_cases hxy : x = y
      · subst hxy
        go_wp2
        go_quiet (fail)
        go_wp2
        go_roundw
        case rel =>
          refine ⟨k + 1, by omega, by go_num, hid ?_, hid (grown_drewN Hg.out _)⟩
          rw [List.take_add_one, List.take_add_one, Hk.out, Hx.out, Hy.out]
        case measure => simp [intOf]; omega
      · have hxy2 : (x == y) = false := by simpa using hxy
        go_wp2
        go_quiet (fail)
        go_wp2
        go_ret
        refine ⟨ret_b ?_, grown_drewN Hg.out _⟩
        rw [← Hr.out, eq_comm, decide_eq_false_iff_not]
        intro e
        have e1 := Hx.out
        have e2 := Hy.out
        rw [e, e2] at e1
        exact hxy (Option.some.inj e1).symm
    · go_wp2
      go_ret
      refine ⟨ret_b ?_, Hg.out⟩
      have hn : k = N := by omega
      have e := Hk.out
      rw [hn, List.take_of_length_le (by rw [Hla.out]; omega), List.take_of_length_le (by rw [Hlb.out]; omega)] at e
      rw [← Hr.out, e]
      simp
/-- two lists are told to be the same, just if they are -/
theorem sby_any {w : World} {va vb : Value} {la lb : List Int} (ha : SlAt w .u8 va la) (hb : SlAt w .u8 vb lb) (h1 : la.length ≤ 4611686018427387904) (r : Bool) (hr : decide (la = lb) = r) :
    Calls Tryd.prog 44 #[va, vb] w fun e w' => e = .returned (.bool r) ∧ w.grownBy w' none := by
  by_cases hl : la.length = lb.length
  · by_cases h0 : la.length = 0
    · obtain rfl := List.eq_nil_of_length_eq_zero h0
      obtain rfl := List.eq_nil_of_length_eq_zero (hl.symm.trans h0)
      obtain ⟨p, c, rfl⟩ := ha.len'
      obtain ⟨q, d, rfl⟩ := hb.len'
      subst hr
      exact sby_empty
    · rcases ha with ⟨_, rfl⟩ | ⟨b, o, c, rfl, hbl, hc⟩
      · simp at h0
      · rcases hb with ⟨_, rfl⟩ | ⟨b', o', d, rfl, hbl', hc'⟩
        · simp at hl; simp [hl] at h0
        · rw [← hl]
          exact sby_some rfl hl.symm h1 hbl hbl' hc hc' r hr
  · obtain ⟨p, c, rfl⟩ := ha.len'
    obtain ⟨q, d, rfl⟩ := hb.len'
    have : r = false := by rw [← hr, decide_eq_false_iff_not]; intro e; exact hl (by rw [e])
    subst this
    exact sby_parted hl


end Go.Proofs.YtgahbpfmiibpeaaDoor
