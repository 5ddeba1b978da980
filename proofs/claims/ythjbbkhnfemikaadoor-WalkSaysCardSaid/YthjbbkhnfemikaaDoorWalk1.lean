/- What package walk's Bits and Of answer, and the document's own: contracts. -/
import Derived.Test.YthjbbkhnfemikaaDoorWalkP
import Derived.Test.YthjbbkhnfemikaaDoorMem0
import Derived.WalkKit
import Derived.WalkSpells
import Derived.WalkLawsBesides
import Derived.Handy
import Derived.RegionTactic
import Derived.Deep.QuietTactic
import Derived.BigQuiet
import Derived.IntWalk
import Derived.Outline
import Derived.Laws.StructEq
namespace Go.Proofs.YthjbbkhnfemikaaDoor
open Go.RowKit
theorem rt_ib {k : IntKind} {a b : Int} {c d : Bool} (h : a = b) (h1 : c = d) : Ending.returned (.tuple #[.int k a, .bool c]) = .returned (.tuple #[.int k b, .bool d]) := by rw [h, h1]
theorem wbit_any (s : Bool) (x y : Int) (w : World) (hy : (if s = true then x else 0) = y) :
    Calls Tryd.prog 23 #[.bool s, .int .u32 x] w fun e w' => e = .returned (.int .u32 y) ∧ w = w' := by
  subst hy
  cases s
  · go_enter Tryd.func23, Tryd.ntmps23
    go_wp2
    go_ret
    exact ⟨rfl, rfl⟩
  · go_enter Tryd.func23, Tryd.ntmps23
    go_wp2
    go_ret
    exact ⟨rfl, rfl⟩
/-- the value of an entry -/
def entV (f : Int) (t w u : Bool) : Value := .agg #[.int .i64 f, .bool t, .bool w, .bool u]
theorem bits_out (f : Int) (t w u : Bool) (W : World) (h : f < 0 ∨ 1024 ≤ f) :
    Calls Tryd.prog 10 #[.agg #[.int .i64 f, .bool t, .bool w, .bool u]] W fun e w' => e = .returned (.tuple #[.int .u32 0, .bool false]) ∧ W.grownBy w' none := by
  have Hr := hid (grown_refl W none)
  rcases h with h | h
  · go_enter Tryd.func10, Tryd.ntmps10
    go_wp2
    go_ret2
    exact ⟨rfl, grown_alloc Hr.out _⟩
  · have h0 : ¬ f < 0 := by omega
    go_enter Tryd.func10, Tryd.ntmps10
    go_wp2
    go_ret2
    exact ⟨rfl, grown_alloc Hr.out _⟩
set_option maxHeartbeats 1000000 in
theorem bits_there (f : Int) (w u : Bool) (W : World) (h0 : 0 ≤ f) (h1 : f < 1024) :
    Calls Tryd.prog 10 #[.agg #[.int .i64 f, .bool true, .bool w, .bool u]] W fun e w' => e = .returned (.tuple #[.int .u32 (bitV f true w u), .bool true]) ∧ W.grownBy w' none := by
  have Hr := hid (grown_refl W none)
  have Hv := hid (bitV_yes (w := w) (u := u) h0 h1)
  obtain ⟨B, hB⟩ : ∃ B, bitV f true w u = B := ⟨_, rfl⟩
  rw [hB] at Hv ⊢
  clear hB
  have hn : ¬ f < 0 := by omega
  have hn2 : ¬ f ≥ 1024 := by omega
  have t2 : 0 ≤ twoV w ∧ twoV w ≤ 2 := by unfold twoV; split <;> omega
  have t4 : 0 ≤ fourV u ∧ fourV u ≤ 4 := by unfold fourV; split <;> omega
  obtain ⟨T, hT⟩ : ∃ T, twoV w = T := ⟨_, rfl⟩
  obtain ⟨F, hF⟩ : ∃ F, fourV u = F := ⟨_, rfl⟩
  have HT : Hid ((if w = true then 2 else 0) = T) := hid hT
  have HF : Hid ((if u = true then 4 else 0) = F) := hid hF
  rw [hT] at t2 Hv
  rw [hF] at t4 Hv
  obtain ⟨t2, t3⟩ := t2
  obtain ⟨t4, t5⟩ := t4
  clear hT hF
  go_enter Tryd.func10, Tryd.ntmps10
  go_wp2
  go_quiet ((first | (go_at_call 23; first | exact Calls.quiet_of_same ((wbit_any _ _ T _ HT.out).mono fun _ _ ⟨he, hw⟩ => ⟨he, hw.symm⟩) | exact Calls.quiet_of_same ((wbit_any _ _ F _ HF.out).mono fun _ _ ⟨he, hw⟩ => ⟨he, hw.symm⟩))))
  go_wp2
  go_ret2
  exact ⟨rt_ib Hv.out.symm rfl, grown_drewN (grown_alloc Hr.out _) _⟩
theorem entry_guard : Tryd.prog.eqGuardType Tryd.prog.depth 32 = false := by kernel_rfl
theorem run_eq_entry (f f' : Int) (t w u t' w' u' : Bool) (W : World) :
    (binOp .eql 32 (.agg #[.int .i64 f, .bool t, .bool w, .bool u]) (.agg #[.int .i64 f', .bool t', .bool w', .bool u'])).run Tryd.prog W = .ok (.bool (f == f' && (t == t' && (w == w' && u == u')))) W := by
  have hS : Tryd.prog.underlying 32 = some (.struct (Tryd.prog.fieldsOf 32)) := by kernel_rfl
  have hp : Tryd.prog.stoodInHeld 32 = false := by kernel_rfl
  have u3 := Tryd.underlying3
  have u4 := Tryd.underlying4
  have a3 := Tryd.isAgg3
  have a4 := Tryd.isAgg4
  have z3 := Tryd.sizeOf3
  have z4 := Tryd.sizeOf4
  rw [run_eql_struct, show (10000 : Nat) = 9999 + 1 from rfl, run_equalIn_agg W 9999 32 _ _ hS hp]
  simp only [Program.fieldsOf, Tryd.underlying32]
  go_simp
  by_cases h1 : f = f' <;> cases t <;> cases t' <;> cases w <;> cases w' <;> cases u <;> cases u' <;> simp [h1]
theorem quiet_eq_entry {o : Oper} {a : Act} {K : Act → Prop} (W : World) (x y : Operand) (ho : o.op = .binOp .eql 32 x y 32) (f f' : Int) (t w u t' w' u' : Bool) (hx : a.eval x = .agg #[.int .i64 f, .bool t, .bool w, .bool u]) (hy : a.eval y = .agg #[.int .i64 f', .bool t', .bool w', .bool u'])
    (r : Bool) (hr : (f == f' && (t == t' && (w == w' && u == u'))) = r) (hk : K (a.put o.dst (.bool r))) : o.quiet Tryd.prog a (fun w' => ∃ n, w' = W.drewN n) K :=
  ⟨_, fun w _ => by
    unfold Oper.quietAt execOp
    simp [ho, hx, hy, run_eqGuard_agg w .eql 32 x y _ _ entry_guard, run_eq_entry, hr, Result.andThen, Oper.quietUpon], hk⟩
set_option maxHeartbeats 1000000 in
theorem bits_none (f : Int) (w u r : Bool) (W : World) (h0 : 0 ≤ f) (h1 : f < 1024) (hr : (f == 0 && (false == false && (w == false && u == false))) = r) :
    Calls Tryd.prog 10 #[.agg #[.int .i64 f, .bool false, .bool w, .bool u]] W fun e w' => e = .returned (.tuple #[.int .u32 0, .bool r]) ∧ W.grownBy w' none := by
  have Hr := hid (grown_refl W none)
  have HR := hid hr
  clear hr
  have hn : ¬ f < 0 := by omega
  have hn2 : ¬ f ≥ 1024 := by omega
  go_enter Tryd.func10, Tryd.ntmps10
  go_wp2
  refine wp_region_quiet_lit (by kernel_rfl) (by kernel_rfl) ?_
  repeat (first | go_big_quiet_skip | (go_big_quiet_want; first | (refine quiet_eq_entry (W.alloc (.cells #[.int .i64 f, .bool false, .bool w, .bool u] 32)) _ _ rfl f 0 false w u false false false rfl rfl r HR.out ?_; simp only [Act.put, List.setIfInBounds_toArray, List.set_cons_zero, List.set_cons_succ]; go_big_quiet_on) | (go_big_quiet_op; go_big_quiet_on)))
  refine wpQuiet_nil ?_
  intro _ hw'
  obtain ⟨nq, hw''⟩ := hw'
  subst hw''
  go_wp2
  go_ret2
  exact ⟨rfl, grown_drewN (grown_alloc Hr.out _) _⟩
theorem bits_any (f : Int) (t w u : Bool) (W : World) :
    Calls Tryd.prog 10 #[.agg #[.int .i64 f, .bool t, .bool w, .bool u]] W fun e w' => e = .returned (.tuple #[.int .u32 (bitV f t w u), .bool (bitB f t w u)]) ∧ W.grownBy w' none := by
  by_cases h0 : 0 ≤ f ∧ f < 1024
  · obtain ⟨h0, h1⟩ := h0
    cases t
    · have e : bitV f false w u = 0 := by unfold bitV; rw [if_neg (by simp)]
      rw [e]
      refine bits_none f w u _ W h0 h1 ?_
      unfold bitB
      by_cases hf : f = 0
      · subst hf; cases w <;> cases u <;> rfl
      · simp [hf]
    · have e : bitB f true w u = true := by unfold bitB; simp [h0, h1]
      rw [e]
      exact bits_there f w u W h0 h1
  · have e : bitB f t w u = false := by unfold bitB; rw [decide_eq_false h0]; rfl
    rw [bitV_no e, e]
    exact bits_out f t w u W (by omega)
end Go.Proofs.YthjbbkhnfemikaaDoor
