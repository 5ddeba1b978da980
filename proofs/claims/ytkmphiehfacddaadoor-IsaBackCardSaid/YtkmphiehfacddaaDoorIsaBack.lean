/- For every input the law IsaBack of this program returns true, and each argument reads afterwards as it read before. The four package-level variables that it reads are listed with what they hold; the card ties them to the program's text. -/
import Derived.Test.YtkmphiehfacddaaDoorBack
import Derived.Test.YtkmphiehfacddaaDoorBack2
import Derived.Test.YtkmphiehfacddaaDoorRow
import Derived.Test.YtkmphiehfacddaaDoorCards
import Derived.Test.YtkmphiehfacddaaDoorTie
namespace Go.Proofs.YtkmphiehfacddaaDoor.isaBack
open Go.Proofs.YtkmphiehfacddaaDoor Go.ChangeShapes Go.WideShapes Go.ChangeAt Go.RowKit
theorem own : ownKnob Tryd.prog.godebug = none := by kernel_rfl

theorem nats {o a b c i : Int} (h : insB o a b c i = true) (hi : 0 ≤ i) : ∃ o' a' b' c' i' : Nat, o = o' ∧ a = a' ∧ b = b' ∧ c = c' ∧ i = i' := by
  obtain ⟨⟨o1, _⟩, ⟨a1, _⟩, ⟨b1, _⟩, ⟨c1, _⟩⟩ := ins_bd h
  exact ⟨o.toNat, a.toNat, b.toNat, c.toNat, i.toNat, by omega, by omega, by omega, by omega, by omega⟩
theorem walk (o a b c i o' a' b' c' i' : Int) (w : World) (hv : Vars w) (wi : (Lit.int .u32 i).wf = true) (wk : (Lit.int .u32 i').wf = true) :
    Calls Tryd.prog 4 #[.agg #[.int .i64 o, .int .i64 a, .int .i64 b, .int .i64 c, .int .u32 i], .agg #[.int .i64 o', .int .i64 a', .int .i64 b', .int .i64 c', .int .u32 i']] w fun e w' => e = .returned (.bool true) ∧ Below w.heap.size w w' := by
  obtain ⟨i0, i1⟩ := u32_bd wi
  obtain ⟨k0, k1⟩ := u32_bd wk
  cases hI : insB o a b c i
  · exact back_no o a b c i o' a' b' c' i' w hv hI
  · obtain ⟨o, a, b, c, i, rfl, rfl, rfl, rfl, rfl⟩ := nats hI i0
    cases hK : insB o' a' b' c' i'
    · exact back_half o a b c i o' a' b' c' i' w hv (by omega) hI hK
    · obtain ⟨o', a', b', c', i', rfl, rfl, rfl, rfl, rfl⟩ := nats hK k0
      obtain ⟨_, a1, b1, c1⟩ := ins_bd hI
      obtain ⟨_, a2, b2, c2⟩ := ins_bd hK
      by_cases hw : wrdI o a b c = wrdI o' a' b' c'
      · obtain ⟨e1, e2, e3, e4⟩ := wrd_inj a1 b1 c1 a2 b2 c2 hw
        obtain rfl : o = o' := by omega
        obtain rfl : a = a' := by omega
        obtain rfl : b = b' := by omega
        obtain rfl : c = c' := by omega
        by_cases hi : i = i'
        · subst hi
          exact back_same o a b c i w hv (by omega) hI
        · refine back_imm o a b c i o a b c i' w hv (by omega) (by omega) hI hK (by simp) (by simp; omega) ?_ ?_
          · unfold samI; simp; omega
          · intro ht
            exact hi (text_inj hI hK ht).2.2.2.2
      · have hne : ¬ (o = o' ∧ a = a' ∧ b = b' ∧ c = c') := by
          rintro ⟨rfl, rfl, rfl, rfl⟩
          exact hw rfl
        refine back_word o a b c i o' a' b' c' i' w hv (by omega) (by omega) hI hK (by simpa using hw) ?_ ?_
        · unfold samI; simp; omega
        · intro ht
          obtain ⟨e1, e2, e3, e4, _⟩ := text_inj hI hK ht
          exact hne ⟨e1, e2, e3, e4⟩

set_option maxRecDepth 100000 in
theorem lifted (os : Os) (started : os.Started) (H : Type) (enc : TypeId × Value → H) :
    ReturnsInHanded {} Tryd.checked os 4 .any (fun w args => (Rows.isaBackSpec.pre enc Tryd.prog Tryd.f4 [] false w args ∧ laidMetH Tryd.prog laid4 w) ∧ sizedMet enc Tryd.prog Tryd.f4 (OpenSpec.ofChange Rows.isaBackSpec) false w args)
      (Rows.isaBackSpec.post enc Tryd.prog Tryd.f4 false true false false) := by
  refine returnsInHanded_of_change_and (C := Tryd.checked) (X := fun w _ => laidMetH Tryd.prog laid4 w) (fun _ _ _ hh h => h.of_heap hh) own started (by kernel_rfl) Tryd.func4
    (ChangeSpec.witness_shaped (enc := enc) (C := Tryd.checked) (os := os) (X := fun w _ => laidMetH Tryd.prog laid4 w) false (World.doorLaid Tryd.prog 29 os) #[.agg #[.int .i64 0, .int .i64 0, .int .i64 0, .int .i64 0, .int .u32 0], .agg #[.int .i64 0, .int .i64 0, .int .i64 0, .int .i64 0, .int .u32 0]] 8 rfl (World.shaped_of_RefB (by kernel_rfl) (by kernel_rfl)) (by kernel_rfl) (by kernel_rfl) (by kernel_rfl) (door_met os _)) ?_
  intro W base args ds gs before hval0 hW _ _ hL _
  have hval : ∀ (j : Nat) t v, Tryd.f4.params[j]? = some t → args[j]? = some v → Value.okWide Tryd.prog W .any base t v := hval0
  have hW' := hW
  obtain ⟨p, q, hA0, hV, rfl, hfz, hnd⟩ := hW
  have hA : DataW.TrodAll enc Tryd.prog W 0 (fun _ => true) true Tryd.f4.params.toList args.toList ds p := hA0
  rw [Tryd.params4] at hA hval
  obtain ⟨v0, vs0, d0, ds0, p0, q0, hargs, rfl, rfl, h0, r0⟩ := trodAll_cons hA
  obtain ⟨v1, vs1, d1, ds1, p1, q1, rfl, rfl, rfl, h1, r1⟩ := trodAll_cons r0
  obtain ⟨rfl, rfl, rfl⟩ := trodAll_nil r1
  obtain rfl : args = #[v0, v1] := by cases args; simp_all
  obtain ⟨rfl, rfl⟩ := trodVars_none hV
  obtain ⟨o, a, b, c, i, rfl, rfl, rfl, w0, wa, wb, wc, wi⟩ := open_instr (hval 0 24 v0 rfl rfl) h0
  obtain ⟨o', a', b', c', i', rfl, rfl, rfl, v0, va, vb, vc, vi⟩ := open_instr (hval 1 24 v1 rfl rfl) h1
  clear hA0 hval0
  simp only [List.append_nil] at hW'
  refine (walk o a b c i o' a' b' c' i' W (vars_of_laid hL) wi vi).mono fun e W' ⟨he, hg⟩ => ?_
  subst he
  exact ⟨_, rfl, post_of_below (pa := []) (pv := []) hW' (fun _ _ _ => (trodAll_cons_mk (shut_bool Tryd.underlying4 _) trodAll_mk0)) (fun sp _ => (trodAll_cons_mk (shut_instr w0 wa wb wc wi) (trodAll_cons_mk (shut_instr v0 va vb vc vi) trodAll_mk0))) (fun _ _ => rfl) rfl
    hg (ok_one (by kernel_rfl) rfl (okWide_bool_mk Tryd.underlying4 _))⟩

theorem over : Rows.IsaBackSaid :=
  OpenClaim.holds_of_wide 4 Tryd.f4 rfl rfl rfl rfl rfl rfl rfl ⟨rfl, rfl, rfl, rfl, rfl⟩ rfl rfl rfl rfl rfl (by kernel_rfl) Tryd.func4 (by kernel_rfl)
    (of_decide_eq_true (by kernel_rfl)) (by unfold Func.isWrapper; first | (rw [if_pos (by decide +kernel)]; kernel_rfl) | (rw [if_neg (by decide +kernel)]; exact ⟨rfl, rfl⟩))
    (fun os started H enc _ => lifted os started H enc)

/-- the statement -/
theorem isaBack_holds : Rows.IsaBackCardSaid :=
  Claim7.holds_tied_plain_at .later [] [.data, .data, .data, .data] true (true, "0074dad36c3f387a8308a8973af4118bd44a014b8800a7d9e0a585769fc9eade") false
    over (fun _ h => by cases h) (by kernel_rfl) (fun _ h => by cases h) isaBack_row_tie rfl ⟨rfl, rfl⟩ (by kernel_rfl) rfl
    (fun f fn hf hfn => by
      obtain rfl : f = 4 := Option.some.inj ((show Tryd.prog.funcNamed "facade/facadelaw1.IsaBack" = some 4 by kernel_rfl).symm.trans hf) |>.symm
      obtain rfl : fn = Tryd.f4 := (Option.some.inj (Tryd.func4.symm.trans hfn)).symm
      exact ⟨by kernel_rfl, fun j t ht => by
        rw [Tryd.params4] at ht
        have hm : t ∈ [24] := by
          have := Array.mem_of_getElem? ht
          simpa using this
        have hall : ([24].all fun u => !Tryd.prog.wantsStandIn u) = true := by kernel_rfl
        exact (show Tryd.prog.wantsStandIn t = false by simpa using List.all_eq_true.1 hall t hm)⟩)
    (by kernel_rfl)
#print axioms isaBack_holds
end Go.Proofs.YtkmphiehfacddaaDoor.isaBack
