/- The bytes of an object (package obj): contracts. -/
import Derived.Test.YtbjijddpdefhpaaDoorZObj16
namespace Go.Proofs.YtbjijddpdefhpaaDoor
open Go.RowKit
theorem run_append_zero (t ty e : TypeId) (i : TypeInfo) (ht : Tryd.prog.underlying t = some (.slice e)) (hi : Tryd.prog.info? e = some i) (b p : Option Addr) (n cap c : Nat) (hn : n ≤ cap) (w : World) :
    (Builtin.append_ #[t, t] ty #[.slice b n cap, .slice p 0 c]).run Tryd.prog w = .ok (.slice b n cap) w := by
  have hf : (Builtin.firstCells i.size 0 (.slice p 0 c)).run Tryd.prog w = .ok #[] w := by
    cases p with
    | none => exact run_firstCells_none w i.size 0 0 c
    | some a => simpa using run_firstCells_some w i.size 0 a 0 c [] (by simp) (by simp)
  cases b with
  | none => simp [Builtin.append_, run_underlying ht, sizeOf, typeInfo, hi, Builtin.lenOf, hn, hf]
  | some a => simp [Builtin.append_, run_underlying ht, sizeOf, typeInfo, hi, Builtin.lenOf, hn, hf, storeCells]
/-- bytes behind bytes -/
theorem wpList_append_by {ops : Array Oper} {rest : List Oper} {o : Oper} {a : Act} {w : World} {Q : Exit → Act → World → Prop} (hgd : o.guard = none) (s x : Operand)
    (ho : o.op = .call { callee := .builtin .append, args := #[s, x], argTypes := #[33, 33] }) {B : Nat} {v lv : Value} {bs xs : List Int} (hs : a.eval s = v) (hb : By B w v bs) (hx : a.eval x = lv) (hl : SlAt w .u8 lv xs) (hn : bs.length + xs.length ≤ 1099511627776)
    (h : ∀ v' w', By B w' v' (bs ++ xs) → Below B w w' → wpList Tryd.prog ops Q rest (a.put o.dst v') w') : wpList Tryd.prog ops Q (o :: rest) a w := by
  obtain ⟨i, hi, hz0, hz1, hz2⟩ := info_byte
  have zero : ∀ p c, lv = .slice p 0 c → xs = [] → wpList Tryd.prog ops Q (o :: rest) a w := by
    intro p c hv hxs
    subst hxs
    rw [List.append_nil] at h
    have hv2 : ∃ b n cap, v = .slice b n cap ∧ n ≤ cap := by
      rcases hb.own.2 with ⟨rfl, _⟩ | ⟨g, cap, cur, rfl, _, _, hc, _⟩
      · exact ⟨none, 0, 0, rfl, Nat.le_refl _⟩
      · exact ⟨_, _, _, rfl, hc⟩
    obtain ⟨b, n, cap, hv2, hc⟩ := hv2
    have hr := run_append_zero 33 o.type 5 i Tryd.underlying33 hi b p n cap c hc w
    refine wpList_plain hgd fun K hK => ?_
    unfold Oper.wp execOp
    simp only [ho, resolve, invoke, builtin, Sem.run_bind, Sem.run_pure, Result.andThen_ok, List.map_toArray, List.map_cons, List.map_nil, hs, hx, hv, hv2, hr]
    exact hK _ _ (by rw [← hv2]; exact h v w hb (Below.refl _ _))
  rcases hl with ⟨⟨p, c, hv⟩, hxs⟩ | ⟨b, ob, c, hv, hlt, hc⟩
  · exact zero p c hv hxs
  · refine wpList_append_own _ hgd s x 33 ho B 5 i _ 1 1 Tryd.underlying33 hi hz0 hz1 hz2 rfl (by decide) v bs.length _ hs hb.own ⟨b, ob, none⟩ xs.length c (xs.map (Value.int .u8)) (by rw [hx, hv]) (by simp) (fun j u hu => ?_) (fun u hu => ?_) (by unfold maxLen; omega) (by omega) hb.le ?_
    · rw [List.getElem?_map, Option.map_eq_some_iff] at hu
      obtain ⟨z, hz, rfl⟩ := hu
      rw [Addr.add_mid]
      exact hc j z hz
    · obtain ⟨z, _, rfl⟩ := List.mem_map.1 hu
      rfl
    · intro v' w' hown hgrow _
      refine h v' w' ⟨?_, Nat.le_trans hb.le hgrow.size⟩ (hb.below_of hgrow)
      rw [List.length_append, List.map_append]
      exact hown
theorem run_at_neq_nil (B : Nat) (w : World) : (binOp .neq 49 (atV B) .nilIface).run Tryd.prog w = .ok (.bool true) w := by
  have h : ∀ d : Nat, (Op.equalIn (d + 1) 49 (atV B) .nilIface).run Tryd.prog w = .ok false w := fun d => by simp [Op.equalIn, run_underlying Tryd.underlying49]
  simp only [binOp]
  simp [Op.equal, Op.maxDepth, h 9999]
theorem flt_is {A : Nat → Addr} {w : World} {v : Value} {y : Fl} (h : FltAt A w v y) (hy : y ≠ none) : ∃ t p, v = .iface t p ∧ ∀ W, (binOp .neq 49 (.iface t p) .nilIface).run Tryd.prog W = .ok (.bool true) W := by
  match y, h with
  | none, _ => exact absurd rfl hy
  | some (c, none), h => exact ⟨_, _, h, fun W => run_err_neq_nil (A c) W⟩
  | some (c, some p), ⟨B, hv, _⟩ => exact ⟨_, _, hv, fun W => run_at_neq_nil B W⟩
def NoBytes (A : Nat → Addr) (w : World) (y : Fl) (e : Ending) (w' : World) : Prop := ∃ fv, e = .returned (.tuple #[.slice none 0 0, fv]) ∧ FltAt A w' fv y ∧ w.grownBy w' none
def YesBytes (w : World) (bs : List Int) (e : Ending) (w' : World) : Prop := ∃ v, e = .returned (.tuple #[v, .nilIface]) ∧ By w.heap.size w' v bs ∧ w.grownBy w' none
section
variable {w : World} {V : OV} {x : PO} {A : Nat → Addr}
theorem bytes_no (h : OAt w V x) (he : ErrC w A) (hf : OFit x) (hv : validP x ≠ none) : Calls Tryd.prog 23 #[V.agg] w (NoBytes A w (validP x)) := by
  obtain ⟨d, c, m, r, q, sv⟩ := V
  have HX := hid (Bx.new h he 37 #[d, c, m, r, q, sv])
  have HF := hid hf
  have HV := hid hv
  clear h he hf hv
  go_enter Tryd.func23, Tryd.ntmps23
  go_upto_region 1 with (fail)
  generalize w.alloc (.cells #[d, c, m, r, q, sv] 37) = w1 at HX ⊢
  go_wp2_with (first
    | (refine wpList_load_rw rfl 37 _ rfl rfl HX.out.box rfl Tryd.underlying37 info_object ?_)
    | fail)
  refine (valid_any HX.out.o HX.out.e HF.out).mono ?_
  rintro e w2 ⟨v, rfl, hfl, hg⟩
  have HX2 := hid (HX.out.kept0 hg)
  have HFl := hid hfl
  obtain ⟨t, p, rfl, hneq⟩ := flt_is hfl HV.out
  clear hg HX hfl
  go_wp2
  go_ret2
  exact ⟨_, rfl, HFl.out, HX2.out.g⟩
/-- the object's box, seen from B on -/
structure BB (w0 : World) (B G : Nat) (V : OV) (x : PO) (w : World) : Prop where
  box : RwAt w G 37 V.cells
  o : OAt w V x
  below : Below w0.heap.size w0 w
theorem BB.go {w0 w1 : World} {B G : Nat} (h : BB w0 B G V x w) (ho : OAt w0 V x) (hG : G < B) (hw : w0.heap.size ≤ B) (hb : Below B w w1) : BB w0 B G V x w1 :=
  have hb2 : Below w0.heap.size w0 w1 := h.below.trans (hb.mono hw)
  ⟨⟨(hb.block _ hG).trans h.box.blk⟩, ho.kept0 (below_is_grown hb2), hb2⟩
end
end Go.Proofs.YtbjijddpdefhpaaDoor
