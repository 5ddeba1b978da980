/- Objects (package obj) in a world: slices of structs, an object as a value, an object in a block; what is known of them and how it is carried on. -/
import Derived.Test.YtcfagdmaephkdaaDoorYFPlay
import Derived.Test.YtcfagdmaephkdaaDoorYBase
import Derived.Test.YtcfagdmaephkdaaDoorRows
import Derived.WalkKit
import Derived.WalkSpells
import Derived.WalkLawsBesides
import Derived.Handy
import Derived.LaidMore
namespace Go.Proofs.YtcfagdmaephkdaaDoor
open Go.RowKit
/-! ### cells in a slice -/
/-- the slice value v has n elements, whose cells are these -/
def CsAt (w : World) (v : Value) (n : Nat) (cs : List Value) : Prop :=
  ((∃ p c, v = .slice p 0 c) ∧ n = 0 ∧ cs = []) ∨
  ∃ b o c, v = .slice (some ⟨b, o, none⟩) n c ∧ n ≤ c ∧ b < w.heap.size ∧ ∀ j u, cs[j]? = some u → w.cell? ⟨b, o + j, none⟩ = some u
section
variable {w w1 : World} {v : Value} {n : Nat} {cs : List Value}
theorem CsAt.kept0 (h : CsAt w v n cs) (hg : w.grownBy w1 none) : CsAt w1 v n cs := by
  rcases h with h | ⟨b, o, c, rfl, hn, hb, hc⟩
  · exact .inl h
  · refine .inr ⟨b, o, c, rfl, hn, Nat.lt_of_lt_of_le hb hg.size, fun j x hx => ?_⟩
    rw [grown_cell hg hb (by simp)]
    exact hc j x hx
theorem CsAt.len (h : CsAt w v n cs) : ∃ p c, v = .slice p n c := by
  rcases h with ⟨⟨p, c, rfl⟩, rfl, rfl⟩ | ⟨b, o, c, rfl, _⟩
  · exact ⟨_, _, rfl⟩
  · exact ⟨_, _, rfl⟩
theorem CsAt.own {base : Nat} {t : TypeId} {size : Nat} (h : w.ownsRow base t size v n cs) : CsAt w v n cs := by
  obtain ⟨hl, h⟩ := h
  rcases h with ⟨rfl, h0⟩ | ⟨g, cap, cur, rfl, _, hg, hcl, _, _, ht⟩
  · subst h0
    exact .inl ⟨⟨_, _, rfl⟩, rfl, List.eq_nil_of_length_eq_zero (by omega)⟩
  · refine .inr ⟨g, 0, cap, rfl, hcl, (Array.getElem?_eq_some_iff.1 hg).1, fun j u hu => ?_⟩
    rw [cell_of_row w g _ _ t _ hg, Nat.zero_add]
    have := congrArg (·[j]?) ht
    simp only [List.getElem?_take, hu] at this
    have hj : j < cs.length := (List.getElem?_eq_some_iff.1 hu).1
    rw [hl] at hj
    rw [if_pos hj] at this
    simpa using this
theorem SlAt.len' {k : IntKind} {ls : List Int} (h : SlAt w k v ls) : ∃ p c', v = .slice p ls.length c' := by
  rcases h with ⟨⟨p, c, rfl⟩, rfl⟩ | ⟨b, o, c, rfl, _⟩
  · exact ⟨_, _, rfl⟩
  · exact ⟨_, _, rfl⟩
end
/-! ### relocations and symbols -/
def rlC (r : Rl) : List Value := [.int .i64 r.a, .int .i64 r.k, .int .i64 r.s, .int .i64 r.d]
def syC (s : Sy) : List Value := [.string s.n, .int .i64 s.i, .int .i64 s.v, .bool s.g]
def rlsC : List Rl → List Value
  | [] => []
  | r :: l => rlC r ++ rlsC l
def sysC : List Sy → List Value
  | [] => []
  | r :: l => syC r ++ sysC l
abbrev RlAt (w : World) (v : Value) (l : List Rl) : Prop := CsAt w v l.length (rlsC l)
abbrev SyAt (w : World) (v : Value) (l : List Sy) : Prop := CsAt w v l.length (sysC l)
/-! ### objects -/
/-- the six slices of an object -/
structure OV where
  d : Value
  c : Value
  m : Value
  r : Value
  q : Value
  s : Value
def OV.cells (V : OV) : Array Value := #[V.d, V.c, V.m, V.r, V.q, V.s]
abbrev OV.agg (V : OV) : Value := .agg #[V.d, V.c, V.m, V.r, V.q, V.s]
/-- this value is this object -/
structure OAt (w : World) (V : OV) (x : PO) : Prop where
  d : SlAt w .u32 V.d x.D
  c : SlAt w .u32 V.c x.C
  m : SlAt w .u8 V.m x.M
  r : RlAt w V.r x.R
  q : RlAt w V.q x.Q
  s : SyAt w V.s x.S
theorem OAt.kept0 {w w1 : World} {V : OV} {x : PO} (h : OAt w V x) (hg : w.grownBy w1 none) : OAt w1 V x :=
  ⟨h.d.kept0 hg, h.c.kept0 hg, h.m.kept0 hg, h.r.kept0 hg, h.q.kept0 hg, h.s.kept0 hg⟩
/-- the errors of what is wrong lie in their variables -/
structure ErrC (w : World) (A : Nat → Addr) : Prop where
  c1 : w.cell? ⟨7, 0, none⟩ = some (errV (A 1))
  c2 : w.cell? ⟨0, 0, none⟩ = some (errV (A 2))
  c3 : w.cell? ⟨8, 0, none⟩ = some (errV (A 3))
  c4 : w.cell? ⟨9, 0, none⟩ = some (errV (A 4))
  c5 : w.cell? ⟨10, 0, none⟩ = some (errV (A 5))
  c6 : w.cell? ⟨4, 0, none⟩ = some (errV (A 6))
  c8 : w.cell? ⟨12, 0, none⟩ = some (errV (A 8))
theorem ErrC.kept0 {w w1 : World} {A : Nat → Addr} (h : ErrC w A) (hg : w.grownBy w1 none) : ErrC w1 A := by
  have k : ∀ {g : Nat} {v : Value}, w.cell? ⟨g, 0, none⟩ = some v → w1.cell? ⟨g, 0, none⟩ = some v := fun hc => by
    rw [grown_cell hg (World.block_lt_of_cell? w _ hc) (by simp)]; exact hc
  exact ⟨k h.c1, k h.c2, k h.c3, k h.c4, k h.c5, k h.c6, k h.c8⟩
end Go.Proofs.YtcfagdmaephkdaaDoor
namespace Go.Proofs.YtcfagdmaephkdaaDoor
open Go.RowKit Go.WideShapes Go.ChangeShapes
def errTexts : List (String × List UInt8) := [("facade/api.ErrEnd", [105, 116, 32, 101, 110, 100, 115, 32, 116, 111, 111, 32, 101, 97, 114, 108, 121]), ("facade/api.ErrShape", [110, 111, 116, 32, 97, 115, 32, 105, 116, 32, 104, 97, 115, 32, 116, 111, 32, 98, 101]), ("facade/api.ErrRange", [97, 32, 110, 117, 109, 98, 101, 114, 32, 111, 117, 116, 32, 111, 102, 32, 105, 116, 115, 32, 114, 97, 110, 103, 101]), ("facade/api.ErrMany", [116, 111, 111, 32, 109, 97, 110, 121]), ("facade/api.ErrOp", [110, 111, 32, 115, 117, 99, 104, 32, 105, 110, 115, 116, 114, 117, 99, 116, 105, 111, 110]), ("facade/api.ErrTwice", [116, 104, 101, 114, 101, 32, 105, 115, 32, 111, 110, 101]), ("facade/api.ErrNone", [116, 104, 101, 114, 101, 32, 105, 115, 32, 110, 111, 110, 101]), ("facade/api.ErrFar", [116, 111, 111, 32, 102, 97, 114]), ("facade/api.ErrMap", [110, 111, 116, 32, 97, 115, 32, 116, 104, 101, 32, 99, 111, 100, 101, 39, 115, 32, 109, 97, 112, 32, 104, 97, 115, 32, 105, 116]), ("facade/api.ErrOwner", [97, 110, 111, 116, 104, 101, 114, 32, 111, 110, 101, 39, 115]), ("facade/api.ErrType", [97, 32, 102, 114, 97, 109, 101, 32, 111, 102, 32, 97, 110, 111, 116, 104, 101, 114, 32, 107, 105, 110, 100]), ("facade/api.ErrBusy", [115, 116, 105, 108, 108, 32, 105, 110, 32, 117, 115, 101]), ("facade/api.ErrFull", [116, 104, 101, 114, 101, 32, 105, 115, 32, 110, 111, 32, 114, 111, 111, 109]), ("facade/api.ErrState", [110, 111, 116, 32, 97, 115, 32, 105, 116, 32, 105, 115, 32, 110, 111, 119]), ("facade/api.ErrWord", [110, 111, 32, 115, 117, 99, 104, 32, 119, 111, 114, 100]), ("facade/api.ErrNumber", [110, 111, 116, 32, 97, 32, 110, 117, 109, 98, 101, 114])]
theorem sents_of_laid {W : World} (h : laidMet Tryd.prog (errTexts.map fun x => (x.1, .iface "*errors.errorString" (.ptr (.agg [.lit (.string x.2)])))) W) : ∃ A, Sents W A := by
  obtain ⟨ps, hv, hnd, hrows⟩ := h
  have hrow : ∀ u, Tryd.prog.typeName? 3 u = some "*errors.errorString" → u = 99 := fun u hu =>
    typeName_ptr_named (nm := "errors.errorString") (by kernel_rfl) (by kernel_rfl) (by decide) u hu
  have hty : ∀ x ∈ errTexts, (Tryd.prog.globalNamed x.1).bind (fun g => (Tryd.prog.globals[g]?).map (·.type)) = some 26 := by
    have hall : (errTexts.all fun x => decide ((Tryd.prog.globalNamed x.1).bind (fun g => (Tryd.prog.globals[g]?).map (·.type)) = some 26)) = true := by kernel_rfl
    intro x hx
    exact of_decide_eq_true (List.all_eq_true.1 hall x hx)
  obtain ⟨al, hl, hn, hin, hall⟩ := laid_sents Tryd.underlying26 hrow Tryd.underlying99 Tryd.underlying116 rfl rfl Tryd.underlying9 (by kernel_rfl) (by kernel_rfl) errTexts ps hv hrows hnd hty
  have hl16 : al.length = 16 := hl
  have hG : errTexts.map (fun x => Tryd.prog.globalNamed x.1) = errG.map some := by kernel_rfl
  refine ⟨fun i => al.getD i ⟨0, 0, none⟩, fun i g hg => ?_, fun i hi => ?_, fun i j hi hj he => ?_⟩
  · have hi : i < 16 := by have := (List.getElem?_eq_some_iff.1 hg).1; simpa [errG] using this
    obtain ⟨x, hx⟩ : ∃ x, errTexts[i]? = some x := ⟨_, List.getElem?_eq_getElem (by simpa [errTexts] using hi)⟩
    obtain ⟨a, ha, g', hg', hc⟩ := hall i x hx
    have h1 := congrArg (·[i]?) hG
    simp only [List.getElem?_map, hx, hg, Option.map_some, Option.some.injEq] at h1
    rw [hg'] at h1
    obtain rfl := Option.some.inj h1
    simp only [List.getD, ha, Option.getD_some]
    exact hc
  · have : al.getD i ⟨0, 0, none⟩ ∈ al := by
      rw [List.getD, List.getElem?_eq_getElem (by omega)]
      exact List.getElem_mem _
    exact (hrows _ _ (hin _ this)).1
  · simp only [List.getD, List.getElem?_eq_getElem (show i < al.length by omega), List.getElem?_eq_getElem (show j < al.length by omega), Option.getD_some] at he
    rcases Nat.lt_trichotomy i j with h | h | h
    · exact absurd he (List.pairwise_iff_getElem.1 hn i j (by omega) (by omega) h)
    · exact h
    · exact absurd he.symm (List.pairwise_iff_getElem.1 hn j i (by omega) (by omega) h)
def errTexts7 : List (String × List UInt8) := [("facade/api.ErrShape", [110, 111, 116, 32, 97, 115, 32, 105, 116, 32, 104, 97, 115, 32, 116, 111, 32, 98, 101]), ("facade/api.ErrRange", [97, 32, 110, 117, 109, 98, 101, 114, 32, 111, 117, 116, 32, 111, 102, 32, 105, 116, 115, 32, 114, 97, 110, 103, 101]), ("facade/api.ErrMany", [116, 111, 111, 32, 109, 97, 110, 121]), ("facade/api.ErrOp", [110, 111, 32, 115, 117, 99, 104, 32, 105, 110, 115, 116, 114, 117, 99, 116, 105, 111, 110]), ("facade/api.ErrTwice", [116, 104, 101, 114, 101, 32, 105, 115, 32, 111, 110, 101]), ("facade/api.ErrNone", [116, 104, 101, 114, 101, 32, 105, 115, 32, 110, 111, 110, 101]), ("facade/api.ErrMap", [110, 111, 116, 32, 97, 115, 32, 116, 104, 101, 32, 99, 111, 100, 101, 39, 115, 32, 109, 97, 112, 32, 104, 97, 115, 32, 105, 116])]
theorem errc_of_laid {W : World} (h : laidMet Tryd.prog (errTexts7.map fun x => (x.1, .iface "*errors.errorString" (.ptr (.agg [.lit (.string x.2)])))) W) : ∃ A, ErrC W A := by
  obtain ⟨ps, hv, hnd, hrows⟩ := h
  have hrow : ∀ u, Tryd.prog.typeName? 3 u = some "*errors.errorString" → u = 99 := fun u hu =>
    typeName_ptr_named (nm := "errors.errorString") (by kernel_rfl) (by kernel_rfl) (by decide) u hu
  have hty : ∀ x ∈ errTexts7, (Tryd.prog.globalNamed x.1).bind (fun g => (Tryd.prog.globals[g]?).map (·.type)) = some 26 := by
    have hall : (errTexts7.all fun x => decide ((Tryd.prog.globalNamed x.1).bind (fun g => (Tryd.prog.globals[g]?).map (·.type)) = some 26)) = true := by kernel_rfl
    intro x hx
    exact of_decide_eq_true (List.all_eq_true.1 hall x hx)
  obtain ⟨al, hl, hn, hin, hall⟩ := laid_sents Tryd.underlying26 hrow Tryd.underlying99 Tryd.underlying116 rfl rfl Tryd.underlying9 (by kernel_rfl) (by kernel_rfl) errTexts7 ps hv hrows hnd hty
  have hG : errTexts7.map (fun x => Tryd.prog.globalNamed x.1) = [7, 0, 8, 9, 10, 4, 12].map some := by kernel_rfl
  have one : ∀ i g, [7, 0, 8, 9, 10, 4, 12][i]? = some g → W.cell? ⟨g, 0, none⟩ = some (errV (al.getD i ⟨0, 0, none⟩)) := by
    intro i g hg
    have hi : i < 7 := by have := (List.getElem?_eq_some_iff.1 hg).1; simpa using this
    obtain ⟨x, hx⟩ : ∃ x, errTexts7[i]? = some x := ⟨_, List.getElem?_eq_getElem (by simpa [errTexts7] using hi)⟩
    obtain ⟨a, ha, g', hg', hc⟩ := hall i x hx
    have h1 := congrArg (·[i]?) hG
    simp only [List.getElem?_map, hx, hg, Option.map_some, Option.some.injEq] at h1
    rw [hg'] at h1
    obtain rfl := Option.some.inj h1
    simp only [List.getD, ha, Option.getD_some]
    exact hc
  exact ⟨fun i => al.getD (if i = 8 then 6 else i - 1) ⟨0, 0, none⟩, ⟨one 0 _ rfl, one 1 _ rfl, one 2 _ rfl, one 3 _ rfl, one 4 _ rfl, one 5 _ rfl, one 6 _ rfl⟩⟩
end Go.Proofs.YtcfagdmaephkdaaDoor
