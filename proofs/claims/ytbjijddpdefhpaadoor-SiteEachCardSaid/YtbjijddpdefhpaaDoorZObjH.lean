/- Copies of lists; a copy of an object (package obj): contracts. (Made by gobjh.py.) -/
import Derived.Test.YtbjijddpdefhpaaDoorZObjG
import Derived.Laws.MakeOwn
import Derived.Lib.SliceRun
import Derived.Deep.RegionHeld3
namespace Go.Proofs.YtbjijddpdefhpaaDoor
open Go.RowKit
/-- behind a copy: a row of the call's own with these cells -/
def CpAt (w : World) (t : TypeId) (size n : Nat) (cs : List Value) (e : Ending) (w' : World) : Prop :=
  ∃ v, e = .returned v ∧ w'.ownsRow w.heap.size t size v n cs ∧ w.grownBy w' none
theorem info_u8 : ∃ i : TypeInfo, Tryd.prog.info? 5 = some i ∧ i.zero = some (.int .u8 0) ∧ i.size = 1 ∧ i.bytes = 1 := info_parts (P := Tryd.prog) (e := 5) (z := .int .u8 0) (size := 1) (bytes := 1) (by kernel_rfl)
theorem info_u32 : ∃ i : TypeInfo, Tryd.prog.info? 25 = some i ∧ i.zero = some (.int .u32 0) ∧ i.size = 1 ∧ i.bytes = 4 := info_parts (P := Tryd.prog) (e := 25) (z := .int .u32 0) (size := 1) (bytes := 4) (by kernel_rfl)
theorem info_reloc : ∃ i : TypeInfo, Tryd.prog.info? 46 = some i ∧ i.zero = some (.agg #[.int .i64 0, .int .i64 0, .int .i64 0, .int .i64 0]) ∧ i.size = 4 ∧ i.bytes = 32 := info_parts (P := Tryd.prog) (e := 46) (z := .agg #[.int .i64 0, .int .i64 0, .int .i64 0, .int .i64 0]) (size := 4) (bytes := 32) (by kernel_rfl)
theorem info_symb : ∃ i : TypeInfo, Tryd.prog.info? 44 = some i ∧ i.zero = some (.agg #[.string ⟨#[]⟩, .int .i64 0, .int .i64 0, .bool false]) ∧ i.size = 4 ∧ i.bytes = 40 := info_parts (P := Tryd.prog) (e := 44) (z := .agg #[.string ⟨#[]⟩, .int .i64 0, .int .i64 0, .bool false]) (size := 4) (bytes := 40) (by kernel_rfl)
theorem ints_one (k : IntKind) (xs : List Int) : ∀ v ∈ xs.map (Value.int k), v.oneCell' = true := by
  intro v hv
  obtain ⟨x, _, rfl⟩ := List.mem_map.1 hv
  rfl





/-! ### an object copied -/
/-- an object's box, and what is known beside it -/
structure Bo (w0 w : World) (G : Nat) (V : OV) (x : PO) : Prop where
  box : RwAt w G 37 #[V.d, V.c, V.m, V.r, V.q, V.s]
  o : OAt w V x
  g : w0.grownBy w none
section
variable {w0 w w1 : World} {G : Nat} {V : OV} {x : PO}
theorem Bo.kept0 (h : Bo w0 w G V x) (hg : w.grownBy w1 none) : Bo w0 w1 G V x := ⟨h.box.kept0 hg, h.o.kept0 hg, grown_trans h.g hg⟩
theorem Bo.alloc (h : Bo w0 w G V x) (o : Obj) : Bo w0 (w.alloc o) G V x := h.kept0 (World.grownBy_alloc _ _ _)
theorem Bo.new (h : OAt w V x) : Bo w (w.alloc (.cells #[V.d, V.c, V.m, V.r, V.q, V.s] 37)) w.heap.size V x :=
  ⟨RwAt.new w _ _, h.kept0 (World.grownBy_alloc _ _ _), World.grownBy_alloc _ _ _⟩
end
def Ap (u v : Value) : Prop := u.ownBlock = none ∨ u.ownBlock ≠ v.ownBlock
/-- an object of the call's own: six rows, none of them another -/
structure OwnO (B : Nat) (w : World) (V : OV) (x : PO) : Prop where
  d : w.ownsRow B 25 1 V.d x.D.length (x.D.map (Value.int .u32))
  c : w.ownsRow B 25 1 V.c x.C.length (x.C.map (Value.int .u32))
  m : w.ownsRow B 5 1 V.m x.M.length (x.M.map (Value.int .u8))
  r : w.ownsRow B 46 4 V.r x.R.length (rlsC x.R)
  q : w.ownsRow B 46 4 V.q x.Q.length (rlsC x.Q)
  s : w.ownsRow B 44 4 V.s x.S.length (sysC x.S)
  ap : [V.d, V.c, V.m, V.r, V.q, V.s].Pairwise Ap
theorem OwnO.at_ {B : Nat} {w : World} {V : OV} {x : PO} (h : OwnO B w V x) : OAt w V x := ⟨SlAt.own h.d, SlAt.own h.c, SlAt.own h.m, CsAt.own h.r, CsAt.own h.q, CsAt.own h.s⟩
theorem OwnO.kept0 {B : Nat} {w w1 : World} {V : OV} {x : PO} (h : OwnO B w V x) (hg : w.grownBy w1 none) : OwnO B w1 V x :=
  ⟨h.d.kept hg (by cases V.d.ownBlock <;> simp), h.c.kept hg (by cases V.c.ownBlock <;> simp), h.m.kept hg (by cases V.m.ownBlock <;> simp), h.r.kept hg (by cases V.r.ownBlock <;> simp), h.q.kept hg (by cases V.q.ownBlock <;> simp), h.s.kept hg (by cases V.s.ownBlock <;> simp), h.ap⟩
theorem zero_obj (w : World) : (zeroValue 37).run Tryd.prog w = .ok (.agg #[.slice none 0 0, .slice none 0 0, .slice none 0 0, .slice none 0 0, .slice none 0 0, .slice none 0 0]) w := by kernel_rfl
theorem set6_other {w : World} {G R k : Nat} {a b c d e f v : Value} (h : G ≠ R) (hc : w.cell? ⟨G, k, none⟩ = some v) :
    ((((((w.setCell ⟨R, 0, none⟩ a).setCell ⟨R, 1, none⟩ b).setCell ⟨R, 2, none⟩ c).setCell ⟨R, 3, none⟩ d).setCell ⟨R, 4, none⟩ e).setCell ⟨R, 5, none⟩ f).cell? ⟨G, k, none⟩ = some v :=
  (World.cell?_of_block (by rw [heap_setCell_other _ _ _ _ h, heap_setCell_other _ _ _ _ h, heap_setCell_other _ _ _ _ h, heap_setCell_other _ _ _ _ h, heap_setCell_other _ _ _ _ h, heap_setCell_other _ _ _ _ h])).trans hc
/-- behind Clone -/
def OCl (w : World) (x : PO) (e : Ending) (w' : World) : Prop := ∃ V', e = .returned V'.agg ∧ OwnO w.heap.size w' V' x ∧ w.grownBy w' none
theorem own_slice {w : World} {B size n : Nat} {t : TypeId} {v : Value} {cs : List Value} (h : w.ownsRow B t size v n cs) : ∃ p c, v = .slice p n c := by
  rcases h.2 with ⟨rfl, h0⟩ | ⟨g, cap, cur, rfl, _⟩
  · subst h0; exact ⟨_, _, rfl⟩
  · exact ⟨_, _, rfl⟩
theorem own_apart {w : World} {B B' size n size' n' : Nat} {t t' : TypeId} {v v' : Value} {cs cs' : List Value} {w' : World} (h : w.ownsRow B t size v n cs) (h' : w'.ownsRow B' t' size' v' n' cs') (hB : w.heap.size ≤ B') : Ap v v' := by
  unfold Ap
  cases hv : v.ownBlock with
  | none => exact .inl rfl
  | some g =>
    right
    intro e
    have h1 := (h.lt g hv).2
    have h2 := (h'.lt g e.symm).1
    omega

end Go.Proofs.YtbjijddpdefhpaaDoor
