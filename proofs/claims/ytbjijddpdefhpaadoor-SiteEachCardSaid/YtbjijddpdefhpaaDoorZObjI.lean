/- Objects compared; a light one: contracts. (Made by gobji.py.) -/
import Derived.Test.YtbjijddpdefhpaaDoorZGObjE
import Derived.Test.YtbjijddpdefhpaaDoorZObjG
import Derived.Test.YtbjijddpdefhpaaDoorZObjH
namespace Go.Proofs.YtbjijddpdefhpaaDoor
open Go.RowKit
/-- two objects' boxes -/
structure Bd (w0 w : World) (G1 G2 : Nat) (V V' : OV) (x x' : PO) : Prop where
  a : RwAt w G1 37 #[V.d, V.c, V.m, V.r, V.q, V.s]
  b : RwAt w G2 37 #[V'.d, V'.c, V'.m, V'.r, V'.q, V'.s]
  o : OAt w V x
  p : OAt w V' x'
  g : w0.grownBy w none
theorem Bd.kept0 {w0 w w1 : World} {G1 G2 : Nat} {V V' : OV} {x x' : PO} (h : Bd w0 w G1 G2 V V' x x') (hg : w.grownBy w1 none) : Bd w0 w1 G1 G2 V V' x x' := ⟨h.a.kept0 hg, h.b.kept0 hg, h.o.kept0 hg, h.p.kept0 hg, grown_trans h.g hg⟩
theorem Bd.new {w : World} {V V' : OV} {x x' : PO} (h : OAt w V x) (h' : OAt w V' x') :
    Bd w ((w.alloc (.cells #[V.d, V.c, V.m, V.r, V.q, V.s] 37)).alloc (.cells #[V'.d, V'.c, V'.m, V'.r, V'.q, V'.s] 37)) w.heap.size (w.heap.size + 1) V V' x x' := by
  have hg := grown_alloc (World.grownBy_alloc w (.cells #[V.d, V.c, V.m, V.r, V.q, V.s] 37) none) (.cells #[V'.d, V'.c, V'.m, V'.r, V'.q, V'.s] 37)
  exact ⟨(RwAt.new w _ _).alloc _, RwAt.new2 w _ _ _, h.kept0 hg, h'.kept0 hg, hg⟩
theorem po_ext {x y : PO} : decide (x = y) = (decide (x.D = y.D) && (decide (x.C = y.C) && (decide (x.M = y.M) && (decide (x.R = y.R) && (decide (x.Q = y.Q) && decide (x.S = y.S)))))) := by
  obtain ⟨a, b, c, d, e, f⟩ := x
  obtain ⟨a', b', c', d', e', f'⟩ := y
  simp [PO.mk.injEq]
/-- lists that are compared are not too long -/
def Ll (x : PO) : Prop := x.D.length ≤ 1000000 ∧ x.C.length ≤ 1000000 ∧ x.M.length ≤ 1000000 ∧ x.R.length ≤ 1000000 ∧ x.Q.length ≤ 1000000 ∧ x.S.length ≤ 1000000


end Go.Proofs.YtbjijddpdefhpaaDoor
