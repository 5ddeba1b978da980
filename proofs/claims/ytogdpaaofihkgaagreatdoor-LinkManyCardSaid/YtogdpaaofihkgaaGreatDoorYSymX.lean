/- facademake.sym: a symbol's place in an object that is being made, whatever symbols it has: a contract. -/
import Derived.Test.YtogdpaaofihkgaaGreatDoorYRvB
import Derived.Test.YtogdpaaofihkgaaGreatDoorYLnk10
import Derived.Test.YtogdpaaofihkgaaGreatDoorYIsa2
namespace Go.Proofs.YtogdpaaofihkgaaGreatDoor
open Go.RowKit
/-- the rows of an object -/
def obRo (V : OV) (x : PO) : List Ro := [⟨V.d, 25, 1, x.D.length, x.D.map (Value.int .u32)⟩, ⟨V.c, 25, 1, x.C.length, x.C.map (Value.int .u32)⟩, ⟨V.m, 5, 1, x.M.length, x.M.map (Value.int .u8)⟩, ⟨V.r, 62, 4, x.R.length, rlsC x.R⟩, ⟨V.q, 62, 4, x.Q.length, rlsC x.Q⟩, ⟨V.s, 60, 4, x.S.length, sysC x.S⟩]
abbrev OgB (w0 w : World) (base H : Nat) (R : List Ro) (V : OV) (x : PO) : Prop := RosB w0 w base H 39 [] (obRo V x) R
section
variable {w0 w w1 : World} {base H : Nat} {R : List Ro} {V : OV} {x : PO}
theorem OgB.kept0 (h : OgB w0 w base H R V x) (hg : w.grownBy w1 none) : OgB w0 w1 base H R V x := RosB.kept0 h hg
theorem OgB.addS (h : OgB w0 w base H R V x) {v' : Value} (s : Sy) (ho : w1.ownsRow base 60 4 v' (x.S.length + 1) (sysC x.S ++ syC s)) (hg : w.grownBy w1 V.s.ownBlock) (hat : v'.ownBlock = V.s.ownBlock ∨ v'.ownBlock = some w.heap.size) :
    OgB w0 (w1.setCell ⟨H, 5, none⟩ v') base H R ⟨V.d, V.c, V.m, V.r, V.q, v'⟩ ⟨x.D, x.C, x.M, x.R, x.Q, x.S ++ [s]⟩ := by
  have := RosB.step (k := 5) (n' := x.S.length + 1) h rfl ho hg hat
  have e : (obRo V x).set 5 ⟨v', 60, 4, x.S.length + 1, sysC x.S ++ syC s⟩ = obRo ⟨V.d, V.c, V.m, V.r, V.q, v'⟩ ⟨x.D, x.C, x.M, x.R, x.Q, x.S ++ [s]⟩ := by
    simp [obRo, sysC_append, sysC]
  rw [e] at this
  exact this
theorem OgB.sRow (h : OgB w0 w base H R V x) : w.ownsRow base 60 4 V.s x.S.length (sysC x.S) := RosB.at_ (k := 5) h rfl
/-- the name of symbol k -/
theorem OgB.name {g n c : Nat} {d cc m r q : Value} {D C M : List Int} {R' Q' : List Rl} {S : List Sy} (h : OgB w0 w base H R ⟨d, cc, m, r, q, .slice (some ⟨g, 0, none⟩) n c⟩ ⟨D, C, M, R', Q', S⟩) (hn : S.length = n) {k : Nat} {s : Sy} (hk : S[k]? = some s) : w.cell? ⟨g, k * 4, none⟩ = some (.string s.n) := by
  have h1 : w.ownsRow base 60 4 (.slice (some ⟨g, 0, none⟩) n c) S.length (sysC S) := h.sRow
  rw [hn] at h1
  have hkl := (List.getElem?_eq_some_iff.1 hk).1
  rw [h1.cellAt (k * 4) (by omega)]
  have := sysC_get S k 0 s hk (by decide)
  rw [Nat.add_zero] at this
  rw [this]; rfl
end
end Go.Proofs.YtogdpaaofihkgaaGreatDoor
