/- The chapter's examples (facadelaw5.first): a contract. -/
import Derived.Test.YtajminajdcpgnaaDev6
namespace Go.Proofs.Ytajminajdcpgnaa
open Go.RowKit
/-- a new list of what is seen shares nothing with what was there -/
theorem new_apart {w w1 : World} {B n : Nat} {e : TypeId} {size : Nat} {u : Value} {l : List Value} {R : List Nat} (h : w1.ownsRow B e size u n l) (hB : w.heap.size ≤ B) (hR : ∀ i ∈ R, i < w.heap.size) : ∀ g, u.ownBlock = some g → g ∉ R := by
  intro g hg hi
  have := (h.lt g hg).1
  have := hR g hi
  omega
theorem turned_old {w0 w w' : World} {d : Nat} {v v' : Value} {x x' : DvS} (h0 : w0.grownBy w none) (h : DevAt w w0.heap.size d x v) (ht : Turned w w0.heap.size d v x' w' v') : w0.grownBy w' none :=
  Lv.after h0 ht.lv h.foot_ge
/-- a list of what is seen, apart from devices -/
structure SnOf (w : World) (u : Value) (l : List Sn) (d : Nat) (v : Value) : Prop where
  at_ : SnAt w u l
  apart : l ≠ [] → ∀ g, u.ownBlock = some g → g ∉ foot d v
theorem SnOf.new {w w1 : World} {B d : Nat} {e : TypeId} {u v : Value} {x : DvS} {l : List Sn} (hD : DevAt w B d x v) (h : w1.ownsRow w.heap.size e 3 u l.length (snCells l)) : SnOf w1 u l d v :=
  ⟨SnAt.own h, fun _ => new_apart h (Nat.le_refl _) hD.foot_lt⟩
theorem SnOf.kept0 {w w1 : World} {d : Nat} {u v : Value} {l : List Sn} (h : SnOf w u l d v) (hg : w.grownBy w1 none) : SnOf w1 u l d v := ⟨h.at_.kept0 hg, h.apart⟩
theorem SnOf.turned {w w1 : World} {B d : Nat} {u v v1 : Value} {x1 : DvS} {l : List Sn} (h : SnOf w u l d v) (ht : Turned w B d v x1 w1 v1) : SnOf w1 u l d v1 := by
  rcases h.at_ with h1 | ⟨b, c, rfl, hb, hc⟩
  · refine ⟨.inl h1, fun hn => absurd h1.2 hn⟩
  · by_cases hl : l = []
    · subst hl
      exact ⟨.inl ⟨⟨_, _, rfl⟩, rfl⟩, fun hn => absurd rfl hn⟩
    · have ha := h.apart hl
      refine ⟨h.at_.keptL ht.lv ha, fun _ g hg hi => ?_⟩
      have hgb : g = b := by simp [Value.ownBlock] at hg; exact hg.symm
      subst hgb
      rcases mem_foot.1 hi with rfl | hi
      · exact ha _ rfl (mem_foot.2 (.inl rfl))
      · rcases ht.mine with m | m
        · exact ha _ rfl (mem_foot.2 (.inr (m.symm.trans hi)))
        · have := m g hi; omega
end Go.Proofs.Ytajminajdcpgnaa
