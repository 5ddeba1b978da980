/- The document's own comparison of what is seen: contracts. -/
import Derived.Test.YtajminajdcpgnaaDev5
namespace Go.Proofs.Ytajminajdcpgnaa
open Go.RowKit
/-- the cells of one that is seen -/
theorem sn_cells {w wr : World} {b : Nat} {l : List Sn} {k : Nat} {s : Sn} (hb : b < w.heap.size) (hc : ∀ j u, (snCells l)[j]? = some u → w.cell? ⟨b, j, none⟩ = some u) (hg : w.grownBy wr none) (hs : l[k]? = some s) :
    wr.cell? ⟨b, k * 3, none⟩ = some (.int .i64 s.1) ∧ wr.cell? ⟨b, k * 3 + 1, none⟩ = some (.int .u32 s.2.1) ∧ wr.cell? ⟨b, k * 3 + 2, none⟩ = some (.int .u32 s.2.2) := by
  obtain ⟨h1, h2, h3⟩ := snCells_get l k s hs
  exact ⟨(grown_cell (p := ⟨b, k * 3, none⟩) hg hb (by simp)).trans (hc _ _ h1), (grown_cell (p := ⟨b, k * 3 + 1, none⟩) hg hb (by simp)).trans (hc _ _ h2), (grown_cell (p := ⟨b, k * 3 + 2, none⟩) hg hb (by simp)).trans (hc _ _ h3)⟩
end Go.Proofs.Ytajminajdcpgnaa
