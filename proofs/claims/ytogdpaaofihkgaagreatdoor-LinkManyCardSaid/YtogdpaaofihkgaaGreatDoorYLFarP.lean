/- LinkFar on plain data: a branch over many plain instructions. -/
import Derived.Test.YtogdpaaofihkgaaGreatDoorYLnk17
import Derived.Test.YtogdpaaofihkgaaGreatDoorYLnk13
namespace Go.Proofs.YtogdpaaofihkgaaGreatDoor
def toL (o a : Int) (n : ByteArray) : Lx := ⟨o, a, 0, 0, 0, ByteArray.empty, n, false⟩
theorem woC_ones {x : PO} (n : Nat) (h : x.M = List.replicate n 1) : woC x = x := by
  have hc : ∀ k, calB x k = false := by
    intro k
    unfold calB
    by_cases hk : k + 1 < min x.C.length x.M.length
    · have : x.M.getD (k + 1) 0 = 1 := by
        rw [h] at hk ⊢
        rw [List.length_replicate] at hk
        rw [List.getD_eq_getElem?_getD, List.getElem?_replicate, if_pos (by omega)]; rfl
      rw [this]; simp
    · simp [hk]
  have h1 : woCn x x.C.length = x.C := by
    unfold woCn
    apply List.ext_getElem?
    intro k
    by_cases hk : k < x.C.length
    · simp [hk, woW, hc]
    · simp [hk]
  have h2 : woQn x x.Q.length = x.Q := by
    unfold woQn
    have : ∀ r, woQ x r = r := by
      intro r
      unfold woQ calI
      simp [hc]
    rw [List.take_length, List.drop_length, List.append_nil]
    conv => rhs; rw [← List.map_id x.Q]
    exact List.map_congr_left fun r _ => this r
  unfold woC
  rw [h1, h2]
theorem opW_ends : opW 536936448 = 32 ∧ opW 16777216 = 1 := by decide
end Go.Proofs.YtogdpaaofihkgaaGreatDoor
