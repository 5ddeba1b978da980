/- LinkNames on plain data: objects of a word each, one naming the next. -/
import Derived.Test.YtogdpaaofihkgaaGreatDoorYNmP
namespace Go.Proofs.YtogdpaaofihkgaaGreatDoor
def nmX (n i : Nat) : ByteArray := if i + 1 = n then nmMainL else nmF (i + 1)
def nmNobL : ByteArray := ⟨#[110, 111, 98, 111, 100, 121]⟩
def lsNm (n i : Nat) : List Lx := [atL (nmF i), toL 16 0 (nmX n i)]
def obNm (n i : Nat) : PO := ⟨[i], [268435456], [1], [], [⟨0, 2, 1, 0⟩], [⟨nmF i, 2, 0, true⟩, ⟨nmX n i, 3, 0, true⟩]⟩
theorem obNm_is {n i : Nat} (hn : n < 6) (hi : i < 6) : objX [i] (lsNm n i) = obNm n i := by
  have key : ((List.range 6).all fun n => (List.range 6).all fun i => decide (objX [i] (lsNm n i) = obNm n i)) = true := by decide +kernel
  exact of_decide_eq_true (List.all_eq_true.1 (List.all_eq_true.1 key n (List.mem_range.2 hn)) i (List.mem_range.2 hi))
/-- main, that calls one -/
def lsNc (s : ByteArray) : List Lx := [atL nmMainL, toL 22 0 s]
def obNc (s : ByteArray) : PO := ⟨[], [369098752, 0], [1, 0], [], [⟨1, 1, 1, 0⟩], [⟨nmMainL, 2, 0, true⟩, ⟨s, 3, 0, true⟩]⟩
theorem obNc_is : objX [] (lsNc (nmF 0)) = obNc (nmF 0) ∧ objX [] (lsNc nmNobL) = obNc nmNobL := by constructor <;> kernel_rfl
def lsN2 : List Lx := [atL (nmF 0), opL 1 0]
def obN2 : PO := ⟨[], [16777216], [1], [], [], [⟨nmF 0, 2, 0, true⟩]⟩
theorem obN2_is : objX [] lsN2 = obN2 := by kernel_rfl
def xsNm (n : Nat) : List PO := (List.range n).map (obNm n)
def restNm (c : Nat) : List PO := if c = 0 then [obNc (nmF 0)] else if c = 1 then [obNc nmNobL] else if c = 2 then [obNc (nmF 0), obN2] else []
def wantNm (n c : Nat) : Lf := if c = 0 then none else if c = 1 then some (6, some n, none) else if c = 2 then some (5, some (n + 1), none) else some (6, some (n - 1), none)
def jnNm (n : Nat) : Jn := (joinP (xsNm n ++ restNm 0)).2
theorem joinNm {n c : Nat} (h1 : n < 5) (hc : c < 4) : (joinP (xsNm (n + 1) ++ restNm c)).1 = wantNm (n + 1) c := by
  have key : ((List.range 5).all fun n => (List.range 4).all fun c => decide ((joinP (xsNm (n + 1) ++ restNm c)).1 = wantNm (n + 1) c)) = true := by decide +kernel
  exact of_decide_eq_true (List.all_eq_true.1 (List.all_eq_true.1 key n (List.mem_range.2 h1)) c (List.mem_range.2 hc))
theorem tooNm {n : Nat} (h1 : n < 5) : ∀ k, k < (itsP (whP (jnNm (n + 1)))).length → tooB (itsP (whP (jnNm (n + 1)))) (itR (itsP (whP (jnNm (n + 1)))) 0) k = false := by
  have key : ((List.range 5).all fun n => (List.range (itsP (whP (jnNm (n + 1)))).length).all fun k => !(tooB (itsP (whP (jnNm (n + 1)))) (itR (itsP (whP (jnNm (n + 1)))) 0) k)) = true := by decide +kernel
  intro k hk
  have := List.all_eq_true.1 (List.all_eq_true.1 key n (List.mem_range.2 h1)) k (List.mem_range.2 hk)
  simpa using this
theorem imgNm {n : Nat} (h1 : n < 5) : lngB (whP (jnNm (n + 1))) 0 = false ∧ (imgP (jnNm (n + 1)) 0).C.length = n + 3 ∧ (imgP (jnNm (n + 1)) 0).D.length = n + 1 ∧ (imgP (jnNm (n + 1)) 0).e = 2048 + (n + 1 : Nat) ∧ (imgP (jnNm (n + 1)) 0).C[n + 2]? = some 2048 := by
  have key : ((List.range 5).all fun n => decide (lngB (whP (jnNm (n + 1))) 0 = false ∧ (imgP (jnNm (n + 1)) 0).C.length = n + 3 ∧ (imgP (jnNm (n + 1)) 0).D.length = n + 1 ∧ (imgP (jnNm (n + 1)) 0).e = 2048 + (n + 1 : Nat) ∧ (imgP (jnNm (n + 1)) 0).C[n + 2]? = some 2048)) = true := by decide +kernel
  exact of_decide_eq_true (List.all_eq_true.1 key n (List.mem_range.2 h1))
end Go.Proofs.YtogdpaaofihkgaaGreatDoor
