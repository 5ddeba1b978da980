/- The nine objects of ObjWrong, as plain data: what is wrong with each. -/
import Derived.Test.YtbjijddpdefhpaaDoorZObjQ
namespace Go.Proofs.YtbjijddpdefhpaaDoor
/-- behind so many lines, way i -/
def wrP (a i : Nat) : PO :=
  match i with
  | 0 => { objK a (a + 2) with C := (objK a (a + 2)).C ++ [0], M := (objK a (a + 2)).M ++ [1] }
  | 1 => { objK a (a + 2) with C := (objK a (a + 2)).C ++ [1610612736, 1], M := (objK a (a + 2)).M ++ [1, 0] }
  | 2 => { objK a (a + 2) with C := (objK a (a + 2)).C ++ [5], M := (objK a (a + 2)).M ++ [0] }
  | 3 => { objK a (a + 2) with C := (objK a (a + 2)).C ++ [234881024], M := (objK a (a + 2)).M ++ [1] }
  | 4 => { objK a (a + 2) with C := (objK a (a + 2)).C ++ [5] }
  | 5 => { objK a (a + 2) with S := (objK a (a + 2)).S ++ [⟨nmMain, 2, a, true⟩] }
  | 6 => { objK a (a + 2) with C := (objK a (a + 2)).C ++ [268435456], M := (objK a (a + 2)).M ++ [1] }
  | 7 => { objK a (a + 2) with R := [⟨1, 1, 0, 0⟩, ⟨1, 1, 0, 0⟩] }
  | _ => { objK a (a + 2) with Q := [⟨a, 2, 0, 0⟩] }
def wrF (a i : Nat) : Fl :=
  match i with
  | 0 => some (4, some (a + 1))
  | 1 => some (4, some (a + 1))
  | 2 => some (8, some (a + 1))
  | 3 => some (8, some (a + 1))
  | 4 => some (8, none)
  | 5 => some (5, some 1)
  | 6 => some (6, some (a + 1))
  | 7 => some (2, some 1)
  | _ => some (1, some 0)
theorem wr_all : ∀ a, a < 20 → ∀ i, i < 9 → validP (wrP a i) = wrF a i := by decide +kernel
theorem wr_code (a i : Nat) : ∀ c p, wrF a i = some (c, p) → c < 16 := by
  intro c p h
  unfold wrF at h
  split at h <;> (obtain ⟨rfl, -⟩ := Prod.mk.inj (Option.some.inj h); decide)
end Go.Proofs.YtbjijddpdefhpaaDoor
