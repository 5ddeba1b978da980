/-
  DERIVED. GIVEN WITH THE SEED: THE CARDS: each row of YteanjchbnaoopaaDoorRows.lean that lists a variable, with what it lists TIED to the program's text (the seventh form; the later family's looks); each row that meets fmt, with fmt's text TOLD by the authors' own Lean function (tested against real Go, not proved from fmt's source: count such statements apart). THE CARD IS WHAT COUNTS. Prove the row's statement (the work); the ties are given (YteanjchbnaoopaaDoorTie.lean); close each card by the builder's one call (the guide's Derived/Test/ToyasCard.lean, 'card_holds'). Laid BY PROGRAM, IN A SANDBOX (cutbox-door.mjs). By AI agents, Wed Nov 11 2026. No macro, syntax, notation, axiom, sorry.
-/
import Derived.Test.YteanjchbnaoopaaDoorRows
import GoSem.ClaimSeven
namespace Go.Proofs.YteanjchbnaoopaaDoor
namespace Rows

/-- THE TIED CARD OF 'facadelaw13.LinkGoes'. -/
def linkGoesCard : Claim7 := { stood := { row := linkGoesRow, standIns := [], harness := (true, "03319b08df6d1da7847d7913433e58f22ac136adf041d5f02cd7db6b02fc611b"), looks := false }, kinds := [], alts := [], laidByText := true, laidKinds := [.sentinel, .sentinel, .sentinel, .sentinel, .sentinel, .sentinel, .sentinel], laidTests := true, laidLooks := .later }
def LinkGoesCardSaid : Prop := Claim7.holds Tryd.pinned (.plain (OpenSpec.ofChange linkGoesSpec)) linkGoesCard

/-- THE TIED CARD OF 'facadelaw13.LinkFar'. -/
def linkFarCard : Claim7 := { stood := { row := linkFarRow, standIns := [], harness := (true, "03319b08df6d1da7847d7913433e58f22ac136adf041d5f02cd7db6b02fc611b"), looks := false }, kinds := [], alts := [], laidByText := true, laidKinds := [.sentinel, .sentinel, .sentinel, .sentinel, .sentinel, .sentinel, .sentinel], laidTests := true, laidLooks := .later }
def LinkFarCardSaid : Prop := Claim7.holds Tryd.pinned (.plain (OpenSpec.ofChange linkFarSpec)) linkFarCard

/-- THE SECOND FORM's CARD OF 'facadelaw13.LinkGoes'. -/
def linkGoesUptoCard : Claim7 := { stood := { row := linkGoesUptoRow, standIns := [], harness := (true, "03319b08df6d1da7847d7913433e58f22ac136adf041d5f02cd7db6b02fc611b"), looks := false }, kinds := [], alts := [], laidByText := true, laidKinds := [.sentinel, .sentinel, .sentinel, .sentinel, .sentinel, .sentinel, .sentinel], laidTests := true, laidLooks := .later }
def LinkGoesUptoCardSaid : Prop := Claim7.holds Tryd.pinned (.plain (OpenSpec.upto linkGoesSpec)) linkGoesUptoCard

/-- THE SECOND FORM's CARD OF 'facadelaw13.LinkFar'. -/
def linkFarUptoCard : Claim7 := { stood := { row := linkFarUptoRow, standIns := [], harness := (true, "03319b08df6d1da7847d7913433e58f22ac136adf041d5f02cd7db6b02fc611b"), looks := false }, kinds := [], alts := [], laidByText := true, laidKinds := [.sentinel, .sentinel, .sentinel, .sentinel, .sentinel, .sentinel, .sentinel], laidTests := true, laidLooks := .later }
def LinkFarUptoCardSaid : Prop := Claim7.holds Tryd.pinned (.plain (OpenSpec.upto linkFarSpec)) linkFarUptoCard
end Rows
end Go.Proofs.YteanjchbnaoopaaDoor
