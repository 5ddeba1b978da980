/-
  DERIVED. GIVEN WITH THE SEED: THE CARDS: each row of YtnpnafidhcnkhaaGreatDoorRows.lean that lists a variable, with what it lists TIED to the program's text (the seventh form; the later family's looks); each row that meets fmt, with fmt's text TOLD by the authors' own Lean function (tested against real Go, not proved from fmt's source: count such statements apart). THE CARD IS WHAT COUNTS. Prove the row's statement (the work); the ties are given (YtnpnafidhcnkhaaGreatDoorTie.lean); close each card by the builder's one call (the guide's Derived/Test/ToyasCard.lean, 'card_holds'). Laid BY PROGRAM, IN A SANDBOX (cutbox-door.mjs). By AI agents, Wed Nov 11 2026. No macro, syntax, notation, axiom, sorry.
-/
import Derived.Test.YtnpnafidhcnkhaaGreatDoorRows
import GoSem.ClaimSeven
namespace Go.Proofs.YtnpnafidhcnkhaaGreatDoor
namespace Rows

/-- THE TIED CARD OF 'facadelaw13.LinkOrder'. -/
def linkOrderCard : Claim7 := { stood := { row := linkOrderRow, standIns := [], harness := (true, "157ce8afb42e0b5db42a986899aad7db060ca9ebe62f08990f4d672fab2ce423"), looks := false }, kinds := [], alts := [], laidByText := true, laidKinds := [.data, .data, .data, .sentinel, .sentinel, .sentinel, .sentinel, .sentinel, .sentinel, .sentinel], laidTests := true, laidLooks := .later }
def LinkOrderCardSaid : Prop := Claim7.holds Tryz.pinned (.plain (OpenSpec.ofChange linkOrderSpec)) linkOrderCard

/-- THE TIED CARD OF 'facadelaw13.LinkMaps'. -/
def linkMapsCard : Claim7 := { stood := { row := linkMapsRow, standIns := [], harness := (true, "157ce8afb42e0b5db42a986899aad7db060ca9ebe62f08990f4d672fab2ce423"), looks := false }, kinds := [], alts := [], laidByText := true, laidKinds := [.sentinel, .sentinel, .sentinel, .sentinel, .sentinel, .sentinel, .sentinel], laidTests := true, laidLooks := .later }
def LinkMapsCardSaid : Prop := Claim7.holds Tryz.pinned (.plain (OpenSpec.ofChange linkMapsSpec)) linkMapsCard

/-- THE TIED CARD OF 'facadelaw13.LinkData'. -/
def linkDataCard : Claim7 := { stood := { row := linkDataRow, standIns := [], harness := (true, "157ce8afb42e0b5db42a986899aad7db060ca9ebe62f08990f4d672fab2ce423"), looks := false }, kinds := [], alts := [], laidByText := true, laidKinds := [.data, .data, .data, .sentinel, .sentinel, .sentinel, .sentinel, .sentinel, .sentinel, .sentinel], laidTests := true, laidLooks := .later }
def LinkDataCardSaid : Prop := Claim7.holds Tryz.pinned (.plain (OpenSpec.ofChange linkDataSpec)) linkDataCard

/-- THE SECOND FORM's CARD OF 'facadelaw13.LinkOrder'. -/
def linkOrderUptoCard : Claim7 := { stood := { row := linkOrderUptoRow, standIns := [], harness := (true, "157ce8afb42e0b5db42a986899aad7db060ca9ebe62f08990f4d672fab2ce423"), looks := false }, kinds := [], alts := [], laidByText := true, laidKinds := [.data, .data, .data, .sentinel, .sentinel, .sentinel, .sentinel, .sentinel, .sentinel, .sentinel], laidTests := true, laidLooks := .later }
def LinkOrderUptoCardSaid : Prop := Claim7.holds Tryz.pinned (.plain (OpenSpec.upto linkOrderSpec)) linkOrderUptoCard

/-- THE SECOND FORM's CARD OF 'facadelaw13.LinkMaps'. -/
def linkMapsUptoCard : Claim7 := { stood := { row := linkMapsUptoRow, standIns := [], harness := (true, "157ce8afb42e0b5db42a986899aad7db060ca9ebe62f08990f4d672fab2ce423"), looks := false }, kinds := [], alts := [], laidByText := true, laidKinds := [.sentinel, .sentinel, .sentinel, .sentinel, .sentinel, .sentinel, .sentinel], laidTests := true, laidLooks := .later }
def LinkMapsUptoCardSaid : Prop := Claim7.holds Tryz.pinned (.plain (OpenSpec.upto linkMapsSpec)) linkMapsUptoCard

/-- THE SECOND FORM's CARD OF 'facadelaw13.LinkData'. -/
def linkDataUptoCard : Claim7 := { stood := { row := linkDataUptoRow, standIns := [], harness := (true, "157ce8afb42e0b5db42a986899aad7db060ca9ebe62f08990f4d672fab2ce423"), looks := false }, kinds := [], alts := [], laidByText := true, laidKinds := [.data, .data, .data, .sentinel, .sentinel, .sentinel, .sentinel, .sentinel, .sentinel, .sentinel], laidTests := true, laidLooks := .later }
def LinkDataUptoCardSaid : Prop := Claim7.holds Tryz.pinned (.plain (OpenSpec.upto linkDataSpec)) linkDataUptoCard
end Rows
end Go.Proofs.YtnpnafidhcnkhaaGreatDoor
