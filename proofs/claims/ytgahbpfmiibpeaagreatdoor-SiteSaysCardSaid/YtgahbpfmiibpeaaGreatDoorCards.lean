/-
  DERIVED. GIVEN WITH THE SEED: THE CARDS: each row of YtgahbpfmiibpeaaGreatDoorRows.lean that lists a variable, with what it lists TIED to the program's text (the seventh form; the later family's looks); each row that meets fmt, with fmt's text TOLD by the authors' own Lean function (tested against real Go, not proved from fmt's source: count such statements apart). THE CARD IS WHAT COUNTS. Prove the row's statement (the work); the ties are given (YtgahbpfmiibpeaaGreatDoorTie.lean); close each card by the builder's one call (the guide's Derived/Test/ToyasCard.lean, 'card_holds'). Laid BY PROGRAM, IN A SANDBOX (cutbox-door.mjs). By AI agents, Wed Nov 11 2026. No macro, syntax, notation, axiom, sorry.
-/
import Derived.Test.YtgahbpfmiibpeaaGreatDoorRows
import GoSem.ClaimSeven
namespace Go.Proofs.YtgahbpfmiibpeaaGreatDoor
namespace Rows

/-- THE TIED CARD OF 'facadelaw10.SiteSays'. -/
def siteSaysCard : Claim7 := { stood := { row := siteSaysRow, standIns := [], harness := (true, "581cb3a096d42783d2b2faca9e24f42730daae47abd2227b2d1e82fbe0a7ad9f"), looks := true }, kinds := [], alts := [], laidByText := true, laidKinds := [.data, .data, .data, .sentinel, .sentinel, .sentinel, .sentinel, .sentinel, .sentinel, .sentinel, .sentinel, .sentinel, .sentinel, .sentinel, .sentinel, .sentinel, .sentinel, .sentinel, .sentinel, .data], laidTests := true, laidLooks := .later }
def SiteSaysCardSaid : Prop := Claim7.holds Tryz.pinned (.plain (OpenSpec.ofChange siteSaysSpec)) siteSaysCard

/-- THE TIED CARD OF 'facadelaw13.LinkMany'. -/
def linkManyCard : Claim7 := { stood := { row := linkManyRow, standIns := [], harness := (true, "581cb3a096d42783d2b2faca9e24f42730daae47abd2227b2d1e82fbe0a7ad9f"), looks := true }, kinds := [], alts := [], laidByText := true, laidKinds := [.data, .data, .data, .sentinel, .sentinel, .sentinel, .sentinel, .sentinel, .sentinel, .sentinel, .sentinel, .sentinel, .sentinel, .sentinel, .sentinel, .sentinel, .sentinel, .sentinel, .sentinel], laidTests := true, laidLooks := .later }
def LinkManyCardSaid : Prop := Claim7.holds Tryz.pinned (.plain (OpenSpec.ofChange linkManySpec)) linkManyCard

/-- THE TIED CARD OF 'facadelaw13.LinkOrder'. -/
def linkOrderCard : Claim7 := { stood := { row := linkOrderRow, standIns := [], harness := (true, "581cb3a096d42783d2b2faca9e24f42730daae47abd2227b2d1e82fbe0a7ad9f"), looks := true }, kinds := [], alts := [], laidByText := true, laidKinds := [.data, .data, .data, .sentinel, .sentinel, .sentinel, .sentinel, .sentinel, .sentinel, .sentinel], laidTests := true, laidLooks := .later }
def LinkOrderCardSaid : Prop := Claim7.holds Tryz.pinned (.plain (OpenSpec.ofChange linkOrderSpec)) linkOrderCard

/-- THE TIED CARD OF 'facadelaw13.LinkMaps'. -/
def linkMapsCard : Claim7 := { stood := { row := linkMapsRow, standIns := [], harness := (true, "581cb3a096d42783d2b2faca9e24f42730daae47abd2227b2d1e82fbe0a7ad9f"), looks := true }, kinds := [], alts := [], laidByText := true, laidKinds := [.sentinel, .sentinel, .sentinel, .sentinel, .sentinel, .sentinel, .sentinel], laidTests := true, laidLooks := .later }
def LinkMapsCardSaid : Prop := Claim7.holds Tryz.pinned (.plain (OpenSpec.ofChange linkMapsSpec)) linkMapsCard

/-- THE TIED CARD OF 'facadelaw13.LinkNames'. -/
def linkNamesCard : Claim7 := { stood := { row := linkNamesRow, standIns := [], harness := (true, "581cb3a096d42783d2b2faca9e24f42730daae47abd2227b2d1e82fbe0a7ad9f"), looks := true }, kinds := [], alts := [], laidByText := true, laidKinds := [.data, .data, .data, .sentinel, .sentinel, .sentinel, .sentinel, .sentinel, .sentinel, .sentinel, .sentinel, .sentinel, .sentinel, .sentinel, .sentinel, .sentinel, .sentinel, .sentinel, .sentinel], laidTests := true, laidLooks := .later }
def LinkNamesCardSaid : Prop := Claim7.holds Tryz.pinned (.plain (OpenSpec.ofChange linkNamesSpec)) linkNamesCard

/-- THE TIED CARD OF 'facadelaw13.LinkData'. -/
def linkDataCard : Claim7 := { stood := { row := linkDataRow, standIns := [], harness := (true, "581cb3a096d42783d2b2faca9e24f42730daae47abd2227b2d1e82fbe0a7ad9f"), looks := true }, kinds := [], alts := [], laidByText := true, laidKinds := [.data, .data, .data, .sentinel, .sentinel, .sentinel, .sentinel, .sentinel, .sentinel, .sentinel], laidTests := true, laidLooks := .later }
def LinkDataCardSaid : Prop := Claim7.holds Tryz.pinned (.plain (OpenSpec.ofChange linkDataSpec)) linkDataCard

/-- THE SECOND FORM's CARD OF 'facadelaw10.SiteSays'. -/
def siteSaysUptoCard : Claim7 := { stood := { row := siteSaysUptoRow, standIns := [], harness := (true, "581cb3a096d42783d2b2faca9e24f42730daae47abd2227b2d1e82fbe0a7ad9f"), looks := true }, kinds := [], alts := [], laidByText := true, laidKinds := [.data, .data, .data, .sentinel, .sentinel, .sentinel, .sentinel, .sentinel, .sentinel, .sentinel, .sentinel, .sentinel, .sentinel, .sentinel, .sentinel, .sentinel, .sentinel, .sentinel, .sentinel, .data], laidTests := true, laidLooks := .later }
def SiteSaysUptoCardSaid : Prop := Claim7.holds Tryz.pinned (.plain (OpenSpec.upto siteSaysSpec)) siteSaysUptoCard

/-- THE SECOND FORM's CARD OF 'facadelaw13.LinkMany'. -/
def linkManyUptoCard : Claim7 := { stood := { row := linkManyUptoRow, standIns := [], harness := (true, "581cb3a096d42783d2b2faca9e24f42730daae47abd2227b2d1e82fbe0a7ad9f"), looks := true }, kinds := [], alts := [], laidByText := true, laidKinds := [.data, .data, .data, .sentinel, .sentinel, .sentinel, .sentinel, .sentinel, .sentinel, .sentinel, .sentinel, .sentinel, .sentinel, .sentinel, .sentinel, .sentinel, .sentinel, .sentinel, .sentinel], laidTests := true, laidLooks := .later }
def LinkManyUptoCardSaid : Prop := Claim7.holds Tryz.pinned (.plain (OpenSpec.upto linkManySpec)) linkManyUptoCard

/-- THE SECOND FORM's CARD OF 'facadelaw13.LinkOrder'. -/
def linkOrderUptoCard : Claim7 := { stood := { row := linkOrderUptoRow, standIns := [], harness := (true, "581cb3a096d42783d2b2faca9e24f42730daae47abd2227b2d1e82fbe0a7ad9f"), looks := true }, kinds := [], alts := [], laidByText := true, laidKinds := [.data, .data, .data, .sentinel, .sentinel, .sentinel, .sentinel, .sentinel, .sentinel, .sentinel], laidTests := true, laidLooks := .later }
def LinkOrderUptoCardSaid : Prop := Claim7.holds Tryz.pinned (.plain (OpenSpec.upto linkOrderSpec)) linkOrderUptoCard

/-- THE SECOND FORM's CARD OF 'facadelaw13.LinkMaps'. -/
def linkMapsUptoCard : Claim7 := { stood := { row := linkMapsUptoRow, standIns := [], harness := (true, "581cb3a096d42783d2b2faca9e24f42730daae47abd2227b2d1e82fbe0a7ad9f"), looks := true }, kinds := [], alts := [], laidByText := true, laidKinds := [.sentinel, .sentinel, .sentinel, .sentinel, .sentinel, .sentinel, .sentinel], laidTests := true, laidLooks := .later }
def LinkMapsUptoCardSaid : Prop := Claim7.holds Tryz.pinned (.plain (OpenSpec.upto linkMapsSpec)) linkMapsUptoCard

/-- THE SECOND FORM's CARD OF 'facadelaw13.LinkNames'. -/
def linkNamesUptoCard : Claim7 := { stood := { row := linkNamesUptoRow, standIns := [], harness := (true, "581cb3a096d42783d2b2faca9e24f42730daae47abd2227b2d1e82fbe0a7ad9f"), looks := true }, kinds := [], alts := [], laidByText := true, laidKinds := [.data, .data, .data, .sentinel, .sentinel, .sentinel, .sentinel, .sentinel, .sentinel, .sentinel, .sentinel, .sentinel, .sentinel, .sentinel, .sentinel, .sentinel, .sentinel, .sentinel, .sentinel], laidTests := true, laidLooks := .later }
def LinkNamesUptoCardSaid : Prop := Claim7.holds Tryz.pinned (.plain (OpenSpec.upto linkNamesSpec)) linkNamesUptoCard

/-- THE SECOND FORM's CARD OF 'facadelaw13.LinkData'. -/
def linkDataUptoCard : Claim7 := { stood := { row := linkDataUptoRow, standIns := [], harness := (true, "581cb3a096d42783d2b2faca9e24f42730daae47abd2227b2d1e82fbe0a7ad9f"), looks := true }, kinds := [], alts := [], laidByText := true, laidKinds := [.data, .data, .data, .sentinel, .sentinel, .sentinel, .sentinel, .sentinel, .sentinel, .sentinel], laidTests := true, laidLooks := .later }
def LinkDataUptoCardSaid : Prop := Claim7.holds Tryz.pinned (.plain (OpenSpec.upto linkDataSpec)) linkDataUptoCard
end Rows
end Go.Proofs.YtgahbpfmiibpeaaGreatDoor
