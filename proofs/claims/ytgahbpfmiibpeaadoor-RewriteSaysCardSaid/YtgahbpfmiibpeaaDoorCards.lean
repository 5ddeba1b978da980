/-
  DERIVED. GIVEN WITH THE SEED: THE CARDS: each row of YtgahbpfmiibpeaaDoorRows.lean that lists a variable, with what it lists TIED to the program's text (the seventh form; the later family's looks); each row that meets fmt, with fmt's text TOLD by the authors' own Lean function (tested against real Go, not proved from fmt's source: count such statements apart). THE CARD IS WHAT COUNTS. Prove the row's statement (the work); the ties are given (YtgahbpfmiibpeaaDoorTie.lean); close each card by the builder's one call (the guide's Derived/Test/ToyasCard.lean, 'card_holds'). Laid BY PROGRAM, IN A SANDBOX (cutbox-door.mjs). By AI agents, Wed Nov 11 2026. No macro, syntax, notation, axiom, sorry.
-/
import Derived.Test.YtgahbpfmiibpeaaDoorRows
import GoSem.ClaimSeven
namespace Go.Proofs.YtgahbpfmiibpeaaDoor
namespace Rows

/-- THE TIED CARD OF 'facadelaw11.RewriteSays'. -/
def rewriteSaysCard : Claim7 := { stood := { row := rewriteSaysRow, standIns := [], harness := (true, "1f7b55c1fc8da686be37beba9cf1ffad4df63844cbd2831cc8de46d69a35adbd"), looks := true }, kinds := [], alts := [], laidByText := true, laidKinds := [.sentinel, .sentinel, .sentinel, .sentinel, .sentinel, .sentinel, .sentinel, .sentinel, .sentinel, .sentinel, .sentinel, .sentinel, .sentinel, .sentinel, .sentinel, .sentinel], laidTests := true, laidLooks := .later }
def RewriteSaysCardSaid : Prop := Claim7.holds Tryd.pinned (.plain (OpenSpec.ofChange rewriteSaysSpec)) rewriteSaysCard

/-- THE TIED CARD OF 'facadelaw13.LinkGoes'. -/
def linkGoesCard : Claim7 := { stood := { row := linkGoesRow, standIns := [], harness := (true, "1f7b55c1fc8da686be37beba9cf1ffad4df63844cbd2831cc8de46d69a35adbd"), looks := true }, kinds := [], alts := [], laidByText := true, laidKinds := [.sentinel, .sentinel, .sentinel, .sentinel, .sentinel, .sentinel, .sentinel], laidTests := true, laidLooks := .later }
def LinkGoesCardSaid : Prop := Claim7.holds Tryd.pinned (.plain (OpenSpec.ofChange linkGoesSpec)) linkGoesCard

/-- THE TIED CARD OF 'facadelaw13.LinkFar'. -/
def linkFarCard : Claim7 := { stood := { row := linkFarRow, standIns := [], harness := (true, "1f7b55c1fc8da686be37beba9cf1ffad4df63844cbd2831cc8de46d69a35adbd"), looks := true }, kinds := [], alts := [], laidByText := true, laidKinds := [.sentinel, .sentinel, .sentinel, .sentinel, .sentinel, .sentinel, .sentinel], laidTests := true, laidLooks := .later }
def LinkFarCardSaid : Prop := Claim7.holds Tryd.pinned (.plain (OpenSpec.ofChange linkFarSpec)) linkFarCard

/-- THE SECOND FORM's CARD OF 'facadelaw11.RewriteSays'. -/
def rewriteSaysUptoCard : Claim7 := { stood := { row := rewriteSaysUptoRow, standIns := [], harness := (true, "1f7b55c1fc8da686be37beba9cf1ffad4df63844cbd2831cc8de46d69a35adbd"), looks := true }, kinds := [], alts := [], laidByText := true, laidKinds := [.sentinel, .sentinel, .sentinel, .sentinel, .sentinel, .sentinel, .sentinel, .sentinel, .sentinel, .sentinel, .sentinel, .sentinel, .sentinel, .sentinel, .sentinel, .sentinel], laidTests := true, laidLooks := .later }
def RewriteSaysUptoCardSaid : Prop := Claim7.holds Tryd.pinned (.plain (OpenSpec.upto rewriteSaysSpec)) rewriteSaysUptoCard

/-- THE SECOND FORM's CARD OF 'facadelaw13.LinkGoes'. -/
def linkGoesUptoCard : Claim7 := { stood := { row := linkGoesUptoRow, standIns := [], harness := (true, "1f7b55c1fc8da686be37beba9cf1ffad4df63844cbd2831cc8de46d69a35adbd"), looks := true }, kinds := [], alts := [], laidByText := true, laidKinds := [.sentinel, .sentinel, .sentinel, .sentinel, .sentinel, .sentinel, .sentinel], laidTests := true, laidLooks := .later }
def LinkGoesUptoCardSaid : Prop := Claim7.holds Tryd.pinned (.plain (OpenSpec.upto linkGoesSpec)) linkGoesUptoCard

/-- THE SECOND FORM's CARD OF 'facadelaw13.LinkFar'. -/
def linkFarUptoCard : Claim7 := { stood := { row := linkFarUptoRow, standIns := [], harness := (true, "1f7b55c1fc8da686be37beba9cf1ffad4df63844cbd2831cc8de46d69a35adbd"), looks := true }, kinds := [], alts := [], laidByText := true, laidKinds := [.sentinel, .sentinel, .sentinel, .sentinel, .sentinel, .sentinel, .sentinel], laidTests := true, laidLooks := .later }
def LinkFarUptoCardSaid : Prop := Claim7.holds Tryd.pinned (.plain (OpenSpec.upto linkFarSpec)) linkFarUptoCard
end Rows
end Go.Proofs.YtgahbpfmiibpeaaDoor
