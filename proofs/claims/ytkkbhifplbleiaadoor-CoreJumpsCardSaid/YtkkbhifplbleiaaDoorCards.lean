/-
  DERIVED. GIVEN WITH THE SEED: THE CARDS: each row of YtkkbhifplbleiaaDoorRows.lean that lists a variable, with what it lists TIED to the program's text (the seventh form; the later family's looks); each row that meets fmt, with fmt's text TOLD by the authors' own Lean function (tested against real Go, not proved from fmt's source: count such statements apart). THE CARD IS WHAT COUNTS. Prove the row's statement (the work); the ties are given (YtkkbhifplbleiaaDoorTie.lean); close each card by the builder's one call (the guide's Derived/Test/ToyasCard.lean, 'card_holds'). Laid BY PROGRAM, IN A SANDBOX (cutbox-door.mjs). By AI agents, Wed Nov 11 2026. No macro, syntax, notation, axiom, sorry.
-/
import Derived.Test.YtkkbhifplbleiaaDoorRows
import GoSem.ClaimSeven
namespace Go.Proofs.YtkkbhifplbleiaaDoor
namespace Rows

/-- THE TIED CARD OF 'facadelaw7.CoreJumps'. -/
def coreJumpsCard : Claim7 := { stood := { row := coreJumpsRow, standIns := [], harness := (true, "aade53663dbc52d7b03dea5b53729252675f80bc4fd1f4e6d33c81412c9c4f6c"), looks := false }, kinds := [], alts := [], laidByText := true, laidKinds := [.sentinel], laidTests := true, laidLooks := .later }
def CoreJumpsCardSaid : Prop := Claim7.holds Tryd.pinned (.plain (OpenSpec.ofChange coreJumpsSpec)) coreJumpsCard

/-- THE SECOND FORM's CARD OF 'facadelaw7.CoreJumps'. -/
def coreJumpsUptoCard : Claim7 := { stood := { row := coreJumpsUptoRow, standIns := [], harness := (true, "aade53663dbc52d7b03dea5b53729252675f80bc4fd1f4e6d33c81412c9c4f6c"), looks := false }, kinds := [], alts := [], laidByText := true, laidKinds := [.sentinel], laidTests := true, laidLooks := .later }
def CoreJumpsUptoCardSaid : Prop := Claim7.holds Tryd.pinned (.plain (OpenSpec.upto coreJumpsSpec)) coreJumpsUptoCard
end Rows
end Go.Proofs.YtkkbhifplbleiaaDoor
