/-
  DERIVED. GIVEN WITH THE SEED: THE CARDS: each row of YtcfagdmaephkdaaDoorRows.lean that lists a variable, with what it lists TIED to the program's text (the seventh form; the later family's looks); each row that meets fmt, with fmt's text TOLD by the authors' own Lean function (tested against real Go, not proved from fmt's source: count such statements apart). THE CARD IS WHAT COUNTS. Prove the row's statement (the work); the ties are given (YtcfagdmaephkdaaDoorTie.lean); close each card by the builder's one call (the guide's Derived/Test/ToyasCard.lean, 'card_holds'). Laid BY PROGRAM, IN A SANDBOX (cutbox-door.mjs). By AI agents, Wed Nov 11 2026. No macro, syntax, notation, axiom, sorry.
-/
import Derived.Test.YtcfagdmaephkdaaDoorRows
import GoSem.ClaimSeven
namespace Go.Proofs.YtcfagdmaephkdaaDoor
namespace Rows

/-- THE TIED CARD OF 'facadelaw16.FramesPlay'. -/
def framesPlayCard : Claim7 := { stood := { row := framesPlayRow, standIns := [], harness := (true, "95a564a508a970c664c41e7af3991a5d52e30a71f5dbb354929cc998a6e49df0"), looks := true }, kinds := [], alts := [], laidByText := true, laidKinds := [.sentinel, .sentinel, .sentinel, .sentinel, .sentinel, .sentinel, .sentinel, .sentinel, .sentinel, .sentinel, .sentinel, .sentinel, .sentinel, .sentinel, .sentinel, .sentinel], laidTests := true, laidLooks := .later }
def FramesPlayCardSaid : Prop := Claim7.holds Tryd.pinned (.plain (OpenSpec.ofChange framesPlaySpec)) framesPlayCard

/-- THE TIED CARD OF 'facadelaw16.FramesSafe'. -/
def framesSafeCard : Claim7 := { stood := { row := framesSafeRow, standIns := [], harness := (true, "95a564a508a970c664c41e7af3991a5d52e30a71f5dbb354929cc998a6e49df0"), looks := true }, kinds := [], alts := [], laidByText := true, laidKinds := [.sentinel, .sentinel, .sentinel, .sentinel, .sentinel, .sentinel, .sentinel, .sentinel, .sentinel, .sentinel, .sentinel, .sentinel, .sentinel, .sentinel, .sentinel, .sentinel], laidTests := true, laidLooks := .later }
def FramesSafeCardSaid : Prop := Claim7.holds Tryd.pinned (.plain (OpenSpec.ofChange framesSafeSpec)) framesSafeCard

/-- THE TIED CARD OF 'facadelaw16.FramesTurn'. -/
def framesTurnCard : Claim7 := { stood := { row := framesTurnRow, standIns := [], harness := (true, "95a564a508a970c664c41e7af3991a5d52e30a71f5dbb354929cc998a6e49df0"), looks := true }, kinds := [], alts := [], laidByText := true, laidKinds := [.sentinel, .sentinel, .sentinel, .sentinel, .sentinel, .sentinel, .sentinel, .sentinel, .sentinel, .sentinel, .sentinel, .sentinel, .sentinel, .sentinel, .sentinel, .sentinel], laidTests := true, laidLooks := .later }
def FramesTurnCardSaid : Prop := Claim7.holds Tryd.pinned (.plain (OpenSpec.ofChange framesTurnSpec)) framesTurnCard

/-- THE TIED CARD OF 'facadelaw16.FramesFull'. -/
def framesFullCard : Claim7 := { stood := { row := framesFullRow, standIns := [], harness := (true, "95a564a508a970c664c41e7af3991a5d52e30a71f5dbb354929cc998a6e49df0"), looks := true }, kinds := [], alts := [], laidByText := true, laidKinds := [.sentinel, .sentinel, .sentinel, .sentinel, .sentinel, .sentinel, .sentinel, .sentinel, .sentinel, .sentinel, .sentinel, .sentinel, .sentinel, .sentinel, .sentinel, .sentinel], laidTests := true, laidLooks := .later }
def FramesFullCardSaid : Prop := Claim7.holds Tryd.pinned (.plain (OpenSpec.ofChange framesFullSpec)) framesFullCard

/-- THE SECOND FORM's CARD OF 'facadelaw16.FramesPlay'. -/
def framesPlayUptoCard : Claim7 := { stood := { row := framesPlayUptoRow, standIns := [], harness := (true, "95a564a508a970c664c41e7af3991a5d52e30a71f5dbb354929cc998a6e49df0"), looks := true }, kinds := [], alts := [], laidByText := true, laidKinds := [.sentinel, .sentinel, .sentinel, .sentinel, .sentinel, .sentinel, .sentinel, .sentinel, .sentinel, .sentinel, .sentinel, .sentinel, .sentinel, .sentinel, .sentinel, .sentinel], laidTests := true, laidLooks := .later }
def FramesPlayUptoCardSaid : Prop := Claim7.holds Tryd.pinned (.plain (OpenSpec.upto framesPlaySpec)) framesPlayUptoCard

/-- THE SECOND FORM's CARD OF 'facadelaw16.FramesSafe'. -/
def framesSafeUptoCard : Claim7 := { stood := { row := framesSafeUptoRow, standIns := [], harness := (true, "95a564a508a970c664c41e7af3991a5d52e30a71f5dbb354929cc998a6e49df0"), looks := true }, kinds := [], alts := [], laidByText := true, laidKinds := [.sentinel, .sentinel, .sentinel, .sentinel, .sentinel, .sentinel, .sentinel, .sentinel, .sentinel, .sentinel, .sentinel, .sentinel, .sentinel, .sentinel, .sentinel, .sentinel], laidTests := true, laidLooks := .later }
def FramesSafeUptoCardSaid : Prop := Claim7.holds Tryd.pinned (.plain (OpenSpec.upto framesSafeSpec)) framesSafeUptoCard

/-- THE SECOND FORM's CARD OF 'facadelaw16.FramesTurn'. -/
def framesTurnUptoCard : Claim7 := { stood := { row := framesTurnUptoRow, standIns := [], harness := (true, "95a564a508a970c664c41e7af3991a5d52e30a71f5dbb354929cc998a6e49df0"), looks := true }, kinds := [], alts := [], laidByText := true, laidKinds := [.sentinel, .sentinel, .sentinel, .sentinel, .sentinel, .sentinel, .sentinel, .sentinel, .sentinel, .sentinel, .sentinel, .sentinel, .sentinel, .sentinel, .sentinel, .sentinel], laidTests := true, laidLooks := .later }
def FramesTurnUptoCardSaid : Prop := Claim7.holds Tryd.pinned (.plain (OpenSpec.upto framesTurnSpec)) framesTurnUptoCard

/-- THE SECOND FORM's CARD OF 'facadelaw16.FramesFull'. -/
def framesFullUptoCard : Claim7 := { stood := { row := framesFullUptoRow, standIns := [], harness := (true, "95a564a508a970c664c41e7af3991a5d52e30a71f5dbb354929cc998a6e49df0"), looks := true }, kinds := [], alts := [], laidByText := true, laidKinds := [.sentinel, .sentinel, .sentinel, .sentinel, .sentinel, .sentinel, .sentinel, .sentinel, .sentinel, .sentinel, .sentinel, .sentinel, .sentinel, .sentinel, .sentinel, .sentinel], laidTests := true, laidLooks := .later }
def FramesFullUptoCardSaid : Prop := Claim7.holds Tryd.pinned (.plain (OpenSpec.upto framesFullSpec)) framesFullUptoCard
end Rows
end Go.Proofs.YtcfagdmaephkdaaDoor
