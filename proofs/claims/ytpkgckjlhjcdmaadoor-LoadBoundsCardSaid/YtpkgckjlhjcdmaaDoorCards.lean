/-
  DERIVED. GIVEN WITH THE SEED: THE CARDS: each row of YtpkgckjlhjcdmaaDoorRows.lean that lists a variable, with what it lists TIED to the program's text (the seventh form; the later family's looks); each row that meets fmt, with fmt's text TOLD by the authors' own Lean function (tested against real Go, not proved from fmt's source: count such statements apart). THE CARD IS WHAT COUNTS. Prove the row's statement (the work); the ties are given (YtpkgckjlhjcdmaaDoorTie.lean); close each card by the builder's one call (the guide's Derived/Test/ToyasCard.lean, 'card_holds'). Laid BY PROGRAM, IN A SANDBOX (cutbox-door.mjs). By AI agents, Wed Nov 11 2026. No macro, syntax, notation, axiom, sorry.
-/
import Derived.Test.YtpkgckjlhjcdmaaDoorRows
import GoSem.ClaimSeven
namespace Go.Proofs.YtpkgckjlhjcdmaaDoor
namespace Rows

/-- THE TIED CARD OF 'facadelaw13.LinkGoes'. -/
def linkGoesCard : Claim7 := { stood := { row := linkGoesRow, standIns := [], harness := (true, "a301dac77a0dee331154dc63bf830d4b473cf60d5f763bb66df4231b62275f2b"), looks := true }, kinds := [], alts := [], laidByText := true, laidKinds := [.sentinel, .sentinel, .sentinel, .sentinel, .sentinel, .sentinel, .sentinel], laidTests := true, laidLooks := .later }
def LinkGoesCardSaid : Prop := Claim7.holds Tryd.pinned (.plain (OpenSpec.ofChange linkGoesSpec)) linkGoesCard

/-- THE TIED CARD OF 'facadelaw13.LinkFar'. -/
def linkFarCard : Claim7 := { stood := { row := linkFarRow, standIns := [], harness := (true, "a301dac77a0dee331154dc63bf830d4b473cf60d5f763bb66df4231b62275f2b"), looks := true }, kinds := [], alts := [], laidByText := true, laidKinds := [.sentinel, .sentinel, .sentinel, .sentinel, .sentinel, .sentinel, .sentinel], laidTests := true, laidLooks := .later }
def LinkFarCardSaid : Prop := Claim7.holds Tryd.pinned (.plain (OpenSpec.ofChange linkFarSpec)) linkFarCard

/-- THE TIED CARD OF 'facadelaw14.LoadSays'. -/
def loadSaysCard : Claim7 := { stood := { row := loadSaysRow, standIns := [], harness := (true, "a301dac77a0dee331154dc63bf830d4b473cf60d5f763bb66df4231b62275f2b"), looks := true }, kinds := [], alts := [], laidByText := true, laidKinds := [.sentinel, .sentinel, .sentinel, .sentinel, .sentinel, .sentinel, .sentinel, .sentinel, .sentinel, .sentinel, .sentinel, .sentinel, .sentinel, .sentinel, .sentinel, .sentinel], laidTests := true, laidLooks := .later }
def LoadSaysCardSaid : Prop := Claim7.holds Tryd.pinned (.plain (OpenSpec.ofChange loadSaysSpec)) loadSaysCard

/-- THE TIED CARD OF 'facadelaw14.LoadLies'. -/
def loadLiesCard : Claim7 := { stood := { row := loadLiesRow, standIns := [], harness := (true, "a301dac77a0dee331154dc63bf830d4b473cf60d5f763bb66df4231b62275f2b"), looks := true }, kinds := [], alts := [], laidByText := true, laidKinds := [.sentinel, .sentinel], laidTests := true, laidLooks := .later }
def LoadLiesCardSaid : Prop := Claim7.holds Tryd.pinned (.plain (OpenSpec.ofChange loadLiesSpec)) loadLiesCard

/-- THE TIED CARD OF 'facadelaw14.LoadBounds'. -/
def loadBoundsCard : Claim7 := { stood := { row := loadBoundsRow, standIns := [], harness := (true, "a301dac77a0dee331154dc63bf830d4b473cf60d5f763bb66df4231b62275f2b"), looks := true }, kinds := [], alts := [], laidByText := true, laidKinds := [.sentinel, .sentinel, .sentinel, .sentinel, .sentinel, .sentinel, .sentinel, .sentinel, .sentinel, .sentinel, .sentinel, .sentinel, .sentinel, .sentinel, .sentinel, .sentinel], laidTests := true, laidLooks := .later }
def LoadBoundsCardSaid : Prop := Claim7.holds Tryd.pinned (.plain (OpenSpec.ofChange loadBoundsSpec)) loadBoundsCard

/-- THE SECOND FORM's CARD OF 'facadelaw13.LinkGoes'. -/
def linkGoesUptoCard : Claim7 := { stood := { row := linkGoesUptoRow, standIns := [], harness := (true, "a301dac77a0dee331154dc63bf830d4b473cf60d5f763bb66df4231b62275f2b"), looks := true }, kinds := [], alts := [], laidByText := true, laidKinds := [.sentinel, .sentinel, .sentinel, .sentinel, .sentinel, .sentinel, .sentinel], laidTests := true, laidLooks := .later }
def LinkGoesUptoCardSaid : Prop := Claim7.holds Tryd.pinned (.plain (OpenSpec.upto linkGoesSpec)) linkGoesUptoCard

/-- THE SECOND FORM's CARD OF 'facadelaw13.LinkFar'. -/
def linkFarUptoCard : Claim7 := { stood := { row := linkFarUptoRow, standIns := [], harness := (true, "a301dac77a0dee331154dc63bf830d4b473cf60d5f763bb66df4231b62275f2b"), looks := true }, kinds := [], alts := [], laidByText := true, laidKinds := [.sentinel, .sentinel, .sentinel, .sentinel, .sentinel, .sentinel, .sentinel], laidTests := true, laidLooks := .later }
def LinkFarUptoCardSaid : Prop := Claim7.holds Tryd.pinned (.plain (OpenSpec.upto linkFarSpec)) linkFarUptoCard

/-- THE SECOND FORM's CARD OF 'facadelaw14.LoadSays'. -/
def loadSaysUptoCard : Claim7 := { stood := { row := loadSaysUptoRow, standIns := [], harness := (true, "a301dac77a0dee331154dc63bf830d4b473cf60d5f763bb66df4231b62275f2b"), looks := true }, kinds := [], alts := [], laidByText := true, laidKinds := [.sentinel, .sentinel, .sentinel, .sentinel, .sentinel, .sentinel, .sentinel, .sentinel, .sentinel, .sentinel, .sentinel, .sentinel, .sentinel, .sentinel, .sentinel, .sentinel], laidTests := true, laidLooks := .later }
def LoadSaysUptoCardSaid : Prop := Claim7.holds Tryd.pinned (.plain (OpenSpec.upto loadSaysSpec)) loadSaysUptoCard

/-- THE SECOND FORM's CARD OF 'facadelaw14.LoadLies'. -/
def loadLiesUptoCard : Claim7 := { stood := { row := loadLiesUptoRow, standIns := [], harness := (true, "a301dac77a0dee331154dc63bf830d4b473cf60d5f763bb66df4231b62275f2b"), looks := true }, kinds := [], alts := [], laidByText := true, laidKinds := [.sentinel, .sentinel], laidTests := true, laidLooks := .later }
def LoadLiesUptoCardSaid : Prop := Claim7.holds Tryd.pinned (.plain (OpenSpec.upto loadLiesSpec)) loadLiesUptoCard

/-- THE SECOND FORM's CARD OF 'facadelaw14.LoadBounds'. -/
def loadBoundsUptoCard : Claim7 := { stood := { row := loadBoundsUptoRow, standIns := [], harness := (true, "a301dac77a0dee331154dc63bf830d4b473cf60d5f763bb66df4231b62275f2b"), looks := true }, kinds := [], alts := [], laidByText := true, laidKinds := [.sentinel, .sentinel, .sentinel, .sentinel, .sentinel, .sentinel, .sentinel, .sentinel, .sentinel, .sentinel, .sentinel, .sentinel, .sentinel, .sentinel, .sentinel, .sentinel], laidTests := true, laidLooks := .later }
def LoadBoundsUptoCardSaid : Prop := Claim7.holds Tryd.pinned (.plain (OpenSpec.upto loadBoundsSpec)) loadBoundsUptoCard
end Rows
end Go.Proofs.YtpkgckjlhjcdmaaDoor
