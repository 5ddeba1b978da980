/-
  DERIVED. GIVEN WITH THE SEED: THE CARDS: each row of YteanoklaammpiaaDoorRows.lean that lists a variable, with what it lists TIED to the program's text (the seventh form; the later family's looks); each row that meets fmt, with fmt's text TOLD by the authors' own Lean function (tested against real Go, not proved from fmt's source: count such statements apart). THE CARD IS WHAT COUNTS. Prove the row's statement (the work); the ties are given (YteanoklaammpiaaDoorTie.lean); close each card by the builder's one call (the guide's Derived/Test/ToyasCard.lean, 'card_holds'). Laid BY PROGRAM, IN A SANDBOX (cutbox-door.mjs). By AI agents, Wed Nov 11 2026. No macro, syntax, notation, axiom, sorry.
-/
import Derived.Test.YteanoklaammpiaaDoorRows
import GoSem.ClaimSeven
namespace Go.Proofs.YteanoklaammpiaaDoor
namespace Rows

/-- THE TIED CARD OF 'facadelaw11.RewriteOnce'. -/
def rewriteOnceCard : Claim7 := { stood := { row := rewriteOnceRow, standIns := [], harness := (true, "ccbdf3978cefb531f6f45eae28374da63891253496f1c4e0a072c287e130629b"), looks := true }, kinds := [], alts := [], laidByText := true, laidKinds := [.sentinel, .sentinel, .sentinel, .sentinel, .sentinel, .sentinel, .sentinel, .sentinel, .sentinel, .sentinel, .sentinel, .sentinel, .sentinel, .sentinel, .sentinel, .sentinel], laidTests := true, laidLooks := .later }
def RewriteOnceCardSaid : Prop := Claim7.holds Tryd.pinned (.plain (OpenSpec.ofChange rewriteOnceSpec)) rewriteOnceCard

/-- THE TIED CARD OF 'facadelaw11.RewriteSays'. -/
def rewriteSaysCard : Claim7 := { stood := { row := rewriteSaysRow, standIns := [], harness := (true, "ccbdf3978cefb531f6f45eae28374da63891253496f1c4e0a072c287e130629b"), looks := true }, kinds := [], alts := [], laidByText := true, laidKinds := [.sentinel, .sentinel, .sentinel, .sentinel, .sentinel, .sentinel, .sentinel, .sentinel, .sentinel, .sentinel, .sentinel, .sentinel, .sentinel, .sentinel, .sentinel, .sentinel], laidTests := true, laidLooks := .later }
def RewriteSaysCardSaid : Prop := Claim7.holds Tryd.pinned (.plain (OpenSpec.ofChange rewriteSaysSpec)) rewriteSaysCard

/-- THE TIED CARD OF 'facadelaw11.RewriteKeeps'. -/
def rewriteKeepsCard : Claim7 := { stood := { row := rewriteKeepsRow, standIns := [], harness := (true, "ccbdf3978cefb531f6f45eae28374da63891253496f1c4e0a072c287e130629b"), looks := true }, kinds := [], alts := [], laidByText := true, laidKinds := [.sentinel, .sentinel, .sentinel, .sentinel, .sentinel, .sentinel, .sentinel], laidTests := true, laidLooks := .later }
def RewriteKeepsCardSaid : Prop := Claim7.holds Tryd.pinned (.plain (OpenSpec.ofChange rewriteKeepsSpec)) rewriteKeepsCard

/-- THE TIED CARD OF 'facadelaw11.RewriteMarks'. -/
def rewriteMarksCard : Claim7 := { stood := { row := rewriteMarksRow, standIns := [], harness := (true, "ccbdf3978cefb531f6f45eae28374da63891253496f1c4e0a072c287e130629b"), looks := true }, kinds := [], alts := [], laidByText := true, laidKinds := [.sentinel, .sentinel, .sentinel, .sentinel, .sentinel, .sentinel, .sentinel], laidTests := true, laidLooks := .later }
def RewriteMarksCardSaid : Prop := Claim7.holds Tryd.pinned (.plain (OpenSpec.ofChange rewriteMarksSpec)) rewriteMarksCard

/-- THE TIED CARD OF 'facadelaw11.RewriteLong'. -/
def rewriteLongCard : Claim7 := { stood := { row := rewriteLongRow, standIns := [], harness := (true, "ccbdf3978cefb531f6f45eae28374da63891253496f1c4e0a072c287e130629b"), looks := true }, kinds := [], alts := [], laidByText := true, laidKinds := [.sentinel, .sentinel, .sentinel, .sentinel, .sentinel, .sentinel, .sentinel, .sentinel, .sentinel, .sentinel, .sentinel, .sentinel, .sentinel, .sentinel, .sentinel, .sentinel], laidTests := true, laidLooks := .later }
def RewriteLongCardSaid : Prop := Claim7.holds Tryd.pinned (.plain (OpenSpec.ofChange rewriteLongSpec)) rewriteLongCard

/-- THE SECOND FORM's CARD OF 'facadelaw11.RewriteOnce'. -/
def rewriteOnceUptoCard : Claim7 := { stood := { row := rewriteOnceUptoRow, standIns := [], harness := (true, "ccbdf3978cefb531f6f45eae28374da63891253496f1c4e0a072c287e130629b"), looks := true }, kinds := [], alts := [], laidByText := true, laidKinds := [.sentinel, .sentinel, .sentinel, .sentinel, .sentinel, .sentinel, .sentinel, .sentinel, .sentinel, .sentinel, .sentinel, .sentinel, .sentinel, .sentinel, .sentinel, .sentinel], laidTests := true, laidLooks := .later }
def RewriteOnceUptoCardSaid : Prop := Claim7.holds Tryd.pinned (.plain (OpenSpec.upto rewriteOnceSpec)) rewriteOnceUptoCard

/-- THE SECOND FORM's CARD OF 'facadelaw11.RewriteSays'. -/
def rewriteSaysUptoCard : Claim7 := { stood := { row := rewriteSaysUptoRow, standIns := [], harness := (true, "ccbdf3978cefb531f6f45eae28374da63891253496f1c4e0a072c287e130629b"), looks := true }, kinds := [], alts := [], laidByText := true, laidKinds := [.sentinel, .sentinel, .sentinel, .sentinel, .sentinel, .sentinel, .sentinel, .sentinel, .sentinel, .sentinel, .sentinel, .sentinel, .sentinel, .sentinel, .sentinel, .sentinel], laidTests := true, laidLooks := .later }
def RewriteSaysUptoCardSaid : Prop := Claim7.holds Tryd.pinned (.plain (OpenSpec.upto rewriteSaysSpec)) rewriteSaysUptoCard

/-- THE SECOND FORM's CARD OF 'facadelaw11.RewriteKeeps'. -/
def rewriteKeepsUptoCard : Claim7 := { stood := { row := rewriteKeepsUptoRow, standIns := [], harness := (true, "ccbdf3978cefb531f6f45eae28374da63891253496f1c4e0a072c287e130629b"), looks := true }, kinds := [], alts := [], laidByText := true, laidKinds := [.sentinel, .sentinel, .sentinel, .sentinel, .sentinel, .sentinel, .sentinel], laidTests := true, laidLooks := .later }
def RewriteKeepsUptoCardSaid : Prop := Claim7.holds Tryd.pinned (.plain (OpenSpec.upto rewriteKeepsSpec)) rewriteKeepsUptoCard

/-- THE SECOND FORM's CARD OF 'facadelaw11.RewriteMarks'. -/
def rewriteMarksUptoCard : Claim7 := { stood := { row := rewriteMarksUptoRow, standIns := [], harness := (true, "ccbdf3978cefb531f6f45eae28374da63891253496f1c4e0a072c287e130629b"), looks := true }, kinds := [], alts := [], laidByText := true, laidKinds := [.sentinel, .sentinel, .sentinel, .sentinel, .sentinel, .sentinel, .sentinel], laidTests := true, laidLooks := .later }
def RewriteMarksUptoCardSaid : Prop := Claim7.holds Tryd.pinned (.plain (OpenSpec.upto rewriteMarksSpec)) rewriteMarksUptoCard

/-- THE SECOND FORM's CARD OF 'facadelaw11.RewriteLong'. -/
def rewriteLongUptoCard : Claim7 := { stood := { row := rewriteLongUptoRow, standIns := [], harness := (true, "ccbdf3978cefb531f6f45eae28374da63891253496f1c4e0a072c287e130629b"), looks := true }, kinds := [], alts := [], laidByText := true, laidKinds := [.sentinel, .sentinel, .sentinel, .sentinel, .sentinel, .sentinel, .sentinel, .sentinel, .sentinel, .sentinel, .sentinel, .sentinel, .sentinel, .sentinel, .sentinel, .sentinel], laidTests := true, laidLooks := .later }
def RewriteLongUptoCardSaid : Prop := Claim7.holds Tryd.pinned (.plain (OpenSpec.upto rewriteLongSpec)) rewriteLongUptoCard
end Rows
end Go.Proofs.YteanoklaammpiaaDoor
