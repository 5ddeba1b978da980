/-
  DERIVED. GIVEN WITH THE SEED: THE CARDS: each row of YtbjijddpdefhpaaDoorRows.lean that lists a variable, with what it lists TIED to the program's text (the seventh form; the later family's looks); each row that meets fmt, with fmt's text TOLD by the authors' own Lean function (tested against real Go, not proved from fmt's source: count such statements apart). THE CARD IS WHAT COUNTS. Prove the row's statement (the work); the ties are given (YtbjijddpdefhpaaDoorTie.lean); close each card by the builder's one call (the guide's Derived/Test/ToyasCard.lean, 'card_holds'). Laid BY PROGRAM, IN A SANDBOX (cutbox-door.mjs). By AI agents, Wed Nov 11 2026. No macro, syntax, notation, axiom, sorry.
-/
import Derived.Test.YtbjijddpdefhpaaDoorRows
import GoSem.ClaimSeven
namespace Go.Proofs.YtbjijddpdefhpaaDoor
namespace Rows

/-- THE TIED CARD OF 'facadelaw9.ObjWrong'. -/
def objWrongCard : Claim7 := { stood := { row := objWrongRow, standIns := [], harness := (true, "686bae4acf17de12a9d884ededf1bf23599ba5672f158447c1f06d82d3c0d5b0"), looks := true }, kinds := [], alts := [], laidByText := true, laidKinds := [.sentinel, .sentinel, .sentinel, .sentinel, .sentinel, .sentinel, .sentinel, .sentinel, .sentinel, .sentinel, .sentinel, .sentinel, .sentinel, .sentinel, .sentinel, .sentinel], laidTests := true, laidLooks := .later }
def ObjWrongCardSaid : Prop := Claim7.holds Tryd.pinned (.plain (OpenSpec.ofChange objWrongSpec)) objWrongCard

/-- THE TIED CARD OF 'facadelaw10.SiteFinds'. -/
def siteFindsCard : Claim7 := { stood := { row := siteFindsRow, standIns := [], harness := (true, "686bae4acf17de12a9d884ededf1bf23599ba5672f158447c1f06d82d3c0d5b0"), looks := true }, kinds := [], alts := [], laidByText := true, laidKinds := [.sentinel, .sentinel, .sentinel, .sentinel, .sentinel, .sentinel, .sentinel], laidTests := true, laidLooks := .later }
def SiteFindsCardSaid : Prop := Claim7.holds Tryd.pinned (.plain (OpenSpec.ofChange siteFindsSpec)) siteFindsCard

/-- THE TIED CARD OF 'facadelaw10.SiteEach'. -/
def siteEachCard : Claim7 := { stood := { row := siteEachRow, standIns := [], harness := (true, "686bae4acf17de12a9d884ededf1bf23599ba5672f158447c1f06d82d3c0d5b0"), looks := true }, kinds := [], alts := [], laidByText := true, laidKinds := [.data, .data, .data, .sentinel, .sentinel, .sentinel, .sentinel, .sentinel, .sentinel, .sentinel, .data], laidTests := true, laidLooks := .later }
def SiteEachCardSaid : Prop := Claim7.holds Tryd.pinned (.plain (OpenSpec.ofChange siteEachSpec)) siteEachCard

/-- THE SECOND FORM's CARD OF 'facadelaw9.ObjWrong'. -/
def objWrongUptoCard : Claim7 := { stood := { row := objWrongUptoRow, standIns := [], harness := (true, "686bae4acf17de12a9d884ededf1bf23599ba5672f158447c1f06d82d3c0d5b0"), looks := true }, kinds := [], alts := [], laidByText := true, laidKinds := [.sentinel, .sentinel, .sentinel, .sentinel, .sentinel, .sentinel, .sentinel, .sentinel, .sentinel, .sentinel, .sentinel, .sentinel, .sentinel, .sentinel, .sentinel, .sentinel], laidTests := true, laidLooks := .later }
def ObjWrongUptoCardSaid : Prop := Claim7.holds Tryd.pinned (.plain (OpenSpec.upto objWrongSpec)) objWrongUptoCard

/-- THE SECOND FORM's CARD OF 'facadelaw10.SiteFinds'. -/
def siteFindsUptoCard : Claim7 := { stood := { row := siteFindsUptoRow, standIns := [], harness := (true, "686bae4acf17de12a9d884ededf1bf23599ba5672f158447c1f06d82d3c0d5b0"), looks := true }, kinds := [], alts := [], laidByText := true, laidKinds := [.sentinel, .sentinel, .sentinel, .sentinel, .sentinel, .sentinel, .sentinel], laidTests := true, laidLooks := .later }
def SiteFindsUptoCardSaid : Prop := Claim7.holds Tryd.pinned (.plain (OpenSpec.upto siteFindsSpec)) siteFindsUptoCard

/-- THE SECOND FORM's CARD OF 'facadelaw10.SiteEach'. -/
def siteEachUptoCard : Claim7 := { stood := { row := siteEachUptoRow, standIns := [], harness := (true, "686bae4acf17de12a9d884ededf1bf23599ba5672f158447c1f06d82d3c0d5b0"), looks := true }, kinds := [], alts := [], laidByText := true, laidKinds := [.data, .data, .data, .sentinel, .sentinel, .sentinel, .sentinel, .sentinel, .sentinel, .sentinel, .data], laidTests := true, laidLooks := .later }
def SiteEachUptoCardSaid : Prop := Claim7.holds Tryd.pinned (.plain (OpenSpec.upto siteEachSpec)) siteEachUptoCard
end Rows
end Go.Proofs.YtbjijddpdefhpaaDoor
