/-
  DERIVED. GIVEN WITH THE SEED: THE CARDS: each row of YtfkecmcnhmlnoaaDoorRows.lean that lists a variable, with what it lists TIED to the program's text (the seventh form; the later family's looks); each row that meets fmt, with fmt's text TOLD by the authors' own Lean function (tested against real Go, not proved from fmt's source: count such statements apart). THE CARD IS WHAT COUNTS. Prove the row's statement (the work); the ties are given (YtfkecmcnhmlnoaaDoorTie.lean); close each card by the builder's one call (the guide's Derived/Test/ToyasCard.lean, 'card_holds'). Laid BY PROGRAM, IN A SANDBOX (cutbox-door.mjs). By AI agents, Wed Nov 11 2026. No macro, syntax, notation, axiom, sorry.
-/
import Derived.Test.YtfkecmcnhmlnoaaDoorRows
import GoSem.ClaimSeven
namespace Go.Proofs.YtfkecmcnhmlnoaaDoor
namespace Rows

/-- THE TIED CARD OF 'facadelaw9.ObjLimits'. -/
def objLimitsCard : Claim7 := { stood := { row := objLimitsRow, standIns := [], harness := (true, "84d43bc41415e4b3466302142616821ff8f5c24ab6fff7c0fd0d97dfe43ca607"), looks := true }, kinds := [], alts := [], laidByText := true, laidKinds := [.data, .data, .data, .sentinel, .sentinel, .sentinel, .sentinel, .sentinel, .sentinel, .sentinel, .sentinel, .sentinel, .sentinel, .sentinel, .sentinel, .sentinel, .sentinel, .sentinel, .sentinel], laidTests := true, laidLooks := .later }
def ObjLimitsCardSaid : Prop := Claim7.holds Tryd.pinned (.plain (OpenSpec.ofChange objLimitsSpec)) objLimitsCard

/-- THE TIED CARD OF 'facadelaw9.ObjBack'. -/
def objBackCard : Claim7 := { stood := { row := objBackRow, standIns := [], harness := (true, "84d43bc41415e4b3466302142616821ff8f5c24ab6fff7c0fd0d97dfe43ca607"), looks := true }, kinds := [], alts := [], laidByText := true, laidKinds := [.sentinel, .sentinel, .sentinel, .sentinel, .sentinel, .sentinel, .sentinel, .sentinel, .sentinel, .sentinel, .sentinel, .sentinel, .sentinel, .sentinel, .sentinel, .sentinel], laidTests := true, laidLooks := .later }
def ObjBackCardSaid : Prop := Claim7.holds Tryd.pinned (.plain (OpenSpec.ofChange objBackSpec)) objBackCard

/-- THE TIED CARD OF 'facadelaw9.ObjWrong'. -/
def objWrongCard : Claim7 := { stood := { row := objWrongRow, standIns := [], harness := (true, "84d43bc41415e4b3466302142616821ff8f5c24ab6fff7c0fd0d97dfe43ca607"), looks := true }, kinds := [], alts := [], laidByText := true, laidKinds := [.sentinel, .sentinel, .sentinel, .sentinel, .sentinel, .sentinel, .sentinel, .sentinel, .sentinel, .sentinel, .sentinel, .sentinel, .sentinel, .sentinel, .sentinel, .sentinel], laidTests := true, laidLooks := .later }
def ObjWrongCardSaid : Prop := Claim7.holds Tryd.pinned (.plain (OpenSpec.ofChange objWrongSpec)) objWrongCard

/-- THE TIED CARD OF 'facadelaw9.ObjBent'. -/
def objBentCard : Claim7 := { stood := { row := objBentRow, standIns := [], harness := (true, "84d43bc41415e4b3466302142616821ff8f5c24ab6fff7c0fd0d97dfe43ca607"), looks := true }, kinds := [], alts := [], laidByText := true, laidKinds := [.sentinel, .sentinel, .sentinel, .sentinel, .sentinel, .sentinel, .sentinel, .sentinel, .sentinel, .sentinel, .sentinel, .sentinel, .sentinel, .sentinel, .sentinel, .sentinel], laidTests := true, laidLooks := .later }
def ObjBentCardSaid : Prop := Claim7.holds Tryd.pinned (.plain (OpenSpec.ofChange objBentSpec)) objBentCard

/-- THE TIED CARD OF 'facadelaw9.ObjOwn'. -/
def objOwnCard : Claim7 := { stood := { row := objOwnRow, standIns := [], harness := (true, "84d43bc41415e4b3466302142616821ff8f5c24ab6fff7c0fd0d97dfe43ca607"), looks := true }, kinds := [], alts := [], laidByText := true, laidKinds := [.sentinel, .sentinel, .sentinel, .sentinel, .sentinel, .sentinel, .sentinel], laidTests := true, laidLooks := .later }
def ObjOwnCardSaid : Prop := Claim7.holds Tryd.pinned (.plain (OpenSpec.ofChange objOwnSpec)) objOwnCard

/-- THE SECOND FORM's CARD OF 'facadelaw9.ObjLimits'. -/
def objLimitsUptoCard : Claim7 := { stood := { row := objLimitsUptoRow, standIns := [], harness := (true, "84d43bc41415e4b3466302142616821ff8f5c24ab6fff7c0fd0d97dfe43ca607"), looks := true }, kinds := [], alts := [], laidByText := true, laidKinds := [.data, .data, .data, .sentinel, .sentinel, .sentinel, .sentinel, .sentinel, .sentinel, .sentinel, .sentinel, .sentinel, .sentinel, .sentinel, .sentinel, .sentinel, .sentinel, .sentinel, .sentinel], laidTests := true, laidLooks := .later }
def ObjLimitsUptoCardSaid : Prop := Claim7.holds Tryd.pinned (.plain (OpenSpec.upto objLimitsSpec)) objLimitsUptoCard

/-- THE SECOND FORM's CARD OF 'facadelaw9.ObjBack'. -/
def objBackUptoCard : Claim7 := { stood := { row := objBackUptoRow, standIns := [], harness := (true, "84d43bc41415e4b3466302142616821ff8f5c24ab6fff7c0fd0d97dfe43ca607"), looks := true }, kinds := [], alts := [], laidByText := true, laidKinds := [.sentinel, .sentinel, .sentinel, .sentinel, .sentinel, .sentinel, .sentinel, .sentinel, .sentinel, .sentinel, .sentinel, .sentinel, .sentinel, .sentinel, .sentinel, .sentinel], laidTests := true, laidLooks := .later }
def ObjBackUptoCardSaid : Prop := Claim7.holds Tryd.pinned (.plain (OpenSpec.upto objBackSpec)) objBackUptoCard

/-- THE SECOND FORM's CARD OF 'facadelaw9.ObjWrong'. -/
def objWrongUptoCard : Claim7 := { stood := { row := objWrongUptoRow, standIns := [], harness := (true, "84d43bc41415e4b3466302142616821ff8f5c24ab6fff7c0fd0d97dfe43ca607"), looks := true }, kinds := [], alts := [], laidByText := true, laidKinds := [.sentinel, .sentinel, .sentinel, .sentinel, .sentinel, .sentinel, .sentinel, .sentinel, .sentinel, .sentinel, .sentinel, .sentinel, .sentinel, .sentinel, .sentinel, .sentinel], laidTests := true, laidLooks := .later }
def ObjWrongUptoCardSaid : Prop := Claim7.holds Tryd.pinned (.plain (OpenSpec.upto objWrongSpec)) objWrongUptoCard

/-- THE SECOND FORM's CARD OF 'facadelaw9.ObjBent'. -/
def objBentUptoCard : Claim7 := { stood := { row := objBentUptoRow, standIns := [], harness := (true, "84d43bc41415e4b3466302142616821ff8f5c24ab6fff7c0fd0d97dfe43ca607"), looks := true }, kinds := [], alts := [], laidByText := true, laidKinds := [.sentinel, .sentinel, .sentinel, .sentinel, .sentinel, .sentinel, .sentinel, .sentinel, .sentinel, .sentinel, .sentinel, .sentinel, .sentinel, .sentinel, .sentinel, .sentinel], laidTests := true, laidLooks := .later }
def ObjBentUptoCardSaid : Prop := Claim7.holds Tryd.pinned (.plain (OpenSpec.upto objBentSpec)) objBentUptoCard

/-- THE SECOND FORM's CARD OF 'facadelaw9.ObjOwn'. -/
def objOwnUptoCard : Claim7 := { stood := { row := objOwnUptoRow, standIns := [], harness := (true, "84d43bc41415e4b3466302142616821ff8f5c24ab6fff7c0fd0d97dfe43ca607"), looks := true }, kinds := [], alts := [], laidByText := true, laidKinds := [.sentinel, .sentinel, .sentinel, .sentinel, .sentinel, .sentinel, .sentinel], laidTests := true, laidLooks := .later }
def ObjOwnUptoCardSaid : Prop := Claim7.holds Tryd.pinned (.plain (OpenSpec.upto objOwnSpec)) objOwnUptoCard
end Rows
end Go.Proofs.YtfkecmcnhmlnoaaDoor
