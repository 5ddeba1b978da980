/-
  DERIVED. GIVEN WITH THE SEED: THE CARDS: each row of YtepgnnnkhjnbjaaDoorRows.lean that lists a variable, with what it lists TIED to the program's text (the seventh form; the later family's looks); each row that meets fmt, with fmt's text TOLD by the authors' own Lean function (tested against real Go, not proved from fmt's source: count such statements apart). THE CARD IS WHAT COUNTS. Prove the row's statement (the work); the ties are given (YtepgnnnkhjnbjaaDoorTie.lean); close each card by the builder's one call (the guide's Derived/Test/ToyasCard.lean, 'card_holds'). Laid BY PROGRAM, IN A SANDBOX (cutbox-door.mjs). By AI agents, Wed Nov 11 2026. No macro, syntax, notation, axiom, sorry.
-/
import Derived.Test.YtepgnnnkhjnbjaaDoorRows
import GoSem.ClaimSeven
namespace Go.Proofs.YtepgnnnkhjnbjaaDoor
namespace Rows

/-- THE TIED CARD OF 'facadelaw2.MemCopies'. -/
def memCopiesCard : Claim7 := { stood := { row := memCopiesRow, standIns := [], harness := (true, "e149cb8629a5f2f3e39e38596cb0875981f026ea53cad2977fd44c40ac8d2ac7"), looks := true }, kinds := [], alts := [], laidByText := true, laidKinds := [.sentinel], laidTests := true, laidLooks := .later }
def MemCopiesCardSaid : Prop := Claim7.holds Tryd.pinned (.plain (OpenSpec.ofChange memCopiesSpec)) memCopiesCard

/-- THE TIED CARD OF 'facadelaw2.MemPlays'. -/
def memPlaysCard : Claim7 := { stood := { row := memPlaysRow, standIns := [], harness := (true, "e149cb8629a5f2f3e39e38596cb0875981f026ea53cad2977fd44c40ac8d2ac7"), looks := true }, kinds := [], alts := [], laidByText := true, laidKinds := [.sentinel, .sentinel, .sentinel, .sentinel, .sentinel, .sentinel, .sentinel, .sentinel, .sentinel, .sentinel, .sentinel, .sentinel, .sentinel, .sentinel, .sentinel, .sentinel], laidTests := true, laidLooks := .later }
def MemPlaysCardSaid : Prop := Claim7.holds Tryd.pinned (.plain (OpenSpec.ofChange memPlaysSpec)) memPlaysCard

/-- THE TIED CARD OF 'facadelaw2.MemWords'. -/
def memWordsCard : Claim7 := { stood := { row := memWordsRow, standIns := [], harness := (true, "e149cb8629a5f2f3e39e38596cb0875981f026ea53cad2977fd44c40ac8d2ac7"), looks := true }, kinds := [], alts := [], laidByText := true, laidKinds := [.sentinel], laidTests := true, laidLooks := .later }
def MemWordsCardSaid : Prop := Claim7.holds Tryd.pinned (.plain (OpenSpec.ofChange memWordsSpec)) memWordsCard

/-- THE TIED CARD OF 'facadelaw2.MemFills'. -/
def memFillsCard : Claim7 := { stood := { row := memFillsRow, standIns := [], harness := (true, "e149cb8629a5f2f3e39e38596cb0875981f026ea53cad2977fd44c40ac8d2ac7"), looks := true }, kinds := [], alts := [], laidByText := true, laidKinds := [.sentinel], laidTests := true, laidLooks := .later }
def MemFillsCardSaid : Prop := Claim7.holds Tryd.pinned (.plain (OpenSpec.ofChange memFillsSpec)) memFillsCard

/-- THE SECOND FORM's CARD OF 'facadelaw2.MemCopies'. -/
def memCopiesUptoCard : Claim7 := { stood := { row := memCopiesUptoRow, standIns := [], harness := (true, "e149cb8629a5f2f3e39e38596cb0875981f026ea53cad2977fd44c40ac8d2ac7"), looks := true }, kinds := [], alts := [], laidByText := true, laidKinds := [.sentinel], laidTests := true, laidLooks := .later }
def MemCopiesUptoCardSaid : Prop := Claim7.holds Tryd.pinned (.plain (OpenSpec.upto memCopiesSpec)) memCopiesUptoCard

/-- THE SECOND FORM's CARD OF 'facadelaw2.MemPlays'. -/
def memPlaysUptoCard : Claim7 := { stood := { row := memPlaysUptoRow, standIns := [], harness := (true, "e149cb8629a5f2f3e39e38596cb0875981f026ea53cad2977fd44c40ac8d2ac7"), looks := true }, kinds := [], alts := [], laidByText := true, laidKinds := [.sentinel, .sentinel, .sentinel, .sentinel, .sentinel, .sentinel, .sentinel, .sentinel, .sentinel, .sentinel, .sentinel, .sentinel, .sentinel, .sentinel, .sentinel, .sentinel], laidTests := true, laidLooks := .later }
def MemPlaysUptoCardSaid : Prop := Claim7.holds Tryd.pinned (.plain (OpenSpec.upto memPlaysSpec)) memPlaysUptoCard

/-- THE SECOND FORM's CARD OF 'facadelaw2.MemWords'. -/
def memWordsUptoCard : Claim7 := { stood := { row := memWordsUptoRow, standIns := [], harness := (true, "e149cb8629a5f2f3e39e38596cb0875981f026ea53cad2977fd44c40ac8d2ac7"), looks := true }, kinds := [], alts := [], laidByText := true, laidKinds := [.sentinel], laidTests := true, laidLooks := .later }
def MemWordsUptoCardSaid : Prop := Claim7.holds Tryd.pinned (.plain (OpenSpec.upto memWordsSpec)) memWordsUptoCard

/-- THE SECOND FORM's CARD OF 'facadelaw2.MemFills'. -/
def memFillsUptoCard : Claim7 := { stood := { row := memFillsUptoRow, standIns := [], harness := (true, "e149cb8629a5f2f3e39e38596cb0875981f026ea53cad2977fd44c40ac8d2ac7"), looks := true }, kinds := [], alts := [], laidByText := true, laidKinds := [.sentinel], laidTests := true, laidLooks := .later }
def MemFillsUptoCardSaid : Prop := Claim7.holds Tryd.pinned (.plain (OpenSpec.upto memFillsSpec)) memFillsUptoCard
end Rows
end Go.Proofs.YtepgnnnkhjnbjaaDoor
