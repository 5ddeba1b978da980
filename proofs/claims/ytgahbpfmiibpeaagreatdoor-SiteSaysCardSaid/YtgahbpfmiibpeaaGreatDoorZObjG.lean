/- Lists compared (slices.Equal; the document's own): contracts. (Made by gobje.py.) -/
import Derived.Test.YtgahbpfmiibpeaaGreatDoorZGObjE
import Derived.BigQuiet
import Derived.Deep.QuietTactic
import Derived.Laws.StructEq
namespace Go.Proofs.YtgahbpfmiibpeaaGreatDoor
open Go.RowKit




end Go.Proofs.YtgahbpfmiibpeaaGreatDoor
