/- The chapter's example (facadelaw9.first): a contract. -/
import Derived.Test.YteanoklaammpiaaDoorZGByt
import Derived.Test.YteanoklaammpiaaDoorZObjL
namespace Go.Proofs.YteanoklaammpiaaDoor
open Go.RowKit
end Go.Proofs.YteanoklaammpiaaDoor
