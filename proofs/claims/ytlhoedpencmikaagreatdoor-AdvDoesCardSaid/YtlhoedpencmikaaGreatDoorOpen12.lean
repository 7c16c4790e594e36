/- Leaves and entries of the buffer (api.Leaf, api.Entry), as they come in. -/
import Derived.Test.YtlhoedpencmikaaGreatDoorPlain
import Derived.Test.YtlhoedpencmikaaGreatDoorGst
namespace Go.Proofs.YtlhoedpencmikaaGreatDoor
open Go.ChangeShapes Go.WideShapes Go.ChangeAt Go.RowKit Go.Joins Go.Deep
set_option linter.unusedVariables false
set_option linter.unusedSimpArgs false
set_option maxRecDepth 10000

end Go.Proofs.YtlhoedpencmikaaGreatDoor
