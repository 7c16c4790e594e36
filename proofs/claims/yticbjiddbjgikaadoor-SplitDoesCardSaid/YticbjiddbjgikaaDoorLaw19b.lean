/- TableWrites. -/
import Derived.Test.YticbjiddbjgikaaDoorLaw19a
namespace Go.Proofs.YticbjiddbjgikaaDoor
open Go.ChangeShapes Go.WideShapes Go.ChangeAt Go.RowKit
set_option linter.unusedVariables false
set_option linter.unusedSimpArgs false
set_option maxRecDepth 10000

attribute [local irreducible] World.setRow World.alloc Blk
end Go.Proofs.YticbjiddbjgikaaDoor
