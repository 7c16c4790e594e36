/- Causes as numbers: of nine places the numbers, the sorts, the kinds and the names. No program. -/
import Derived.Test.YticbjiddbjgikaaDoorProg
import Derived.Lib.Hide
namespace Go.Proofs.YticbjiddbjgikaaDoor
set_option linter.unusedVariables false
set_option linter.unusedSimpArgs false

theorem nine {q : Nat} (h : q < 9) : q = 0 ∨ q = 1 ∨ q = 2 ∨ q = 3 ∨ q = 4 ∨ q = 5 ∨ q = 6 ∨ q = 7 ∨ q = 8 := by omega
end Go.Proofs.YticbjiddbjgikaaDoor
