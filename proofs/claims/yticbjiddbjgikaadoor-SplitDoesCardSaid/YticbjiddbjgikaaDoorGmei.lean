/- Who may do what (package perm), as plain functions on permissions and ways, and what follows of them. -/
import Derived.Test.YticbjiddbjgikaaDoorGst
import Derived.Test.YticbjiddbjgikaaDoorProg
import Derived.Lib.Hide
namespace Go.Proofs.YticbjiddbjgikaaDoor
set_option linter.unusedVariables false
set_option linter.unusedSimpArgs false

/-- the page is open to the privilege -/
def pmAd (p : Pm) (w : Wy) : Bool := if w.pv = 0 then p.u else !p.u || (!decide (w.kd = 0) && w.su)
/-- what the kind asks -/
def pmAsk (p : Pm) (w : Wy) : Bool := if w.kd = 0 then p.x else if w.kd = 1 then p.r || p.x && w.mx else p.w
/-- a page of p permits w -/
def pmAl (p : Pm) (w : Wy) : Bool := pmAd p w && pmAsk p w
attribute [irreducible] pmAd pmAsk pmAl

end Go.Proofs.YticbjiddbjgikaaDoor
/- Causes as numbers: of nine places the numbers, the sorts, the kinds and the names. No program. -/
namespace Go.Proofs.YticbjiddbjgikaaDoor
set_option linter.unusedVariables false
set_option linter.unusedSimpArgs false

theorem nine {q : Nat} (h : q < 9) : q = 0 ∨ q = 1 ∨ q = 2 ∨ q = 3 ∨ q = 4 ∨ q = 5 ∨ q = 6 ∨ q = 7 ∨ q = 8 := by omega
end Go.Proofs.YticbjiddbjgikaaDoor
