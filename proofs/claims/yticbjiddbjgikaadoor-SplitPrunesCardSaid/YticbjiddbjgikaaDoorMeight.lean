/- Who may do what (package perm), as plain functions on permissions and ways, and what follows of them. -/
import Derived.Test.YticbjiddbjgikaaDoorGst
namespace Go.Proofs.YticbjiddbjgikaaDoor
set_option linter.unusedVariables false
set_option linter.unusedSimpArgs false

/-- the page is open to the privilege -/
def pmAd (p : Pm) (w : Wy) : Bool := if w.pv = 0 then p.u else !p.u || (!decide (w.kd = 0) && w.su)
/-- what the kind asks -/
def pmAsk (p : Pm) (w : Wy) : Bool := if w.kd = 0 then p.x else if w.kd = 1 then p.r || p.x && w.mx else p.w
/-- a page of p permits w -/
def pmAl (p : Pm) (w : Wy) : Bool := pmAd p w && pmAsk p w
attribute [irreducible] pmAd pmAsk pmAl

end Go.Proofs.YticbjiddbjgikaaDoor
