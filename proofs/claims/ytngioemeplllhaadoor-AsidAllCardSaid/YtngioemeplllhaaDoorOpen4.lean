/- A pool that came in: its value. The library's table, as it is laid. -/
import Derived.Test.YtngioemeplllhaaDoorCtz
import Derived.Lib.SmallJoins
import Derived.Lib.LaidTab
import Derived.ChangeArms
import Derived.OpenShut
namespace Go.Proofs.YtngioemeplllhaaDoor
open Go.ChangeShapes Go.WideShapes Go.ChangeAt Go.RowKit Go.Joins
set_option linter.unusedVariables false
set_option maxRecDepth 10000
set_option linter.unusedSimpArgs false
section
variable {H : Type} {enc : TypeId × Value → H}
end
theorem tab_cells : Lib.deBruijn64tab.length = 64 := by decide
theorem tab_of_laid {W : World} (h : laidMetH Tryd.prog [("math/bits.deBruijn64tab", Rows.laid_math_bits_deBruijn64tab)] W) : Tab W := by
  have h1 : laidMet Tryd.prog [("math/bits.deBruijn64tab", Lib.tabData .u8 (Lib.deBruijn64tab.map fun (n : Nat) => (n : Int)))] W := by
    have h2 : laidMet Tryd.prog [("math/bits.deBruijn64tab", Rows.laid_math_bits_deBruijn64tab)] W := h
    exact h2
  have h3 := Lib.tabIs_of_head (g := 0) (t := 54) (e := 5) (n := 64) (by kernel_rfl) (by kernel_rfl) Tryd.underlying54 Tryd.underlying5 (by kernel_rfl) (by kernel_rfl) h1
  intro j hj
  have h4 := h3.cell (g := 0) (by kernel_rfl) j (by rw [List.length_map, tab_cells]; exact hj)
  rw [h4]
  congr 2
  simp [List.getD, List.getElem?_map]
  rw [List.getElem?_eq_getElem (by rw [tab_cells]; exact hj)]
  simp
end Go.Proofs.YtngioemeplllhaaDoor
