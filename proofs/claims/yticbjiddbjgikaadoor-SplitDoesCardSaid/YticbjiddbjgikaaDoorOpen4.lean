/- A pool that came in: its value. The library's table, as it is laid. -/
import Derived.Test.YticbjiddbjgikaaDoorGpoo
import Derived.Lib.SmallJoins
import Derived.Lib.LaidTab
import Derived.ChangeArms
import Derived.OpenShut
namespace Go.Proofs.YticbjiddbjgikaaDoor
open Go.ChangeShapes Go.WideShapes Go.ChangeAt Go.RowKit Go.Joins
set_option linter.unusedVariables false
set_option maxRecDepth 10000
set_option linter.unusedSimpArgs false
section
variable {H : Type} {enc : TypeId × Value → H}
theorem open_pool {W : World} {b0 : Nat} {v : Value} {d : DataW H} {p : List MemPlace} (hv : Value.okWide Tryd.prog W .any b0 27 v) (h : DataW.Trod enc Tryd.prog W 0 (fun _ => true) true 27 v d p) :
    ∃ (B : Nat) (M : Int) (F : Nat), v = .agg #[.int .u64 (B : Int), .int .i64 M, .int .u64 (F : Int)] ∧ B < 18446744073709551616 ∧ -9223372036854775808 ≤ M ∧ M ≤ 9223372036854775807 ∧ F < 18446744073709551616 := by
  obtain ⟨v0, v1, v2, y0, y1, y2, n, rfl, -, -, h0, h1, h2⟩ := open_agg3 Tryd.underlying27 (by kernel_rfl) (by kernel_rfl) hv h
  obtain ⟨z0, e0, -, w0⟩ := DataW.trod_int Tryd.underlying22 h0
  obtain ⟨z1, e1, -, w1⟩ := DataW.trod_int Tryd.underlying3 h1
  obtain ⟨z2, e2, -, w2⟩ := DataW.trod_int Tryd.underlying22 h2
  have b0 := bounds_u64 w0
  have b1 := bounds_i64 w1
  have b2 := bounds_u64 w2
  simp only [List.cons.injEq, and_true] at e0 e1 e2
  subst e0 e1 e2
  obtain ⟨n0, rfl⟩ := Int.eq_ofNat_of_zero_le (show 0 ≤ z0 by omega)
  obtain ⟨n2, rfl⟩ := Int.eq_ofNat_of_zero_le (show 0 ≤ z2 by omega)
  exact ⟨n0, z1, n2, rfl, by omega, by omega, by omega, by omega⟩
end
theorem tab_cells : Lib.deBruijn64tab.length = 64 := by decide
theorem tab_of_laid {W : World} (h : laidMetH Tryd.prog [("math/bits.deBruijn64tab", Rows.laid_math_bits_deBruijn64tab)] W) : Tab W := by
  have h1 : laidMet Tryd.prog [("math/bits.deBruijn64tab", Lib.tabData .u8 (Lib.deBruijn64tab.map fun (n : Nat) => (n : Int)))] W := by
    have h2 : laidMet Tryd.prog [("math/bits.deBruijn64tab", Rows.laid_math_bits_deBruijn64tab)] W := h
    exact h2
  have h3 := Lib.tabIs_of_head (g := 1) (t := 135) (e := 5) (n := 64) (by kernel_rfl) (by kernel_rfl) Tryd.underlying135 Tryd.underlying5 (by kernel_rfl) (by kernel_rfl) h1
  intro j hj
  have h4 := h3.cell (g := 1) (by kernel_rfl) j (by rw [List.length_map, tab_cells]; exact hj)
  rw [h4]
  congr 2
  simp [List.getD, List.getElem?_map]
  rw [List.getElem?_eq_getElem (by rw [tab_cells]; exact hj)]
  simp
end Go.Proofs.YticbjiddbjgikaaDoor
