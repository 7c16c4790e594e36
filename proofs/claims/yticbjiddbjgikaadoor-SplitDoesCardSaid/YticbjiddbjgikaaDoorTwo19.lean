/- Both laid tables of a stage-19 row. -/
import Derived.Test.YticbjiddbjgikaaDoorGfive
import Derived.Test.YticbjiddbjgikaaDoorOpen4
namespace Go.Proofs.YticbjiddbjgikaaDoor
open Go.ChangeShapes Go.WideShapes Go.ChangeAt Go.RowKit
set_option linter.unusedVariables false
set_option maxRecDepth 10000
theorem laid_tail {P : Program} {W : World} {x : String × DataW Unit} {l : List (String × DataW Unit)} (h : laidMet P (x :: l) W) : laidMet P l W := by
  obtain ⟨ps, ⟨g, t, cs, fuel, p, q, -, -, -, -, hq, e⟩, hn, hr⟩ := h
  subst e
  exact ⟨q, hq, (List.nodup_append.1 hn).2.1, fun b off hb => hr b off (List.mem_append_right _ hb)⟩
theorem laid_head {P : Program} {W : World} {x : String × DataW Unit} {l : List (String × DataW Unit)} (h : laidMet P (x :: l) W) : laidMet P [x] W := by
  obtain ⟨ps, ⟨g, t, cs, fuel, p, q, h1, h2, h3, h4, -, e⟩, hn, hr⟩ := h
  subst e
  refine ⟨MemPlace.row ⟨g, 0, none⟩ cs.size ++ p ++ [], ⟨g, t, cs, fuel, p, [], h1, h2, h3, h4, rfl, rfl⟩, ?_, fun b off hb => hr b off (List.mem_append_left _ (by rwa [List.append_nil] at hb))⟩
  rw [List.append_nil]
  exact (List.nodup_append.1 hn).1
theorem two_of_laid {W : World} (h : laidMetH Tryd.prog [("atlas/va.sizes", Rows.laid_atlas_va_sizes), ("math/bits.deBruijn64tab", Rows.laid_math_bits_deBruijn64tab)] W) : Tab W ∧ Siz W := by
  have h2 : laidMet Tryd.prog [("atlas/va.sizes", Rows.laid_atlas_va_sizes), ("math/bits.deBruijn64tab", Rows.laid_math_bits_deBruijn64tab)] W := h
  refine ⟨tab_of_laid ?_, siz_of_laid ?_⟩
  · show laidMet Tryd.prog [("math/bits.deBruijn64tab", Rows.laid_math_bits_deBruijn64tab)] W
    exact laid_tail h2
  · show laidMet Tryd.prog [("atlas/va.sizes", Rows.laid_atlas_va_sizes)] W
    exact laid_head h2
end Go.Proofs.YticbjiddbjgikaaDoor
