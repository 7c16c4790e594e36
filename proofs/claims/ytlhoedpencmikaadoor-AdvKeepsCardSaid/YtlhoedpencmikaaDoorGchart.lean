/- Package hart: Way, Right. -/
import Derived.Test.YtlhoedpencmikaaDoorGax
import Derived.Test.YtlhoedpencmikaaDoorRhart
import Derived.Test.YtlhoedpencmikaaDoorGctlb
import Derived.Test.YtlhoedpencmikaaDoorGeight
import Derived.Test.YtlhoedpencmikaaDoorGseven
import Derived.Test.YtlhoedpencmikaaDoorGcten
namespace Go.Proofs.YtlhoedpencmikaaDoor
open Go.ChangeShapes Go.WideShapes Go.ChangeAt Go.RowKit
set_option linter.unusedVariables false
set_option linter.unusedSimpArgs false
set_option maxRecDepth 10000

/-- the tables that the program lays: va's sizes, plru's touches, cause's causes -/
structure Layh (w : World) : Prop where
  s : Lays w
  t : Lay w
theorem Layh.ext {w w' : World} (h : Layh w) (hE : Ext w w') : Layh w' := ⟨h.s.ext hE, h.t.ext hE⟩
theorem way_lit (h : Hr) (k : Nat) : wayH h k = ⟨(k : Int), h.pr, h.su, h.mx⟩ := by unfold wayH; rfl
theorem way_c (h : Hr) (k : Nat) : wyC (wayH h k) = #[.int .i64 (k : Int), .int .i64 h.pr, .bool h.su, .bool h.mx] := by rw [way_lit, wyC_def]
end Go.Proofs.YtlhoedpencmikaaDoor
