/- The document's answers for layer 6 (package atlasref06): the same entries and numbers. -/
import Derived.Test.YtlimipjfdecbfaaDoorCpte
namespace Go.Proofs.YtlimipjfdecbfaaDoor
open Go.ChangeShapes Go.WideShapes Go.ChangeAt Go.RowKit
set_option linter.unusedVariables false
set_option linter.unusedSimpArgs false

theorem link_leaf (p : Pt) : linkB p = (p.v && !leafB p) := by
  unfold linkB leafB; cases p.v <;> cases p.r <;> cases p.x <;> rfl
theorem getP_eq2 {x : Nat} (hx : x < 18446744073709551616) : ptC (getP x) = #[.bool (bitB x 0), .bool (bitB x 1), .bool (bitB x 2), .bool (bitB x 3), .bool (bitB x 4), .bool (bitB x 5), .bool (bitB x 6), .bool (bitB x 7), .int .u64 ((x : Int) / 256 % 4), .int .u64 ((x : Int) / 1024 % 17592186044416), .int .u64 ((x : Int) / 18014398509481984)] := by
  rw [getP_eq hx]
  have g0 : getI (x : Int) 8 2 = ((x / 256 % 4 : Nat) : Int) := (getI_nat x 8 2).trans (by rw [get8])
  have g1 : getI (x : Int) 10 44 = ((x / 1024 % 17592186044416 : Nat) : Int) := (getI_nat x 10 44).trans (by rw [get10])
  have g2 : getI (x : Int) 54 10 = ((x / 18014398509481984 : Nat) : Int) := (getI_nat x 54 10).trans (by rw [get54 hx])
  rw [g0, g1, g2]
  rfl
end Go.Proofs.YtlimipjfdecbfaaDoor
