/- The document's answers for walks (atlasref10): Look, down. -/
import Derived.Test.YtlhoedpencmikaaDoorGcten
import Derived.Test.YtlhoedpencmikaaDoorRfive
import Derived.Test.YtlhoedpencmikaaDoorGrsix
import Derived.Test.YtlhoedpencmikaaDoorGnine
import Derived.Test.YtlhoedpencmikaaDoorGeight
import Derived.IntWalk
namespace Go.Proofs.YtlhoedpencmikaaDoor
open Go.ChangeShapes Go.WideShapes Go.ChangeAt Go.RowKit
set_option linter.unusedVariables false
set_option linter.unusedSimpArgs false
set_option maxRecDepth 10000

end Go.Proofs.YtlhoedpencmikaaDoor
/- The document's answers for walks (atlasref10): Look, Mark; Physical of both. -/
namespace Go.Proofs.YtlhoedpencmikaaDoor
open Go.ChangeShapes Go.WideShapes Go.ChangeAt Go.RowKit
set_option linter.unusedVariables false
set_option linter.unusedSimpArgs false
set_option maxRecDepth 10000

theorem lfC_set8 (l : Lf) (b : Bool) : (lfC l).setIfInBounds 8 (.bool b) = lfC { l with pt := { l.pt with a := b } } := by simp only [lfC_eq, ptC_eq]; kernel_rfl
theorem lfC_set9 (l : Lf) (b : Bool) : (lfC l).setIfInBounds 9 (.bool b) = lfC { l with pt := { l.pt with d := b } } := by simp only [lfC_eq, ptC_eq]; kernel_rfl
end Go.Proofs.YtlhoedpencmikaaDoor
/- The document's answers for walks (atlasref10): Walk; Physical of both. -/
namespace Go.Proofs.YtlhoedpencmikaaDoor
open Go.ChangeShapes Go.WideShapes Go.ChangeAt Go.RowKit
set_option linter.unusedVariables false
set_option linter.unusedSimpArgs false
set_option maxRecDepth 10000

theorem leaf_d {S : Nat} {L : List (Nat × Nat)} {f : Lf} (h : LeafOf S L f) : f.pt.d = (entN L f.at').d := by rw [h.pt]; unfold globP; rfl
/-! Physical -/
theorem ptP_9 (l : Lf) : (lfC l)[11]? = some (.int .u64 (l.pt.pp : Int)) := by simp only [lfC_eq, ptC_eq]; rfl
/-- a leaf's address -/
def physI (l : Lf) (a : Nat) : Int := (l.pt.pp : Int) * 4096 + offI (a : Int) l.lv
theorem phys_lt {l : Lf} {a : Nat} (hp : l.pt.pp < 17592186044416) (h0 : 0 ≤ l.lv) (h2 : l.lv ≤ 2) : 0 ≤ physI l a ∧ physI l a < 144115188075855872 := by
  have ho := off_lt (a : Int) l.lv
  have hs : sizI l.lv ≤ 1073741824 := (siz_lt h0 h2).2
  unfold physI; omega
end Go.Proofs.YtlhoedpencmikaaDoor
