/- The document's answers for layer 17 (atlasref17): Pick, Evict, Bring. -/
import Derived.Test.YtlhoedpencmikaaDoorLaw16b
import Derived.Test.YtlhoedpencmikaaDoorGadv
import Derived.Test.YtlhoedpencmikaaDoorGrten
import Derived.Test.YtlhoedpencmikaaDoorGrtwel
import Derived.Test.YtlhoedpencmikaaDoorGrtlb
namespace Go.Proofs.YtlhoedpencmikaaDoor
open Go.ChangeShapes Go.WideShapes Go.ChangeAt Go.RowKit
set_option linter.unusedVariables false
set_option linter.unusedSimpArgs false
set_option maxRecDepth 10000

/-- what Evict and Pick tell beside the hart -/
def evG (h : Hr) (s w : Int) : Int := if evB h s w then 0 else 1
def piG (w : Int) : Int := if piB w then 0 else 1
theorem evH_eq (h : Hr) (s w : Int) : evH h s w = if evB h s w then { h with L := dropT h.L s.toNat w.toNat } else h := by unfold evH; rfl
theorem piH_eq (h : Hr) (w : Int) : piH h w = if piB w then { h with vi := w } else h := by unfold piH; rfl
theorem piB_eq (w : Int) : piB w = decide (0 ≤ w ∧ w ≤ 3) := by unfold piB; rfl
theorem evB_eq (h : Hr) (s w : Int) : evB h s w = decide (0 ≤ s ∧ s < (h.L.length : Int) ∧ 0 ≤ w ∧ w ≤ 3) := by unfold evB; rfl
/-- what Evict answers -/
def EvT (h : Hr) (s v : Int) (w : World) (r : Ending) (w' : World) : Prop := ∃ A c, r = .returned (.tuple #[.agg (hrC ⟨A, c, evH h s v⟩), .int .i64 (evG h s v)]) ∧ RowV KS w' A (evH h s v).L c ∧ Ext w w'
/-- what Bring answers -/
def BrT (B0 : Option Addr) (S : Nat) (M : List (Nat × Nat)) (h : Hr) (a : Nat) (w : World) (r : Ending) (w' : World) : Prop :=
  ∃ A B c d, r = .returned (.tuple #[.agg (hrC ⟨A, c, brH S M h a⟩), .agg #[.int .u64 (S : Int), .slice B (brM S M h a).length d]]) ∧ RowV KS w' A (brH S M h a).L c ∧ Mem w' S B (brM S M h a) d ∧ Ext w w' ∧ ∀ lo hi, hi ≤ w.heap.size → Out lo hi B0 M.length → Out lo hi B (brM S M h a).length
attribute [local irreducible] World.setRow World.alloc Blk
end Go.Proofs.YtlhoedpencmikaaDoor
