/- Package pool: marked, freed, Free, Right, Is, Give, Take, New. -/
import Derived.Test.YtngioemeplllhaaDoorCsig
import Derived.Test.YtngioemeplllhaaDoorCtz
import Derived.Test.YtngioemeplllhaaDoorMfour
import Derived.Test.YtngioemeplllhaaDoorBox
import Derived.StillTailTactics
import Derived.IntWalk
namespace Go.Proofs.YtngioemeplllhaaDoor
open Go.ChangeShapes Go.WideShapes Go.ChangeAt Go.RowKit
set_option linter.unusedVariables false
set_option linter.unusedSimpArgs false

theorem setI_bit (F i : Nat) (b : Bool) : setI (F : Int) (i : Int) 1 (if b then 1 else 0) = ((bitN F i b : Nat) : Int) := by
  unfold setI bitN; cases b <;> rfl

/-- the bits with that frame free, too, if it is one of the pool's -/
def freedN (B M F f : Nat) : Nat := if B ≤ f ∧ f < B + M then bitN F (f - B) true else F
theorem freed_in {B M F f : Nat} (h : B ≤ f) (h2 : f < B + M) : freedN B M F f = bitN F (f - B) true := by unfold freedN; rw [if_pos ⟨h, h2⟩]
theorem freed_out {B M F f : Nat} (h : ¬ (B ≤ f ∧ f < B + M)) : freedN B M F f = F := by unfold freedN; rw [if_neg h]
attribute [irreducible] freedN

theorem sub_in {B f : Nat} (h : B ≤ f) (hf : f < 18446744073709551616) : IntKind.u64.wrap ((f : Int) - (B : Int)) = ((f - B : Nat) : Int) := by rw [IntKind.wrap_u64]; omega
theorem sub_out {B f : Nat} (h : f < B) (hB : B ≤ 268435456) : IntKind.u64.wrap ((f : Int) - (B : Int)) = ((18446744073709551616 + f - B : Nat) : Int) := by rw [IntKind.wrap_u64]; omega

end Go.Proofs.YtngioemeplllhaaDoor
