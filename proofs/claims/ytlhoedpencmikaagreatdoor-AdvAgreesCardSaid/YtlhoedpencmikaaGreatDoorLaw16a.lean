/- Layer 16's laws: fits. -/
import Derived.Test.YtlhoedpencmikaaGreatDoorRhart
import Derived.Test.YtlhoedpencmikaaGreatDoorGrme
import Derived.Test.YtlhoedpencmikaaGreatDoorMem
namespace Go.Proofs.YtlhoedpencmikaaGreatDoor
open Go.ChangeShapes Go.WideShapes Go.ChangeAt Go.RowKit
set_option linter.unusedVariables false
set_option linter.unusedSimpArgs false
set_option maxRecDepth 10000

/-- a right hart and a right memory of few cells -/
def fitH (h : Hr) (S : Nat) (M : List (Nat × Nat)) : Bool := decide (h.L.length ≤ 16) && (rightH h && (decide (M.length ≤ 300) && decide (RightM S M)))
theorem fit_h {h : Hr} {S : Nat} {M : List (Nat × Nat)} (hf : fitH h S M = true) : h.L.length ≤ 16 ∧ rightH h = true ∧ M.length ≤ 300 ∧ RightM S M := by
  unfold fitH at hf
  simp only [Bool.and_eq_true, decide_eq_true_eq] at hf
  exact hf
theorem fit_m {w : World} {h : Hr} {S : Nat} {B : Option Addr} {M : List (Nat × Nat)} {d : Nat} (hf : fitH h S M = true) (hM : IsCells M) (hm : RowL w B M d) : Mem w S B M d := by
  obtain ⟨-, -, h3, h4⟩ := fit_h hf
  have h2 : SizeOk S := by have := h4; unfold RightM at this; exact this.1
  exact ⟨hm, h4.rl hM, h2, by omega⟩
attribute [irreducible] fitH
end Go.Proofs.YtlhoedpencmikaaGreatDoor
