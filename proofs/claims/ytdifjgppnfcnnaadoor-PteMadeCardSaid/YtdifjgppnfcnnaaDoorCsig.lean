/- The contracts of package bits, the rest: signs, multiples, bools. -/
import Derived.Test.YtdifjgppnfcnnaaDoorCone
namespace Go.Proofs.YtdifjgppnfcnnaaDoor
open Go.ChangeShapes Go.WideShapes Go.ChangeAt Go.RowKit
set_option linter.unusedVariables false

theorem even_c (x b : Int) (x0 : 0 ≤ x) (x1 : x < 18446744073709551616) (b0 : 0 ≤ b) (b1 : b < 18446744073709551616) (w : World) :
    Calls Tryd.prog 31 #[.int .u64 x, .int .u64 b] w fun e w' => e = .returned (.bool (evenB x b)) ∧ w = w' := by
  by_cases hb : b = 0
  · subst hb
    go_enter Tryd.func31, Tryd.ntmps31
    go_wp2
    go_ret
    exact ⟨rfl, rfl⟩
  · have hbb : (b == 0) = false := by simpa using hb
    have H : Hid (evenB x b = (x % b == 0)) := Lib.hid (by unfold evenB; rw [if_neg hb])
    go_enter Tryd.func31, Tryd.ntmps31
    go_wp2
    go_ret
    exact ⟨by rw [H.out]; rfl, rfl⟩

theorem bool_c (b : Bool) (w : World) :
    Calls Tryd.prog 33 #[.bool b] w fun e w' => e = .returned (.int .u64 (if b then 1 else 0)) ∧ w = w' := by
  cases b
  all_goals
    go_enter Tryd.func33, Tryd.ntmps33
    go_wp2
    go_ret
    exact ⟨rfl, rfl⟩
end Go.Proofs.YtdifjgppnfcnnaaDoor
