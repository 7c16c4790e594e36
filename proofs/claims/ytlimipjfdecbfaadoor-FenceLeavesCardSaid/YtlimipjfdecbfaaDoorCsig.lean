/- The contracts of package bits, the rest: signs, multiples, bools. -/
import Derived.Test.YtlimipjfdecbfaaDoorCone
namespace Go.Proofs.YtlimipjfdecbfaaDoor
open Go.ChangeShapes Go.WideShapes Go.ChangeAt Go.RowKit
set_option linter.unusedVariables false

theorem sign_c (x n : Int) (x0 : 0 ≤ x) (x1 : x < 18446744073709551616) (h0 : 1 ≤ n) (h1 : n ≤ 64) (w : World) :
    Calls Tryd.prog 56 #[.int .u64 x, .int .i64 n] w fun e w' => e = .returned (.int .u64 (signI x n)) ∧ w = w' := by
  by_cases hb : getI x (n - 1) 1 = 0
  · have hbb : (getI x (n - 1) 1 == 0) = true := by simpa using hb
    have H := Lib.hid (sign_no x0 x1 h0 h1 hb); clear hb
    go_enter Tryd.func56, Tryd.ntmps56
    go_wp2_with first | (go_at_call 59; refine (low_c _ (by omega) (by omega) _).mono ?_; rintro e w' ⟨rfl, rfl⟩) | (go_at_call 58; refine (get_c _ _ _ (by omega) (by omega) (by omega) (by omega) (by omega) (by omega) _).mono ?_; rintro e w' ⟨rfl, rfl⟩)
    go_ret
    exact ⟨congrArg (fun i => Ending.returned (.int .u64 i)) H.out, rfl⟩
  · have hbb : (getI x (n - 1) 1 == 0) = false := by simpa using hb
    have H := Lib.hid (sign_yes x0 x1 h0 h1 hb); clear hb
    go_enter Tryd.func56, Tryd.ntmps56
    go_wp2_with first | (go_at_call 59; refine (low_c _ (by omega) (by omega) _).mono ?_; rintro e w' ⟨rfl, rfl⟩) | (go_at_call 58; refine (get_c _ _ _ (by omega) (by omega) (by omega) (by omega) (by omega) (by omega) _).mono ?_; rintro e w' ⟨rfl, rfl⟩)
    go_ret
    exact ⟨congrArg (fun i => Ending.returned (.int .u64 i)) H.out, rfl⟩

end Go.Proofs.YtlimipjfdecbfaaDoor
