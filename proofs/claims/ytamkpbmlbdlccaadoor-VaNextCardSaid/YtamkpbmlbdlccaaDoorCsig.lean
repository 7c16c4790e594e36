/- The contracts of package bits, the rest: signs, multiples, bools. -/
import Derived.Test.YtamkpbmlbdlccaaDoorCone
namespace Go.Proofs.YtamkpbmlbdlccaaDoor
open Go.ChangeShapes Go.WideShapes Go.ChangeAt Go.RowKit
set_option linter.unusedVariables false

theorem sign_c (x n : Int) (x0 : 0 ≤ x) (x1 : x < 18446744073709551616) (h0 : 1 ≤ n) (h1 : n ≤ 64) (w : World) :
    Calls Tryd.prog 24 #[.int .u64 x, .int .i64 n] w fun e w' => e = .returned (.int .u64 (signI x n)) ∧ w = w' := by
  by_cases hb : getI x (n - 1) 1 = 0
  · have hbb : (getI x (n - 1) 1 == 0) = true := by simpa using hb
    have H := Lib.hid (sign_no x0 x1 h0 h1 hb); clear hb
    go_enter Tryd.func24, Tryd.ntmps24
    go_wp2_with first | (go_at_call 29; refine (low_c _ (by omega) (by omega) _).mono ?_; rintro e w' ⟨rfl, rfl⟩) | (go_at_call 25; refine (get_c _ _ _ (by omega) (by omega) (by omega) (by omega) (by omega) (by omega) _).mono ?_; rintro e w' ⟨rfl, rfl⟩)
    go_ret
    exact ⟨congrArg (fun i => Ending.returned (.int .u64 i)) H.out, rfl⟩
  · have hbb : (getI x (n - 1) 1 == 0) = false := by simpa using hb
    have H := Lib.hid (sign_yes x0 x1 h0 h1 hb); clear hb
    go_enter Tryd.func24, Tryd.ntmps24
    go_wp2_with first | (go_at_call 29; refine (low_c _ (by omega) (by omega) _).mono ?_; rintro e w' ⟨rfl, rfl⟩) | (go_at_call 25; refine (get_c _ _ _ (by omega) (by omega) (by omega) (by omega) (by omega) (by omega) _).mono ?_; rintro e w' ⟨rfl, rfl⟩)
    go_ret
    exact ⟨congrArg (fun i => Ending.returned (.int .u64 i)) H.out, rfl⟩

theorem even_c (x b : Int) (x0 : 0 ≤ x) (x1 : x < 18446744073709551616) (b0 : 0 ≤ b) (b1 : b < 18446744073709551616) (w : World) :
    Calls Tryd.prog 28 #[.int .u64 x, .int .u64 b] w fun e w' => e = .returned (.bool (evenB x b)) ∧ w = w' := by
  by_cases hb : b = 0
  · subst hb
    go_enter Tryd.func28, Tryd.ntmps28
    go_wp2
    go_ret
    exact ⟨rfl, rfl⟩
  · have hbb : (b == 0) = false := by simpa using hb
    have H : Hid (evenB x b = (x % b == 0)) := Lib.hid (by unfold evenB; rw [if_neg hb])
    go_enter Tryd.func28, Tryd.ntmps28
    go_wp2
    go_ret
    exact ⟨by rw [H.out]; rfl, rfl⟩

end Go.Proofs.YtamkpbmlbdlccaaDoor
