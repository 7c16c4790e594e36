/- The document's answers for layer 5 (package atlasref05): the same numbers as package va's. -/
import Derived.Test.YtlhoedpencmikaaDoorCfive
import Derived.Test.YtlhoedpencmikaaDoorRone
import Derived.Test.YtlhoedpencmikaaDoorGagg
namespace Go.Proofs.YtlhoedpencmikaaDoor
open Go.ChangeShapes Go.WideShapes Go.ChangeAt Go.RowKit
set_option linter.unusedVariables false
set_option maxRecDepth 10000
set_option linter.unusedSimpArgs false

theorem rsize_0 (w : World) :
    Calls Tryd.prog 85 #[.int .i64 0] w fun e w' => e = .returned (.int .u64 4096) ∧ w = w' := by
  go_enter Tryd.func85, Tryd.ntmps85
  go_wp2
  go_loop [3, 4] (fun a b => a = .int .u64 4096 ∧ b = .int .i64 0) (fun _ b => 3 - (intOf b).toNat)
  case atStart => exact ⟨rfl, rfl⟩
  case round =>
    obtain ⟨rfl, rfl⟩ := hrel
    go_wp2
    go_ret
    exact ⟨rfl, rfl⟩
theorem rsize_1 (w : World) :
    Calls Tryd.prog 85 #[.int .i64 1] w fun e w' => e = .returned (.int .u64 2097152) ∧ w = w' := by
  go_enter Tryd.func85, Tryd.ntmps85
  go_wp2
  go_loop [3, 4] (fun a b => (a = .int .u64 4096 ∧ b = .int .i64 0) ∨ (a = .int .u64 2097152 ∧ b = .int .i64 1)) (fun _ b => 3 - (intOf b).toNat)
  case atStart => exact .inl ⟨rfl, rfl⟩
  case round =>
    rcases hrel with ⟨rfl, rfl⟩ | ⟨rfl, rfl⟩
    · go_wp2
      go_round
      case rel => exact .inr ⟨by go_num, by go_num⟩
      case measure => simp [intOf]
    · go_wp2
      go_ret
      exact ⟨rfl, rfl⟩
theorem rsize_2 (w : World) :
    Calls Tryd.prog 85 #[.int .i64 2] w fun e w' => e = .returned (.int .u64 1073741824) ∧ w = w' := by
  go_enter Tryd.func85, Tryd.ntmps85
  go_wp2
  go_loop [3, 4] (fun a b => (a = .int .u64 4096 ∧ b = .int .i64 0) ∨ (a = .int .u64 2097152 ∧ b = .int .i64 1) ∨ (a = .int .u64 1073741824 ∧ b = .int .i64 2)) (fun _ b => 3 - (intOf b).toNat)
  case atStart => exact .inl ⟨rfl, rfl⟩
  case round =>
    rcases hrel with ⟨rfl, rfl⟩ | ⟨rfl, rfl⟩ | ⟨rfl, rfl⟩
    · go_wp2
      go_round
      case rel => exact .inr (.inl ⟨by go_num, by go_num⟩)
      case measure => simp [intOf]
    · go_wp2
      go_round
      case rel => exact .inr (.inr ⟨by go_num, by go_num⟩)
      case measure => simp [intOf]
    · go_wp2
      go_ret
      exact ⟨rfl, rfl⟩
theorem rsize5_c (l : Int) (l0 : 0 ≤ l) (l2 : l ≤ 2) (w : World) :
    Calls Tryd.prog 85 #[.int .i64 l] w fun e w' => e = .returned (.int .u64 (sizI l)) ∧ w = w' := by
  rcases level_lt l0 l2 with rfl | rfl | rfl
  · rw [siz0]; exact rsize_0 w
  · rw [siz1]; exact rsize_1 w
  · rw [siz2]; exact rsize_2 w
theorem vaB_eq (a : Int) : vaB a = (decide (a < 274877906944) || decide (18446743798831644672 ≤ a)) := by unfold vaB; rfl
end Go.Proofs.YtlhoedpencmikaaDoor
