/- The document's answers for layer 5 (package atlasref05): the same numbers as package va's. -/
import Derived.Test.YticbjiddbjgikaaDoorGfive
import Derived.Test.YticbjiddbjgikaaDoorRone
import Derived.Test.YticbjiddbjgikaaDoorGagg
namespace Go.Proofs.YticbjiddbjgikaaDoor
open Go.ChangeShapes Go.WideShapes Go.ChangeAt Go.RowKit
set_option linter.unusedVariables false
set_option maxRecDepth 10000
set_option linter.unusedSimpArgs false

theorem rsize_0 (w : World) :
    Calls Tryd.prog 44 #[.int .i64 0] w fun e w' => e = .returned (.int .u64 4096) ∧ w = w' := by
  go_enter Tryd.func44, Tryd.ntmps44
  go_wp2
  go_loop [3, 4] (fun a b => a = .int .u64 4096 ∧ b = .int .i64 0) (fun _ b => 3 - (intOf b).toNat)
  case atStart => exact ⟨rfl, rfl⟩
  case round =>
    obtain ⟨rfl, rfl⟩ := hrel
    go_wp2
    go_ret
    exact ⟨rfl, rfl⟩
theorem rsize_1 (w : World) :
    Calls Tryd.prog 44 #[.int .i64 1] w fun e w' => e = .returned (.int .u64 2097152) ∧ w = w' := by
  go_enter Tryd.func44, Tryd.ntmps44
  go_wp2
  go_loop [3, 4] (fun a b => (a = .int .u64 4096 ∧ b = .int .i64 0) ∨ (a = .int .u64 2097152 ∧ b = .int .i64 1)) (fun _ b => 3 - (intOf b).toNat)
  case atStart => exact .inl ⟨rfl, rfl⟩
  case round =>
    rcases hrel with ⟨rfl, rfl⟩ | ⟨rfl, rfl⟩
    · go_wp2
      go_round
      case rel => exact .inr ⟨by go_num, by go_num⟩
      case measure => simp [intOf]
    · go_wp2
      go_ret
      exact ⟨rfl, rfl⟩
theorem rsize_2 (w : World) :
    Calls Tryd.prog 44 #[.int .i64 2] w fun e w' => e = .returned (.int .u64 1073741824) ∧ w = w' := by
  go_enter Tryd.func44, Tryd.ntmps44
  go_wp2
  go_loop [3, 4] (fun a b => (a = .int .u64 4096 ∧ b = .int .i64 0) ∨ (a = .int .u64 2097152 ∧ b = .int .i64 1) ∨ (a = .int .u64 1073741824 ∧ b = .int .i64 2)) (fun _ b => 3 - (intOf b).toNat)
  case atStart => exact .inl ⟨rfl, rfl⟩
  case round =>
    rcases hrel with ⟨rfl, rfl⟩ | ⟨rfl, rfl⟩ | ⟨rfl, rfl⟩
    · go_wp2
      go_round
      case rel => exact .inr (.inl ⟨by go_num, by go_num⟩)
      case measure => simp [intOf]
    · go_wp2
      go_round
      case rel => exact .inr (.inr ⟨by go_num, by go_num⟩)
      case measure => simp [intOf]
    · go_wp2
      go_ret
      exact ⟨rfl, rfl⟩
theorem rsize5_c (l : Int) (l0 : 0 ≤ l) (l2 : l ≤ 2) (w : World) :
    Calls Tryd.prog 44 #[.int .i64 l] w fun e w' => e = .returned (.int .u64 (sizI l)) ∧ w = w' := by
  rcases level_lt l0 l2 with rfl | rfl | rfl
  · rw [siz0]; exact rsize_0 w
  · rw [siz1]; exact rsize_1 w
  · rw [siz2]; exact rsize_2 w
theorem vaB_eq (a : Int) : vaB a = (decide (a < 274877906944) || decide (18446743798831644672 ≤ a)) := by unfold vaB; rfl
theorem ris5_c (a : Int) (a0 : 0 ≤ a) (a1 : a < 18446744073709551616) (w : World) :
    Calls Tryd.prog 9 #[.int .u64 a] w fun e w' => e = .returned (.bool (vaB a)) ∧ w = w' := by
  have H := Lib.hid (vaB_eq a)
  by_cases h : a < 274877906944
  · go_enter Tryd.func9, Tryd.ntmps9
    go_wp2
    go_ret
    exact ⟨by rw [H.out]; simp [h], rfl⟩
  · by_cases h2 : 18446743798831644672 ≤ a
    · go_enter Tryd.func9, Tryd.ntmps9
      go_wp2
      go_ret
      exact ⟨by rw [H.out]; simp [h2], rfl⟩
    · go_enter Tryd.func9, Tryd.ntmps9
      go_wp2
      go_ret
      exact ⟨by rw [H.out]; simp [h, h2], rfl⟩
theorem rindex_l (a l s : Int) (a0 : 0 ≤ a) (a1 : a < 18446744073709551616) (w : World) (hs : s = 4096 ∨ s = 2097152 ∨ s = 1073741824) (hz : ∀ w, Calls Tryd.prog 44 #[.int .i64 l] w fun e w' => e = .returned (.int .u64 s) ∧ w = w') :
    Calls Tryd.prog 30 #[.int .u64 a, .int .i64 l] w fun e w' => e = .returned (.int .i64 (a / s % 512)) ∧ w = w' := by
  rcases hs with rfl | rfl | rfl
  all_goals
    go_enter Tryd.func30, Tryd.ntmps30
    go_wp2_with (go_at_call 44; refine (hz _).mono ?_; rintro e w' ⟨rfl, rfl⟩)
    go_ret
    exact ⟨rfl, rfl⟩
theorem rindex5_c (a l : Int) (a0 : 0 ≤ a) (a1 : a < 18446744073709551616) (l0 : 0 ≤ l) (l2 : l ≤ 2) (w : World) :
    Calls Tryd.prog 30 #[.int .u64 a, .int .i64 l] w fun e w' => e = .returned (.int .i64 (idxI a l)) ∧ w = w' := by
  unfold idxI
  exact rindex_l a l _ a0 a1 w (by rcases level_lt l0 l2 with rfl | rfl | rfl; exact .inl siz0; exact .inr (.inl siz1); exact .inr (.inr siz2)) (fun w => rsize5_c l l0 l2 w)
theorem rnumber5_c (a : Int) (a0 : 0 ≤ a) (a1 : a < 18446744073709551616) (w : World) :
    Calls Tryd.prog 47 #[.int .u64 a] w fun e w' => e = .returned (.int .u64 (numI a)) ∧ w = w' := by
  unfold numI
  go_enter Tryd.func47, Tryd.ntmps47
  go_wp2
  go_ret
  exact ⟨rfl, rfl⟩
theorem rof5_c (n : Int) (n0 : 0 ≤ n) (n1 : n < 18446744073709551616) (w : World) :
    Calls Tryd.prog 46 #[.int .u64 n] w fun e w' => e = .returned (.int .u64 (ofI n)) ∧ Ext w w' := by
  have H := Lib.hid ((rsign_eq (x := n % 134217728 * 4096) (n := 39) (by omega) (by omega) (by omega) (by omega)).trans (rof_eq n0))
  go_enter Tryd.func46, Tryd.ntmps46
  go_wp2_with (go_at_call 72; refine (rsign_c _ _ (by omega) (by omega) (by omega) (by omega) _).mono ?_; rintro e w' ⟨rfl, hE⟩)
  go_ret
  exact ⟨congrArg (fun b => Ending.returned (.int .u64 b)) H.out, hE⟩
end Go.Proofs.YticbjiddbjgikaaDoor
