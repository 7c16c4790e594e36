/- Package plru, and the document's trees (atlasref11): what each function answers. What a touch does lies in the package's variable. -/
import Derived.Test.YtlimipjfdecbfaaDoorRows
import Derived.Test.YtlimipjfdecbfaaDoorLaid
import Derived.Test.YtlimipjfdecbfaaDoorMelev
import Derived.Test.YtlimipjfdecbfaaDoorGrow
import Derived.ChangeOld
import Derived.WalkKit
import Derived.ProofKit
import Derived.OpenShut
namespace Go.Proofs.YtlimipjfdecbfaaDoor
open Go.ChangeShapes Go.WideShapes Go.ChangeAt Go.RowKit
set_option linter.unusedVariables false
set_option linter.unusedSimpArgs false
set_option maxRecDepth 10000

def touC : Array Value := #[.int .u8 3, .int .u8 3, .int .u8 3, .int .u8 1, .int .u8 5, .int .u8 4, .int .u8 5, .int .u8 0]
theorem rvic_c (t : Nat) (h : t < 8) (w : World) :
    Calls Tryd.prog 50 #[.int .u8 (t : Int)] w fun e w' => e = .returned (.int .i64 ((viN t : Nat) : Int)) ∧ w' = w := by
  obtain ⟨v0, v1, v2, v3, v4, v5, v6, v7⟩ := vi_tab
  rcases eight h with rfl | rfl | rfl | rfl | rfl | rfl | rfl | rfl
  all_goals
    simp only [v0, v1, v2, v3, v4, v5, v6, v7]
    clear v0 v1 v2 v3 v4 v5 v6 v7 h
    go_enter Tryd.func50, Tryd.ntmps50
    go_wp2
    go_ret
    exact ⟨rfl, rfl⟩
set_option maxHeartbeats 2000000 in
theorem rtou_c (t v : Nat) (h : t < 8) (hv : v < 4) (w : World) :
    Calls Tryd.prog 55 #[.int .u8 (t : Int), .int .i64 (v : Int)] w fun e w' => e = .returned (.int .u8 ((toN t v : Nat) : Int)) ∧ w' = w := by
  rcases four hv with rfl | rfl | rfl | rfl
  · obtain ⟨v0, v1, v2, v3, v4, v5, v6, v7⟩ := to_tab0
    rcases eight h with rfl | rfl | rfl | rfl | rfl | rfl | rfl | rfl
    all_goals
      simp only [v0, v1, v2, v3, v4, v5, v6, v7]
      clear v0 v1 v2 v3 v4 v5 v6 v7 h hv
      go_enter Tryd.func55, Tryd.ntmps55
      go_wp2
      go_ret
      exact ⟨rfl, rfl⟩
  · obtain ⟨v0, v1, v2, v3, v4, v5, v6, v7⟩ := to_tab1
    rcases eight h with rfl | rfl | rfl | rfl | rfl | rfl | rfl | rfl
    all_goals
      simp only [v0, v1, v2, v3, v4, v5, v6, v7]
      clear v0 v1 v2 v3 v4 v5 v6 v7 h hv
      go_enter Tryd.func55, Tryd.ntmps55
      go_wp2
      go_ret
      exact ⟨rfl, rfl⟩
  · obtain ⟨v0, v1, v2, v3, v4, v5, v6, v7⟩ := to_tab2
    rcases eight h with rfl | rfl | rfl | rfl | rfl | rfl | rfl | rfl
    all_goals
      simp only [v0, v1, v2, v3, v4, v5, v6, v7]
      clear v0 v1 v2 v3 v4 v5 v6 v7 h hv
      go_enter Tryd.func55, Tryd.ntmps55
      go_wp2
      go_ret
      exact ⟨rfl, rfl⟩
  · obtain ⟨v0, v1, v2, v3, v4, v5, v6, v7⟩ := to_tab3
    rcases eight h with rfl | rfl | rfl | rfl | rfl | rfl | rfl | rfl
    all_goals
      simp only [v0, v1, v2, v3, v4, v5, v6, v7]
      clear v0 v1 v2 v3 v4 v5 v6 v7 h hv
      go_enter Tryd.func55, Tryd.ntmps55
      go_wp2
      go_ret
      exact ⟨rfl, rfl⟩
end Go.Proofs.YtlimipjfdecbfaaDoor
