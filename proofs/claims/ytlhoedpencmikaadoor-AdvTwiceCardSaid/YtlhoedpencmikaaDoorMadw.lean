/- Layer 17: what awake's calls come to, reckoned. No program. -/
import Derived.Test.YtlhoedpencmikaaDoorLaw17a
namespace Go.Proofs.YtlhoedpencmikaaDoor
set_option maxRecDepth 100000
set_option linter.unusedVariables false

def bM : List (Nat × Nat) := [(512, 9)]
def bM2 : List (Nat × Nat) := [(512, 73)]
def bH : Hr := ⟨List.replicate 1 s0, ⟨8, 1, 1⟩, 0, false, false, -1⟩
def bA : Hr := ⟨List.replicate 1 s0, ⟨8, 1, 1⟩, 0, false, false, 2⟩
def bD : Hr := brH 8192 bM bA 5
def bE : Hr := evH bD 0 2
theorem bM_len : bM.length = 1 := rfl
theorem bM2_len : bM2.length = 1 := rfl
theorem bM_is : RL 1024 bM := by
  refine ⟨by simp [bM], fun c hc => ?_⟩
  simp [bM] at hc
  subst hc
  decide
theorem bPi2 : piH bH 2 = bA ∧ piG 2 = 0 := ⟨by decide +kernel, by decide +kernel⟩
theorem bPi4 : piH bH 4 = bH ∧ piG 4 = 1 := ⟨by decide +kernel, by decide +kernel⟩
theorem bBr : brM 8192 bM bA 5 = bM2 := by decide +kernel
theorem bD_vi : bD.vi = -1 := by decide +kernel
theorem bD_len : bD.L.length = 1 := by decide +kernel
theorem bD_way : ((sT bD.L 0).ws.at 2).v = true := by decide +kernel
theorem bEv : evG bD 0 2 = 0 ∧ evG bD 1 0 = 1 := ⟨by decide +kernel, by decide +kernel⟩
theorem bE_all : (allT bE.L).length = 0 := by decide +kernel
theorem bNo : brH 8192 bM bH 1073741824 = bH ∧ brM 8192 bM bH 1073741824 = bM := ⟨by decide +kernel, by decide +kernel⟩
theorem bH_r : rightH bH = true := by decide +kernel
theorem bA_r : rightH bA = true := by decide +kernel
theorem bD_r : rightH bD = true := by decide +kernel
theorem bE_r : rightH bE = true := by decide +kernel
theorem bM2_val : vlN bM2 0 = 73 := by decide +kernel
theorem bA_vi : bA.vi = 2 := rfl
theorem bD_eq : brH 8192 bM bA 5 = bD := by unfold bD; rfl
theorem bE_eq : evH bD 0 2 = bE := by unfold bE; rfl
theorem bH_ok : bH.ok := by
  have hr := (right_split bH_r).1
  unfold bH at hr ⊢
  exact ⟨by unfold Sp.ok; simp, by decide, by decide, fun i hi => rt_ok hr hi⟩
theorem bA_ok : bA.ok := by
  have hr := (right_split bA_r).1
  unfold bA at hr ⊢
  exact ⟨by unfold Sp.ok; simp, by decide, by decide, fun i hi => rt_ok hr hi⟩
attribute [irreducible] bM bM2 bH bA bD bE
end Go.Proofs.YtlhoedpencmikaaDoor
