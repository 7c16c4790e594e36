/- Package table: all that the laws ask of it. -/
import Derived.Test.YtcllbidhjggjiaaDoorCtabb
import Derived.Test.YtcllbidhjggjiaaDoorGctae
import Derived.Test.YtcllbidhjggjiaaDoorCtabg
import Derived.Test.YtcllbidhjggjiaaDoorGctai
namespace Go.Proofs.YtcllbidhjggjiaaDoor
open Go.ChangeShapes Go.WideShapes Go.ChangeAt Go.RowKit
set_option linter.unusedVariables false
set_option maxRecDepth 10000
theorem isB_few {P M F f : Nat} (hP : P ≤ 268435456) (hM : M ≤ 64) (h : isB P M F f = true) : f ≤ 268435600 := by
  unfold isB at h
  simp at h
  omega
/-- **what package table answers** -/
theorem tableC19 : TableC (fun w => Tab w ∧ Siz w) where
  ext := fun w w' h e => ⟨Tab.below h.1 e, h.2.ext e⟩
  reach := fun w hM hn hT hv ha h => by
    rw [spot_0]
    exact treach_c (k := 0) ha hn (by decide) w hT hM h.2
  with_ := fun w hM hf hn hT hv ha hsp hm hok h => twith_c w hM hf hn hT ha hsp hm hok
  pagesK := fun w hM hn hT h => tpages_c w hM hn hT h.2
  frames := fun w hM hn hT h => tframes_c w hM hn hT h.2
  empty := fun w hM hf h => tempty_c w hM hf
  fresh_no := fun w hM hP hm h => tfresh_no hm w hM h.1
  fresh_yes := fun w hM hP hm hF h0 hS h => tfresh_yes hP hm hF h0 w hM h.1
  back := fun w hM hP hm hF hb hS h => tback_c hP hm (Nat.lt_of_lt_of_le hF (Nat.pow_le_pow_right (by decide) hm)) (isB_few hP hm hb) hb w hM
end Go.Proofs.YtcllbidhjggjiaaDoor
