/- Rows of words ([]uint64). -/
import Derived.Test.YticbjiddbjgikaaDoorWide
namespace Go.Proofs.YticbjiddbjgikaaDoor
open Go.ChangeShapes Go.WideShapes Go.ChangeAt Go.RowKit
set_option linter.unusedVariables false
set_option linter.unusedSimpArgs false
set_option maxRecDepth 10000

def KU : Wide Nat := ⟨22, 59, 1, 8, fun z => #[.int .u64 (z : Int)], 0⟩
theorem ku_ok : WideOk KU := ⟨fun _ => rfl, fun z => by simp [KU, Value.oneCell'], by decide, Tryd.underlying59, ⟨.int .u64 0, by kernel_rfl, rfl⟩⟩
/-- an element's cell -/
theorem ku_at {W : World} {L : List Nat} {b off c : Nat} (h : RowV KU W (some ⟨b, off, none⟩) L c) {i : Nat} (hi : i < L.length) : W.cell? ⟨b, off + i, none⟩ = some (.int .u64 ((L.getD i 0 : Nat) : Int)) ∧ b < W.heap.size := by
  obtain ⟨b', off', e, hb, hx⟩ := h.1 (by omega)
  injection e with e
  injection e with e1 e2
  subst e1 e2
  have := hx i hi 0 _ rfl
  rw [show KU.sz = 1 from rfl, Nat.mul_one, Nat.add_zero] at this
  exact ⟨this, hb⟩
/-- a word more, at the end of a row that the call made -/
theorem ku_flat_one (M : List Nat) (z : Nat) : KU.flat M ++ [.int .u64 (z : Int)] = KU.flat (M ++ [z]) := by
  unfold Wide.flat
  rw [List.flatMap_append]; rfl
end Go.Proofs.YticbjiddbjgikaaDoor
