/- Package set: first, Same, Right, Find. -/
import Derived.Test.YtlimipjfdecbfaaDoorMthir
import Derived.Test.YtlimipjfdecbfaaDoorCtwelb
import Derived.Test.YtlimipjfdecbfaaDoorCelev
namespace Go.Proofs.YtlimipjfdecbfaaDoor
open Go.ChangeShapes Go.WideShapes Go.ChangeAt Go.RowKit
set_option linter.unusedVariables false
set_option linter.unusedSimpArgs false
set_option maxRecDepth 10000

/-- both tables lie in their variables -/
def Lays (w : World) : Prop := Siz w
theorem Lays.ext {w w' : World} (h : Lays w) (hE : Ext w w') : Lays w' := Siz.ext h hE
theorem sameE_eq (e f : En) : sameE e f = (e.v && (f.v && ((e.l == f.l) && ((e.vp == f.vp) && (e.g || (f.g || (e.n == f.n))))))) := by unfold sameE; rfl
theorem nat_beq (a b : Nat) : ((a : Int) == (b : Int)) = (a == b) := by rw [Bool.eq_iff_iff, beq_iff_eq, beq_iff_eq]; omega
/-- an element of the array, by its place -/
theorem index_ws (s : Ws) {k : Nat} (hk : k < 4) (w : World) : (Instr.index 44 (.agg (wsC s)) (.int .i64 (k : Int))).run Tryd.prog w = .ok (.agg (enC (s.at k))) w := by
  have h := ws_part (w := w) s hk
  have hi := en_info (s.at k)
  rw [enC_size] at hi
  cases hq : Tryd.prog.info? 28 with
  | none => rw [hq] at hi; cases hi
  | some i =>
    rw [hq] at hi
    have hs : i.size = 11 := by simpa using hi
    simp [Instr.index, Tryd.underlying44, go_sem, run_sizeOf w hq, hs, h]
    have he := wsC_at s hk
    rw [enC_size] at he
    rw [if_pos hk, show Tryd.prog.cellsOf 28 = 11 by kernel_rfl, he]
theorem tup_ib {a b : Int} {x y : Bool} (h : a = b) (k : x = y) : Ending.returned (.tuple #[.int .i64 a, .bool x]) = .returned (.tuple #[.int .i64 b, .bool y]) := by rw [h, k]
end Go.Proofs.YtlimipjfdecbfaaDoor
