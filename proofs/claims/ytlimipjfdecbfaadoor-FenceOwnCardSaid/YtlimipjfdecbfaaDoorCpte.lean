/- Package pte: Get, set, Put, Bad. -/
import Derived.Test.YtlimipjfdecbfaaDoorCsix
namespace Go.Proofs.YtlimipjfdecbfaaDoor
open Go.ChangeShapes Go.WideShapes Go.ChangeAt Go.RowKit
set_option linter.unusedVariables false
set_option linter.unusedSimpArgs false

theorem tb_bit (x : Nat) {i : Nat} (h : i < 64) : bitB (x : Int) (i : Int) = x.testBit i := by rw [bitB_in (by omega) (by omega)]; rfl
theorem getI_nat (x lo n : Nat) : getI (x : Int) (lo : Int) (n : Int) = ((getN x lo n : Nat) : Int) := by unfold getI; rfl
theorem getP_eq {x : Nat} (hx : x < 18446744073709551616) : ptC (getP x) = #[.bool (bitB x 0), .bool (bitB x 1), .bool (bitB x 2), .bool (bitB x 3), .bool (bitB x 4), .bool (bitB x 5), .bool (bitB x 6), .bool (bitB x 7), .int .u64 (getI x 8 2), .int .u64 (getI x 10 44), .int .u64 (getI x 54 10)] := by
  have e0 : bitB (x : Int) 0 = x.testBit 0 := tb_bit x (i := 0) (by decide)
  have e1 : bitB (x : Int) 1 = x.testBit 1 := tb_bit x (i := 1) (by decide)
  have e2 : bitB (x : Int) 2 = x.testBit 2 := tb_bit x (i := 2) (by decide)
  have e3 : bitB (x : Int) 3 = x.testBit 3 := tb_bit x (i := 3) (by decide)
  have e4 : bitB (x : Int) 4 = x.testBit 4 := tb_bit x (i := 4) (by decide)
  have e5 : bitB (x : Int) 5 = x.testBit 5 := tb_bit x (i := 5) (by decide)
  have e6 : bitB (x : Int) 6 = x.testBit 6 := tb_bit x (i := 6) (by decide)
  have e7 : bitB (x : Int) 7 = x.testBit 7 := tb_bit x (i := 7) (by decide)
  have g0 : getI (x : Int) 8 2 = ((x / 256 % 4 : Nat) : Int) := (getI_nat x 8 2).trans (by rw [get8])
  have g1 : getI (x : Int) 10 44 = ((x / 1024 % 17592186044416 : Nat) : Int) := (getI_nat x 10 44).trans (by rw [get10])
  have g2 : getI (x : Int) 54 10 = ((x / 18014398509481984 : Nat) : Int) := (getI_nat x 54 10).trans (by rw [get54 hx])
  rw [e0, e1, e2, e3, e4, e5, e6, e7, g0, g1, g2]
  unfold getP; rw [ptC_def]
/-- the row of eight bits, each beside its place -/
def flC (f : Nat → Bool) : Array Value := #[.int .i64 0, .bool (f 0), .int .i64 1, .bool (f 1), .int .i64 2, .bool (f 2), .int .i64 3, .bool (f 3), .int .i64 4, .bool (f 4), .int .i64 5, .bool (f 5), .int .i64 6, .bool (f 6), .int .i64 7, .bool (f 7)]
theorem flC_at (f : Nat → Bool) {k : Nat} (h : k < 8) : (flC f)[k * 2]? = some (.int .i64 (k : Int)) ∧ (flC f)[k * 2 + 1]? = some (.bool (f k)) := by
  match k, h with
  | 0, _ | 1, _ | 2, _ | 3, _ | 4, _ | 5, _ | 6, _ | 7, _ => exact ⟨rfl, rfl⟩
theorem setI_one (f : Nat → Bool) {k : Nat} (h : k < 8) : setI ((bsum f k : Nat) : Int) (k : Int) 1 (if f k then 1 else 0) = ((bsum f (k + 1) : Nat) : Int) := by
  rw [← set_one f (by omega)]
  unfold setI
  rw [Int.toNat_natCast, Int.toNat_natCast]
  cases f k <;> rfl
end Go.Proofs.YtlimipjfdecbfaaDoor
