/- math/bits.TrailingZeros64 and OnesCount64: what each answers. -/
import Derived.Test.YtngioemeplllhaaDoorCone
import Derived.Test.YtngioemeplllhaaDoorMpop
import Derived.Below
import Derived.Lib.TrailingZeros
import Derived.Laws.Bits64b
namespace Go.Proofs.YtngioemeplllhaaDoor
open Go.ChangeShapes Go.WideShapes Go.ChangeAt Go.RowKit
set_option linter.unusedVariables false

/-- the library's table lies in its variable -/
def Tab (w : World) : Prop := ∀ j, j < 64 → w.cell? ⟨0, j, none⟩ = some (.int .u8 ((Lib.deBruijn64tab.getD j 0 : Nat) : Int))
theorem Tab.below {w w' : World} (h : Tab w) (hb : Below w.heap.size w w') : Tab w' := fun j hj => by
  have h0 := h j hj
  refine (hb.cell (p := ⟨0, j, none⟩) ?_).trans h0
  exact Go.block_lt_of_cell h0

/-- what the search for the lowest bit reckons, step by step: the number's opposite, its lowest bit, the product, the product's six highest bits -/
theorem tz_steps {x : Nat} (h0 : x ≠ 0) (hx : x < 18446744073709551616) : ∃ y p q i : Nat, IntKind.u64.wrap (-(x : Int)) = (y : Int) ∧ bits .and .u64 (x : Int) (y : Int) = (p : Int) ∧ IntKind.u64.wrap ((p : Int) * 285870213051353865) = (q : Int) ∧
    (q : Int) / 288230376151711744 = (i : Int) ∧ i < 64 ∧ Lib.deBruijn64tab.getD i 0 = Lib.ctz 64 x ∧ Lib.ctz 64 x < 64 := by
  obtain ⟨hp, hk⟩ := Lib.lowest_bit 64 x h0 hx
  obtain ⟨hi, hv⟩ := Lib.deBruijn64_at _ hk
  generalize Lib.ctz 64 x = k at *
  refine ⟨2 ^ 64 - x, 2 ^ k, 2 ^ k * 285870213051353865 % 18446744073709551616, _, ?_, ?_, ?_, rfl, hi, hv, hk⟩
  · rw [IntKind.wrap_u64]; omega
  · rw [and_u64 hx (by omega), hp]
  · rw [IntKind.wrap_u64]; omega
theorem tz_zero (w : World) : Calls Tryd.prog 20 #[.int .u64 0] w fun e w' => e = .returned (.int .i64 64) ∧ w = w' := by
  go_enter Tryd.func20, Tryd.ntmps20
  go_wp2
  go_ret
  exact ⟨rfl, rfl⟩
set_option maxHeartbeats 1000000 in
theorem tz_c (x : Nat) (hx : x < 18446744073709551616) (w : World) (hT : Tab w) :
    Calls Tryd.prog 20 #[.int .u64 x] w fun e w' => e = .returned (.int .i64 ((Lib.ctz 64 x : Nat) : Int)) ∧ w = w' := by
  by_cases h0 : x = 0
  · subst h0
    exact tz_zero w
  obtain ⟨y, p, q, i, e1, e2, e3, e4, hi, hv, hk⟩ := tz_steps h0 hx
  have hc := hT i hi
  rw [hv] at hc
  have hd : ((x : Int) == 0) = false := by simp; omega
  generalize Lib.ctz 64 x = k at *
  clear h0 hx hT hv
  go_enter Tryd.func20, Tryd.ntmps20
  go_wp2
  go_ret
  exact ⟨rfl, rfl⟩

theorem and_i64 {a : Nat} (ha : a < 9223372036854775808) : bits .and .i64 (a : Int) 127 = ((a % 128 : Nat) : Int) := by
  have hx : a &&& 127 = a % 128 := Nat.and_two_pow_sub_one_eq_mod a 7
  show IntKind.i64.wrap ((BitVec.ofInt 64 (a : Int) &&& BitVec.ofInt 64 (127 : Int)).toNat : Int) = _
  rw [BitVec.toNat_and, ofInt_nat (by omega), show (BitVec.ofInt 64 (127 : Int)).toNat = 127 from rfl, hx, IntKind.wrap_i64]; omega
theorem plus_u64 {a b : Nat} (h : a + b < 18446744073709551616) : IntKind.u64.wrap ((a : Int) + (b : Int)) = ((a + b : Nat) : Int) := by rw [IntKind.wrap_u64]; omega
theorem and_le {a m : Nat} : a &&& m ≤ m := Nat.and_le_right
theorem ones_facts {x : Nat} (hx : x < 18446744073709551616) : ∃ x1 x2 x3 x4 x5 x6 : Nat,
    IntKind.u64.wrap (bits .and .u64 ((x : Int) / 2) 6148914691236517205 + bits .and .u64 (x : Int) 6148914691236517205) = (x1 : Int) ∧
    IntKind.u64.wrap (bits .and .u64 ((x1 : Int) / 4) 3689348814741910323 + bits .and .u64 (x1 : Int) 3689348814741910323) = (x2 : Int) ∧
    bits .and .u64 (IntKind.u64.wrap ((x2 : Int) / 16 + (x2 : Int))) 1085102592571150095 = (x3 : Int) ∧
    IntKind.u64.wrap ((x3 : Int) + (x3 : Int) / 256) = (x4 : Int) ∧ IntKind.u64.wrap ((x4 : Int) + (x4 : Int) / 65536) = (x5 : Int) ∧ IntKind.u64.wrap ((x5 : Int) + (x5 : Int) / 4294967296) = (x6 : Int) ∧
    x6 < 9223372036854775808 ∧ bits .and .i64 (x6 : Int) 127 = ((popN x 64 : Nat) : Int) := by
  obtain ⟨x1, x2, x3, x4, x5, x6, e1, e2, e3, e4, e5, e6, l1, l2, l4, l5, l6, hp⟩ := ones_eq hx
  have dv : ∀ (a k : Nat), ((a : Int) / (k : Int)) = ((a / k : Nat) : Int) := fun a k => by push_cast; rfl
  refine ⟨x1, x2, x3, x4, x5, x6, ?_, ?_, ?_, ?_, ?_, ?_, l6, ?_⟩
  · rw [show ((x : Int) / 2) = ((x / 2 : Nat) : Int) from dv x 2, show (6148914691236517205 : Int) = ((6148914691236517205 : Nat) : Int) from rfl, and_u64 (by omega) (by decide), and_u64 hx (by decide), plus_u64 (by omega), e1]
  · rw [show ((x1 : Int) / 4) = ((x1 / 4 : Nat) : Int) from dv x1 4, show (3689348814741910323 : Int) = ((3689348814741910323 : Nat) : Int) from rfl, and_u64 (by omega) (by decide), and_u64 l1 (by decide), plus_u64 (by omega), e2]
  · rw [show ((x2 : Int) / 16) = ((x2 / 16 : Nat) : Int) from dv x2 16, plus_u64 l2, show (1085102592571150095 : Int) = ((1085102592571150095 : Nat) : Int) from rfl, and_u64 l2 (by decide), e3]
  · rw [show ((x3 : Int) / 256) = ((x3 / 256 : Nat) : Int) from dv x3 256, plus_u64 (by omega), e4]
  · rw [show ((x4 : Int) / 65536) = ((x4 / 65536 : Nat) : Int) from dv x4 65536, plus_u64 (by omega), e5]
  · rw [show ((x5 : Int) / 4294967296) = ((x5 / 4294967296 : Nat) : Int) from dv x5 4294967296, plus_u64 (by omega), e6]
  · rw [and_i64 l6, hp]
set_option maxHeartbeats 2000000 in
theorem ones_c (x : Nat) (hx : x < 18446744073709551616) (w : World) :
    Calls Tryd.prog 23 #[.int .u64 x] w fun e w' => e = .returned (.int .i64 ((popN x 64 : Nat) : Int)) ∧ w = w' := by
  obtain ⟨x1, x2, x3, x4, x5, x6, e1, e2, e3, e4, e5, e6, l6, e7⟩ := ones_facts hx
  clear hx
  go_enter Tryd.func23, Tryd.ntmps23
  go_wp2
  go_ret
  exact ⟨rfl, rfl⟩
end Go.Proofs.YtngioemeplllhaaDoor
