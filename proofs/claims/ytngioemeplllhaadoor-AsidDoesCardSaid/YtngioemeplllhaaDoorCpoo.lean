/- Package pool: Right, Is, Give, Take, New. -/
import Derived.Test.YtngioemeplllhaaDoorCfour
import Derived.BigQuiet
import Derived.Laws.StructEq
namespace Go.Proofs.YtngioemeplllhaaDoor
open Go.ChangeShapes Go.WideShapes Go.ChangeAt Go.RowKit
set_option linter.unusedVariables false
set_option linter.unusedSimpArgs false

/-- is that frame one of the pool's that isn't free? -/
def isB (B M F f : Nat) : Bool := decide (B ≤ f) && decide (f < B + M) && !F.testBit (f - B)
theorem isB_ne {B M F f : Nat} (hM : M ≤ 64) (hF : F < 18446744073709551616) : (freedN B M F f != F) = isB B M F f := by
  unfold isB
  by_cases h : B ≤ f ∧ f < B + M
  · rw [freed_in h.1 h.2]
    cases hb : F.testBit (f - B)
    · have := bit_ne (F := F) (by omega) (i := f - B) (by omega) (b := true) (by rw [hb]; decide)
      simp [h, this]
    · simp [h, bit_same (F := F) (by omega) hb]
  · rw [freed_out h]; simp; omega

/-- is a pool right? -/
def rightB (B : Nat) (M : Int) (F : Nat) : Bool := decide (0 ≤ M) && decide (M ≤ 64) && decide (B ≤ 268435456) && decide (F < 2 ^ M.toNat)
theorem get_all (F M : Nat) : getI (F : Int) 0 (M : Int) = ((F % 2 ^ M : Nat) : Int) := by
  unfold getI getN; rw [Int.toNat_natCast]; rfl
theorem right_get {B F M : Nat} (hB : B ≤ 268435456) (hM : M ≤ 64) : (getI (F : Int) 0 (M : Int) == (F : Int)) = rightB B M F := by
  rw [get_all]
  have hp := Nat.two_pow_pos M
  unfold rightB
  rw [Int.toNat_natCast, Bool.eq_iff_iff, beq_iff_eq]
  simp only [Bool.and_eq_true, decide_eq_true_eq]
  constructor
  · intro h
    have h1 : F % 2 ^ M = F := by omega
    refine ⟨⟨⟨by omega, by omega⟩, hB⟩, ?_⟩
    rw [← h1]; exact Nat.mod_lt _ hp
  · intro h; rw [Nat.mod_eq_of_lt h.2]
theorem right_no1 {B F : Nat} {M : Int} (h : M < 0 ∨ 64 < M ∨ 268435456 < B) : rightB B M F = false := by
  unfold rightB; rcases h with h | h | h <;> simp <;> omega
attribute [irreducible] rightB

theorem all_get {M : Nat} (hM : M ≤ 64) : getI 18446744073709551615 0 (M : Int) = ((2 ^ M - 1 : Nat) : Int) := by
  unfold getI getN
  rw [Int.toNat_natCast]
  show (((18446744073709551615 : Nat) >>> 0 % 2 ^ M : Nat) : Int) = _
  congr 1
  apply Nat.eq_of_testBit_eq; intro i
  rw [Nat.shiftRight_zero, Nat.testBit_mod_two_pow, show (18446744073709551615 : Nat) = 2 ^ 64 - 1 from rfl, Nat.testBit_two_pow_sub_one, Nat.testBit_two_pow_sub_one]
  by_cases h : i < M
  · simp [h]; omega
  · simp [h]
theorem right_0 {B : Nat} {M : Int} (h : rightB B M 0 = true) : 0 ≤ M ∧ M ≤ 64 ∧ B ≤ 268435456 := by
  unfold rightB at h
  simp only [Bool.and_eq_true, decide_eq_true_eq] at h
  exact ⟨h.1.1.1, h.1.1.2, h.1.2⟩

end Go.Proofs.YtngioemeplllhaaDoor
