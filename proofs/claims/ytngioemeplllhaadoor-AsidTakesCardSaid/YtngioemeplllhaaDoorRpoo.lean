/- The document's answers for layer 4 (package atlasref04): Is, Take, Give, New. -/
import Derived.Test.YtngioemeplllhaaDoorRfou
namespace Go.Proofs.YtngioemeplllhaaDoor
open Go.ChangeShapes Go.WideShapes Go.ChangeAt Go.RowKit
set_option linter.unusedVariables false
set_option linter.unusedSimpArgs false

theorem isB_at {B M F f k : Nat} (hk : k < M) (h : B + k = f) : isB B M F f = !F.testBit k := by
  unfold isB; subst h; simp [hk]
theorem isB_no {B M F f : Nat} (h : ∀ j, j < M → B + j ≠ f) : isB B M F f = false := by
  unfold isB
  by_cases h1 : B ≤ f ∧ f < B + M
  · exact absurd (show B + (f - B) = f by omega) (h (f - B) (by omega))
  · simp; omega
theorem rbit_c (F k : Nat) (b : Bool) (hF : F < 18446744073709551616) (hk : k < 64) (hb : F.testBit k = b) (w : World) : Calls Tryd.prog 19 #[.int .u64 (F : Int), .int .i64 (k : Int)] w fun e w' => e = .returned (.bool b) ∧ w = w' := by
  have := bit_c (F : Int) (k : Int) (by omega) (by omega) w
  rwa [bitB_nat (by omega), hb] at this

theorem ones_set {k : Nat} (hk : k < 64) : bitN (2 ^ k - 1) k true = 2 ^ (k + 1) - 1 := by
  have h : 2 ^ k - 1 < 2 ^ 64 := by have := Nat.pow_le_pow_right (n := 2) (by decide) (show k ≤ 64 by omega); have := Nat.two_pow_pos k; omega
  apply Nat.eq_of_testBit_eq; intro j
  rw [tb_bitN h, Nat.testBit_two_pow_sub_one, Nat.testBit_two_pow_sub_one]
  by_cases e : j = k
  · rw [if_pos ⟨e, hk⟩]; simp; omega
  · rw [if_neg (fun h => e h.1), decide_eq_decide]; omega
theorem ones_lt {k : Nat} (hk : k ≤ 64) : 2 ^ k - 1 < 18446744073709551616 := by have := Nat.pow_le_pow_right (n := 2) (by decide) hk; have := Nat.two_pow_pos k; omega

end Go.Proofs.YtngioemeplllhaaDoor
