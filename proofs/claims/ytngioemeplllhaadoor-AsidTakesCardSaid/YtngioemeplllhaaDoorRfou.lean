/- The document's answers for layer 4 (package atlasref04). -/
import Derived.Test.YtngioemeplllhaaDoorCpoo
import Derived.Test.YtngioemeplllhaaDoorRone
namespace Go.Proofs.YtngioemeplllhaaDoor
open Go.ChangeShapes Go.WideShapes Go.ChangeAt Go.RowKit
set_option linter.unusedVariables false
set_option linter.unusedSimpArgs false

theorem bitB_nat {F i : Nat} (hi : i ≤ 63) : bitB (F : Int) (i : Int) = F.testBit i := by
  rw [bitB_in (by omega) (by omega), Int.toNat_natCast, Int.toNat_natCast]
theorem rset_1 (F i : Nat) (b : Bool) (hF : F < 18446744073709551616) (hi : i ≤ 63) (w : World) :
    Calls Tryd.prog 18 #[.int .u64 (F : Int), .int .i64 (i : Int), .int .i64 1, .int .u64 (if b then 1 else 0)] w fun e w' => e = .returned (.int .u64 ((bitN F i b : Nat) : Int)) ∧ Ext w w' := by
  have h := rset1_c (F : Int) (i : Int) 1 (if b then 1 else 0) (by omega) (by omega) (by cases b <;> decide) (by cases b <;> decide) (by omega) (by omega) (by omega) (by omega) w
  rwa [rset_eq (by omega) (by omega) (by cases b <;> decide) (by omega) (by omega), setI_bit] at h

theorem rright_bits {B F : Nat} {M : Nat} (hB : B ≤ 268435456) (hM : M ≤ 64) : rightB B M F = decide (F < 2 ^ M) := by
  unfold rightB; rw [Int.toNat_natCast]; simp [hB]; omega
theorem rr_no {B F M i : Nat} (hB : B ≤ 268435456) (hM : M ≤ 64) (hi : M ≤ i) (h : F.testBit i = true) : rightB B M F = false := by
  rw [rright_bits hB hM]; simp only [decide_eq_false_iff_not]; intro hl
  rw [tb_top hl hi] at h; cases h
theorem rr_yes {B F M : Nat} (hB : B ≤ 268435456) (hM : M ≤ 64) (hF : F < 18446744073709551616) (h : ∀ i, M ≤ i → i < 64 → F.testBit i = false) : rightB B M F = true := by
  rw [rright_bits hB hM]; simp only [decide_eq_true_eq]
  refine lt_of_tb fun i hi => ?_
  by_cases h2 : i < 64
  · exact h i hi h2
  · exact tb_big (by omega) (by omega)

end Go.Proofs.YtngioemeplllhaaDoor
