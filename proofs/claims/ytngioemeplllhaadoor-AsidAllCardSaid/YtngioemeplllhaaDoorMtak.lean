/- What is taken of a pool, and given back: which frames are out, and how many. -/
import Derived.Test.YtngioemeplllhaaDoorMfour
namespace Go.Proofs.YtngioemeplllhaaDoor
/-- of n frames those of tk are out; F has the bits of the others -/
def TakSt (n F : Nat) (tk : Nat → Bool) (out : Nat) : Prop := n ≤ 64 ∧ F < 2 ^ n ∧ out + popN F 64 = n ∧ ∀ j, j < n → F.testBit j = !tk j
theorem TakSt.lt64 {n F : Nat} {tk : Nat → Bool} {out : Nat} (h : TakSt n F tk out) : F < 18446744073709551616 := pow_le64 h.1 h.2.1
theorem tak_new {n : Nat} (h : n ≤ 64) : TakSt n (2 ^ n - 1) (fun _ => false) 0 := by
  refine ⟨h, by have := Nat.two_pow_pos n; omega, by rw [pop_all h]; omega, fun j hj => ?_⟩
  rw [Nat.testBit_two_pow_sub_one]; simp [hj]
theorem TakSt.zero {n : Nat} {tk : Nat → Bool} {out : Nat} (h : TakSt n 0 tk out) {j : Nat} (hj : j < n) : tk j = true := by
  have := h.2.2.2 j hj
  rw [Nat.zero_testBit] at this
  cases hb : tk j
  · rw [hb] at this; cases this
  · rfl
theorem TakSt.low {n F : Nat} {tk : Nat → Bool} {out : Nat} (h : TakSt n F tk out) (h0 : F ≠ 0) :
    lowN' F < n ∧ (∀ j, j < lowN' F → tk j = true) ∧ tk (lowN' F) = false ∧ TakSt n (takeF F) (fun j => if j = lowN' F then true else tk j) (out + 1) := by
  have hL := low_top h0 h.1 h.2.1
  obtain ⟨l1, l2, l3⟩ := low_spec h0 h.lt64
  refine ⟨hL, fun j hj => ?_, ?_, h.1, take_top h0 h.1 h.2.1, ?_, fun j hj => ?_⟩
  · have := h.2.2.2 j (by omega)
    rw [l3 j hj] at this
    cases hb : tk j
    · rw [hb] at this; cases this
    · rfl
  · have := h.2.2.2 _ hL
    rw [l2] at this
    cases hb : tk (lowN' F)
    · rfl
    · rw [hb] at this; cases this
  · have := pop_take h0 h.lt64
    have := h.2.2.1
    omega
  · rw [tb_take h.lt64]
    by_cases e : j = lowN' F
    · rw [if_pos ⟨e, l1⟩]; simp [e]
    · rw [if_neg (fun h => e h.1)]; simp only [if_neg e]; exact h.2.2.2 j hj
theorem TakSt.give {n F : Nat} {tk : Nat → Bool} {out : Nat} (h : TakSt n F tk out) {k : Nat} (hk : k < n) (ht : tk k = true) :
    F.testBit k = false ∧ 1 ≤ out ∧ TakSt n (bitN F k true) (fun j => if j = k then false else tk j) (out - 1) := by
  have hb : F.testBit k = false := by rw [h.2.2.2 k hk, ht]; rfl
  have hp := pop_give h.lt64 (show k < 64 by have := h.1; omega) hb
  have hF := bit_top h.1 h.2.1 hk true
  have h1 : popN (bitN F k true) 64 ≤ n := by
    have : popN (bitN F k true) 64 ≤ popN (2 ^ n - 1) 64 := by
      have key : ∀ (x y : Nat), (∀ i, x.testBit i = true → y.testBit i = true) → ∀ m, popN x m ≤ popN y m := by
        intro x y hxy m
        induction m with
        | zero => rw [pop_nil, pop_nil]; exact Nat.le_refl _
        | succ m ih =>
          rw [pop_succ, pop_succ]
          have : (x.testBit m).toNat ≤ (y.testBit m).toNat := by
            cases hx : x.testBit m
            · simp
            · rw [hxy m hx]; exact Nat.le_refl _
          omega
      refine key _ _ (fun i hi => ?_) 64
      rw [Nat.testBit_two_pow_sub_one]
      by_cases hin : i < n
      · simp [hin]
      · rw [tb_top hF (by omega)] at hi; cases hi
    rwa [pop_all h.1] at this
  have h2 := h.2.2.1
  refine ⟨hb, by omega, h.1, hF, by omega, fun j hj => ?_⟩
  rw [tb_bitN h.lt64]
  by_cases e : j = k
  · rw [if_pos ⟨e, by have := h.1; omega⟩]; simp [e]
  · rw [if_neg (fun h => e h.1)]; simp only [if_neg e]; exact h.2.2.2 j hj
theorem TakSt.out_le {n F : Nat} {tk : Nat → Bool} {out : Nat} (h : TakSt n F tk out) : out ≤ n ∧ popN F 64 = n - out := by have := h.2.2.1; omega
attribute [irreducible] TakSt
end Go.Proofs.YtngioemeplllhaaDoor
