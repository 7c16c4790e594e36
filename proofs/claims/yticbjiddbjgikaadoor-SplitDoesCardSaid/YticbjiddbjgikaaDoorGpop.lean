/- How many bits are set: the sum that math/bits.OnesCount64 reckons, byte by byte, is the number of set bits. -/
import Derived.Test.YticbjiddbjgikaaDoorGone
import Derived.Lib.TrailingZeros
namespace Go.Proofs.YticbjiddbjgikaaDoor

/-- how many of the k lowest bits are set -/
def popN (x : Nat) : Nat → Nat
  | 0 => 0
  | k + 1 => popN x k + (x.testBit k).toNat
/-- a number of eight bytes -/
def b8 (a b c d e f g h : Nat) : Nat := a + 256 * (b + 256 * (c + 256 * (d + 256 * (e + 256 * (f + 256 * (g + 256 * h))))))
/-- a byte, its pairs of bits counted; its fours; it whole -/
def q1 (r : Nat) : Nat := ((r >>> 1) &&& 85) + (r &&& 85)
def q2 (r : Nat) : Nat := ((r >>> 2) &&& 51) + (r &&& 51)
def q3 (r : Nat) : Nat := ((r >>> 4) + r) &&& 15
theorem pop_succ (x k : Nat) : popN x (k + 1) = popN x k + (x.testBit k).toNat := rfl
theorem pop_nil (x : Nat) : popN x 0 = 0 := rfl
attribute [irreducible] popN
end Go.Proofs.YticbjiddbjgikaaDoor
/- Pools as natural numbers: a bit set or not, the least set bit, how many are set. -/
namespace Go.Proofs.YticbjiddbjgikaaDoor

/-- the word whose bit i is as told -/
def bitN (F i : Nat) (b : Bool) : Nat := setN F i 1 b.toNat
theorem tb_bitN {F : Nat} (hF : F < 2 ^ 64) (i : Nat) (b : Bool) (j : Nat) : (bitN F i b).testBit j = if j = i ∧ i < 64 then b else F.testBit j := by
  unfold bitN
  rw [tb_set hF]
  by_cases h : j = i ∧ i < 64
  · rw [if_pos (by omega), if_pos h, h.1, Nat.sub_self]; cases b <;> rfl
  · rw [if_neg (by omega), if_neg h]
theorem bit_lt {F : Nat} (hF : F < 2 ^ 64) (i : Nat) (b : Bool) : bitN F i b < 2 ^ 64 := set_lt hF _ _ _
theorem bit_out {F : Nat} (hF : F < 2 ^ 64) {i : Nat} (hi : 64 ≤ i) (b : Bool) : bitN F i b = F := by
  apply Nat.eq_of_testBit_eq; intro j; rw [tb_bitN hF, if_neg (by omega)]
theorem bit_same {F : Nat} (hF : F < 2 ^ 64) {i : Nat} {b : Bool} (h : F.testBit i = b) : bitN F i b = F := by
  apply Nat.eq_of_testBit_eq; intro j; rw [tb_bitN hF]; split
  · rename_i h1; rw [h1.1, h]
  · rfl
theorem bit_ne {F : Nat} (hF : F < 2 ^ 64) {i : Nat} (hi : i < 64) {b : Bool} (h : F.testBit i ≠ b) : bitN F i b ≠ F := fun e => h (by rw [← e, tb_bitN hF, if_pos ⟨rfl, hi⟩])
theorem bit_back {F : Nat} (hF : F < 2 ^ 64) {i : Nat} {a b : Bool} (h : F.testBit i = b) : bitN (bitN F i a) i b = F := by
  apply Nat.eq_of_testBit_eq; intro j; rw [tb_bitN (bit_lt hF _ _), tb_bitN hF]
  by_cases h1 : j = i ∧ i < 64
  · rw [if_pos h1, h1.1, h]
  · rw [if_neg h1, if_neg h1]
theorem bit_top {F M : Nat} (hM : M ≤ 64) (hF : F < 2 ^ M) {i : Nat} (hi : i < M) (b : Bool) : bitN F i b < 2 ^ M := by
  have h64 : F < 2 ^ 64 := Nat.lt_of_lt_of_le hF (Nat.pow_le_pow_right (by decide) hM)
  apply lt_of_tb; intro j hj
  rw [tb_bitN h64, if_neg (by omega)]
  exact Nat.testBit_lt_two_pow (Nat.lt_of_lt_of_le hF (Nat.pow_le_pow_right (by decide) hj))
theorem tb_top {F M i : Nat} (hF : F < 2 ^ M) (hi : M ≤ i) : F.testBit i = false := Nat.testBit_lt_two_pow (Nat.lt_of_lt_of_le hF (Nat.pow_le_pow_right (by decide) hi))
theorem pow_le64 {F M : Nat} (hM : M ≤ 64) (hF : F < 2 ^ M) : F < 2 ^ 64 := Nat.lt_of_lt_of_le hF (Nat.pow_le_pow_right (by decide) hM)

/-- the place of the least set bit; 64, if none is -/
def lowN' (F : Nat) : Nat := Lib.ctz 64 F
theorem low_zero : lowN' 0 = 64 := by unfold lowN' Lib.ctz; rfl
theorem low_spec {F : Nat} (h0 : F ≠ 0) (hF : F < 2 ^ 64) : lowN' F < 64 ∧ F.testBit (lowN' F) = true ∧ ∀ j, j < lowN' F → F.testBit j = false := by
  have e : lowN' F = Lib.ctzFrom 64 F := by unfold lowN' Lib.ctz; rw [if_neg h0]
  rw [e]
  obtain ⟨m, hm, hk⟩ := Lib.ctzFrom_spec 64 F (by omega) hF
  generalize Lib.ctzFrom 64 F = k at *
  refine ⟨hk, ?_, fun j hj => ?_⟩
  · rw [hm, Nat.mul_comm, Nat.testBit_mul_two_pow]; simp
  · rw [hm, Nat.mul_comm, Nat.testBit_mul_two_pow]; simp; omega
theorem low_top {F M : Nat} (h0 : F ≠ 0) (hM : M ≤ 64) (hF : F < 2 ^ M) : lowN' F < M := by
  obtain ⟨_, h2, _⟩ := low_spec h0 (pow_le64 hM hF)
  apply Nat.lt_of_not_le; intro h
  rw [tb_top hF h] at h2; cases h2
theorem low_def (F : Nat) : lowN' F = Lib.ctz 64 F := rfl
attribute [irreducible] lowN'
/-- the word without its least set bit -/
def takeF (F : Nat) : Nat := bitN F (lowN' F) false
theorem take_zero : takeF 0 = 0 := by unfold takeF; rw [low_zero]; exact bit_out (by decide) (Nat.le_refl _) _
theorem take_ne {F : Nat} (h0 : F ≠ 0) (hF : F < 2 ^ 64) : takeF F ≠ F := bit_ne hF (low_spec h0 hF).1 (by rw [(low_spec h0 hF).2.1]; decide)
theorem take_top {F M : Nat} (h0 : F ≠ 0) (hM : M ≤ 64) (hF : F < 2 ^ M) : takeF F < 2 ^ M := bit_top hM hF (low_top h0 hM hF) _
theorem take_def (F : Nat) : takeF F = bitN F (lowN' F) false := rfl
attribute [irreducible] takeF

/-! How many are set. -/
theorem pop_set {F : Nat} (hF : F < 2 ^ 64) {i : Nat} (hi : i < 64) (h : F.testBit i = false) : ∀ k, popN (bitN F i true) k = popN F k + (if i < k then 1 else 0)
  | 0 => by rw [pop_nil, pop_nil]; rfl
  | k + 1 => by
    rw [pop_succ, pop_succ, pop_set hF hi h k, tb_bitN hF]
    by_cases e : k = i
    · subst e
      rw [if_neg (Nat.lt_irrefl _), if_pos ⟨rfl, hi⟩, if_pos (Nat.lt_succ_self _), h]; simp
    · rw [show (if k = i ∧ i < 64 then true else F.testBit k) = F.testBit k from if_neg (fun h => e h.1)]
      by_cases h2 : i < k
      · rw [if_pos h2, if_pos (show i < k + 1 by omega)]; omega
      · rw [if_neg h2, if_neg (show ¬ i < k + 1 by omega)]; omega
theorem pop_clear {F : Nat} (hF : F < 2 ^ 64) {i : Nat} (hi : i < 64) (h : F.testBit i = true) : popN (bitN F i false) 64 + 1 = popN F 64 := by
  have e : bitN (bitN F i false) i true = F := bit_back hF h
  have := pop_set (bit_lt hF i false) hi (show (bitN F i false).testBit i = false by rw [tb_bitN hF, if_pos ⟨rfl, hi⟩]) 64
  rw [e, if_pos hi] at this
  omega
theorem pop_take {F : Nat} (h0 : F ≠ 0) (hF : F < 2 ^ 64) : popN (takeF F) 64 + 1 = popN F 64 := by
  unfold takeF; exact pop_clear hF (low_spec h0 hF).1 (low_spec h0 hF).2.1
end Go.Proofs.YticbjiddbjgikaaDoor
