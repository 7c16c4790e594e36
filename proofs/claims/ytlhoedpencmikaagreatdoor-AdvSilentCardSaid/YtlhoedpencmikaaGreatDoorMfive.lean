/- Addresses as numbers: a page's size, canonical addresses, an index, a page number, an address of a page number, the rest and the base by a page's size. -/
import Derived.Test.YtlhoedpencmikaaGreatDoorGone
namespace Go.Proofs.YtlhoedpencmikaaGreatDoor
set_option linter.unusedVariables false

def sizI (l : Int) : Int := ((4096 * 512 ^ l.toNat : Nat) : Int)
def vaB (a : Int) : Bool := decide (a < 274877906944) || decide (18446743798831644672 ≤ a)
def idxI (a l : Int) : Int := a / sizI l % 512
def numI (a : Int) : Int := a / 4096 % 134217728
def ofI (n : Int) : Int := if n % 134217728 < 67108864 then n % 134217728 * 4096 else n % 134217728 * 4096 + 18446743523953737728
def offI (a l : Int) : Int := a % sizI l
def basI (a l : Int) : Int := a / sizI l * sizI l
theorem siz0 : sizI 0 = 4096 := by decide
theorem siz1 : sizI 1 = 2097152 := by decide
theorem siz2 : sizI 2 = 1073741824 := by decide
theorem level_lt {l : Int} (h0 : 0 ≤ l) (h1 : l ≤ 2) : l = 0 ∨ l = 1 ∨ l = 2 := by omega

theorem get_ar {x : Int} (x0 : 0 ≤ x) (lo n : Nat) : getI x lo n = x / 2 ^ lo % 2 ^ n := by
  obtain ⟨m, rfl⟩ := Int.eq_ofNat_of_zero_le x0
  unfold getI getN
  rw [Int.toNat_natCast, Int.toNat_natCast, Int.toNat_natCast, Nat.shiftRight_eq_div_pow, pow_cast, pow_cast]
  push_cast; rfl
theorem idx_eq {a l : Int} (a0 : 0 ≤ a) (l0 : 0 ≤ l) (l2 : l ≤ 2) : getI a (12 + 9 * l) 9 = idxI a l := by
  unfold idxI
  rcases level_lt l0 l2 with rfl | rfl | rfl
  · rw [siz0]; exact get_ar a0 12 9
  · rw [siz1]; exact get_ar a0 21 9
  · rw [siz2]; exact get_ar a0 30 9
theorem num_eq {a : Int} (a0 : 0 ≤ a) : getI a 12 27 = numI a := by
  unfold numI; exact get_ar a0 12 27
/-- a word with the sign of its 39 lowest bits -/
theorem sign39 {x : Nat} (hx : x < 2 ^ 64) : signN x 39 = if x % 549755813888 < 274877906944 then x % 549755813888 else x % 549755813888 + 18446743523953737728 := by
  have hb : x.testBit 38 = decide (274877906944 ≤ x % 549755813888) := by
    rw [Nat.testBit_eq_decide_div_mod_eq, decide_eq_decide]; omega
  apply Nat.eq_of_testBit_eq; intro i
  rw [tb_sign hx (by decide) (by decide), show (39 - 1 : Nat) = 38 from rfl]
  by_cases h : x % 549755813888 < 274877906944
  · rw [if_pos h, show (549755813888 : Nat) = 2 ^ 39 from rfl, Nat.testBit_mod_two_pow]
    by_cases hi : i < 39
    · rw [show min i 38 = i by omega]; simp [hi, show i < 64 by omega]
    · rw [show min i 38 = 38 by omega, hb]; simp [hi]; omega
  · rw [if_neg h, show x % 549755813888 + 18446743523953737728 = 2 ^ 39 * (2 ^ 25 - 1) + x % 549755813888 by omega, Nat.testBit_two_pow_mul_add _ (by omega), show (549755813888 : Nat) = 2 ^ 39 from rfl, Nat.testBit_mod_two_pow, Nat.testBit_two_pow_sub_one]
    by_cases hi : i < 39
    · rw [if_pos hi, show min i 38 = i by omega]; simp [hi, show i < 64 by omega]
    · rw [if_neg hi, show min i 38 = 38 by omega, hb]; simp [show 274877906944 ≤ x % 549755813888 by omega]; omega
theorem sign_ar {x : Int} (x0 : 0 ≤ x) (x1 : x < 18446744073709551616) : signI x 39 = if x % 549755813888 < 274877906944 then x % 549755813888 else x % 549755813888 + 18446743523953737728 := by
  obtain ⟨m, rfl⟩ := Int.eq_ofNat_of_zero_le x0
  unfold signI
  rw [Int.toNat_natCast, show (39 : Int).toNat = 39 from rfl, sign39 (by omega)]
  split
  · rw [if_pos (by omega)]; omega
  · rw [if_neg (by omega)]; omega
theorem is_eq {a : Int} (a0 : 0 ≤ a) (a1 : a < 18446744073709551616) : (a == signI a 39) = vaB a := by
  unfold vaB
  rw [sign_ar a0 a1, Bool.eq_iff_iff, beq_iff_eq, Bool.or_eq_true, decide_eq_true_iff, decide_eq_true_iff]
  split
  · omega
  · omega
theorem set_ar {n : Nat} : setN 0 12 27 n = n % 134217728 * 4096 := by
  apply Nat.eq_of_testBit_eq; intro i
  rw [tb_set (by decide), show (4096 : Nat) = 2 ^ 12 from rfl, Nat.testBit_mul_two_pow, show (134217728 : Nat) = 2 ^ 27 from rfl, Nat.testBit_mod_two_pow]
  by_cases h : 12 ≤ i
  · by_cases h2 : i < 39
    · rw [if_pos (by omega)]; simp [h, show i - 12 < 27 by omega]
    · rw [if_neg (by omega)]; simp [show ¬ (i - 12 < 27) by omega]
  · rw [if_neg (by omega)]; simp [h]
theorem of_eq {n : Int} (n0 : 0 ≤ n) : signI (setI 0 12 27 n) 39 = ofI n := by
  obtain ⟨m, rfl⟩ := Int.eq_ofNat_of_zero_le n0
  have hs : setI 0 12 27 (m : Int) = ((m % 134217728 * 4096 : Nat) : Int) := by
    unfold setI; rw [Int.toNat_natCast, show (0 : Int).toNat = 0 from rfl, show (12 : Int).toNat = 12 from rfl, show (27 : Int).toNat = 27 from rfl, set_ar]
  rw [hs, sign_ar (by omega) (by omega)]
  unfold ofI
  split
  · rw [if_pos (by omega)]; omega
  · rw [if_neg (by omega)]; omega
theorem rof_eq {n : Int} (n0 : 0 ≤ n) : signI (n % 134217728 * 4096) 39 = ofI n := by
  rw [sign_ar (by omega) (by omega)]
  unfold ofI
  split
  · rw [if_pos (by omega)]; omega
  · rw [if_neg (by omega)]; omega
theorem and_ar {a : Int} (a0 : 0 ≤ a) (a1 : a < 18446744073709551616) (k : Nat) (hk : k ≤ 64) : bits .and .u64 a ((2 ^ k - 1 : Nat) : Int) = a % 2 ^ k := by
  obtain ⟨m, rfl⟩ := Int.eq_ofNat_of_zero_le a0
  rw [and_u64 (by omega) (lowN_lt hk), Nat.and_two_pow_sub_one_eq_mod, pow_cast]
  push_cast; rfl

/-! bounds -/
theorem idx_lt (a l : Int) : 0 ≤ idxI a l ∧ idxI a l < 512 := by unfold idxI; omega
theorem num_lt (a : Int) : 0 ≤ numI a ∧ numI a < 134217728 := by unfold numI; omega
theorem of_lt (n : Int) : 0 ≤ ofI n ∧ ofI n < 18446744073709551616 := by
  unfold ofI; split
  · omega
  · omega
theorem siz_pos (l : Int) : 0 < sizI l := by
  have := Nat.pow_pos (n := l.toNat) (show 0 < 512 by decide)
  unfold sizI; omega
theorem off_lt (a l : Int) : 0 ≤ offI a l ∧ offI a l < sizI l := by
  have := siz_pos l
  unfold offI; exact ⟨Int.emod_nonneg _ (by omega), Int.emod_lt_of_pos _ this⟩
theorem bas_lt {a l : Int} (a0 : 0 ≤ a) : 0 ≤ basI a l ∧ basI a l ≤ a := by
  have := siz_pos l
  have h1 := Int.emod_add_mul_ediv a (sizI l)
  have h2 := (off_lt a l).1
  rw [Int.mul_comm] at h1
  unfold basI offI at *
  exact ⟨Int.mul_nonneg (Int.ediv_nonneg a0 (by omega)) (by omega), by omega⟩
theorem bas_off (a l : Int) : basI a l + offI a l = a := by
  have h1 := Int.emod_add_mul_ediv a (sizI l)
  rw [Int.mul_comm] at h1
  unfold basI offI; omega
attribute [irreducible] sizI vaB idxI numI ofI offI basI

end Go.Proofs.YtlhoedpencmikaaGreatDoor
