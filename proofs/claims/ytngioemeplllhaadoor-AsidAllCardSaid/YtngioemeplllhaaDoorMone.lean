/- Plain facts on fields of words as natural numbers, bit by bit: what a field is, what a set field is, signs. -/
import Derived.Laws.Entries
import Derived.Laws.Bits64
namespace Go.Proofs.YtngioemeplllhaaDoor

/-- The field of n bits from the bit lo on. -/
def getN (w lo n : Nat) : Nat := (w >>> lo) % 2 ^ n
/-- The mask of a field, cut at 64 bits. -/
def maskN (lo n : Nat) : Nat := ((2 ^ n - 1) <<< lo) % 2 ^ 64
/-- The word with the field set. -/
def setN (w lo n v : Nat) : Nat := (w &&& (2 ^ 64 - 1 - maskN lo n)) ||| ((v <<< lo) % 2 ^ 64 &&& maskN lo n)
/-- The word with the sign of its lowest n bits. -/
def signN (w n : Nat) : Nat := if w.testBit (n - 1) then w ||| (2 ^ 64 - 1 - (2 ^ n - 1)) else w % 2 ^ n

theorem tb_big {w i : Nat} (h : w < 2 ^ 64) (hi : 64 ≤ i) : w.testBit i = false :=
  Nat.testBit_lt_two_pow (Nat.lt_of_lt_of_le h (Nat.pow_le_pow_right (by decide) hi))
theorem lt_of_tb {w n : Nat} (h : ∀ i, n ≤ i → w.testBit i = false) : w < 2 ^ n := Nat.lt_pow_two_of_testBit w h

theorem tb_get (w lo n i : Nat) : (getN w lo n).testBit i = (decide (i < n) && w.testBit (lo + i)) := by
  simp [getN, Nat.testBit_mod_two_pow, Nat.testBit_shiftRight]
theorem tb_mask (lo n i : Nat) : (maskN lo n).testBit i = (decide (i < 64) && decide (lo ≤ i) && decide (i < lo + n)) := by
  simp only [maskN, Nat.testBit_mod_two_pow, Nat.testBit_shiftLeft, Nat.testBit_two_pow_sub_one]
  by_cases h : lo ≤ i <;> simp [h]
  rw [show (decide (i - lo < n)) = decide (i < lo + n) by rw [decide_eq_decide]; omega]
theorem mask_lt (lo n : Nat) : maskN lo n < 2 ^ 64 := Nat.mod_lt _ (by decide)
theorem tb_not {x : Nat} (hx : x < 2 ^ 64) (i : Nat) : (2 ^ 64 - 1 - x).testBit i = (decide (i < 64) && !x.testBit i) := by
  rw [show 2 ^ 64 - 1 - x = 2 ^ 64 - (x + 1) by omega]; exact Nat.testBit_two_pow_sub_succ hx i
theorem tb_set {w : Nat} (hw : w < 2 ^ 64) (lo n v i : Nat) :
    (setN w lo n v).testBit i = if i < 64 ∧ lo ≤ i ∧ i < lo + n then v.testBit (i - lo) else w.testBit i := by
  simp only [setN, Nat.testBit_or, Nat.testBit_and, tb_not (mask_lt lo n), tb_mask, Nat.testBit_mod_two_pow, Nat.testBit_shiftLeft]
  by_cases h64 : i < 64
  · by_cases h1 : lo ≤ i <;> by_cases h2 : i < lo + n <;> simp [h64, h1, h2]
  · simp [h64, tb_big hw (Nat.le_of_not_lt h64)]
theorem get_lt (w lo n : Nat) : getN w lo n < 2 ^ n := Nat.mod_lt _ (Nat.two_pow_pos n)
theorem get_le {w : Nat} (hw : w < 2 ^ 64) (lo n : Nat) : getN w lo n < 2 ^ 64 :=
  Nat.lt_of_le_of_lt (Nat.le_trans (Nat.mod_le _ _) (Nat.shiftRight_le w lo)) hw
theorem set_lt {w : Nat} (hw : w < 2 ^ 64) (lo n v : Nat) : setN w lo n v < 2 ^ 64 := by
  apply lt_of_tb; intro i hi
  rw [tb_set hw, if_neg (by omega)]; exact tb_big hw hi
theorem tb_sign {w n : Nat} (hw : w < 2 ^ 64) (h1 : 1 ≤ n) (h2 : n ≤ 64) (i : Nat) :
    (signN w n).testBit i = (decide (i < 64) && w.testBit (min i (n - 1))) := by
  have hn : 2 ^ n - 1 < 2 ^ 64 := by
    have := Nat.pow_le_pow_right (n := 2) (by decide) h2
    have := Nat.two_pow_pos n
    omega
  unfold signN
  by_cases hi : i < n
  · rw [show min i (n - 1) = i by omega]
    split
    · rw [Nat.testBit_or, tb_not hn, Nat.testBit_two_pow_sub_one]; simp [hi, show i < 64 by omega]
    · rw [Nat.testBit_mod_two_pow]; simp [hi, show i < 64 by omega]
  · rw [show min i (n - 1) = n - 1 by omega]
    split
    · rename_i hs
      rw [Nat.testBit_or, tb_not hn, Nat.testBit_two_pow_sub_one]
      by_cases h64 : i < 64
      · simp [hi, h64, hs]
      · simp [h64, tb_big hw (Nat.le_of_not_lt h64)]
    · rename_i hs
      rw [Nat.testBit_mod_two_pow]; simp [hi, hs]
theorem sign_lt {w n : Nat} (hw : w < 2 ^ 64) (h1 : 1 ≤ n) (h2 : n ≤ 64) : signN w n < 2 ^ 64 := by
  apply lt_of_tb; intro i hi
  rw [tb_sign hw h1 h2]; simp [Nat.not_lt.2 hi]

/-! The laws. -/
theorem get_set {w lo n v : Nat} (hw : w < 2 ^ 64) (h : lo + n ≤ 64) : getN (setN w lo n v) lo n = getN v 0 n := by
  apply Nat.eq_of_testBit_eq; intro i
  rw [tb_get, tb_get, tb_set hw]
  by_cases hi : i < n
  · rw [if_pos (by omega)]; simp [hi]
  · simp [hi]
theorem set_get {w lo n : Nat} (hw : w < 2 ^ 64) : setN w lo n (getN w lo n) = w := by
  apply Nat.eq_of_testBit_eq; intro i
  rw [tb_set hw]; split
  · rename_i h; rw [tb_get, show lo + (i - lo) = i by omega]; simp; omega
  · rfl
theorem set_back {w lo n v : Nat} (hw : w < 2 ^ 64) : setN (setN w lo n v) lo n (getN w lo n) = w := by
  apply Nat.eq_of_testBit_eq; intro i
  rw [tb_set (set_lt hw _ _ _), tb_set hw, tb_get]; split
  · rename_i h; rw [show lo + (i - lo) = i by omega]; simp; omega
  · rfl
theorem get_below {w lo n v a m : Nat} (hw : w < 2 ^ 64) (h : a + m ≤ lo) : getN (setN w lo n v) a m = getN w a m := by
  apply Nat.eq_of_testBit_eq; intro i
  rw [tb_get, tb_get, tb_set hw]
  by_cases hi : i < m
  · rw [if_neg (by omega)]
  · simp [hi]
theorem get_above {w lo n v a m : Nat} (hw : w < 2 ^ 64) (h : lo + n ≤ a) : getN (setN w lo n v) a m = getN w a m := by
  apply Nat.eq_of_testBit_eq; intro i
  rw [tb_get, tb_get, tb_set hw, if_neg (by omega)]
theorem set_set {w lo n v a m u : Nat} (hw : w < 2 ^ 64) (h : lo + n ≤ a) :
    setN (setN w lo n v) a m u = setN (setN w a m u) lo n v := by
  apply Nat.eq_of_testBit_eq; intro i
  rw [tb_set (set_lt hw _ _ _), tb_set hw, tb_set (set_lt hw _ _ _), tb_set hw]
  by_cases h1 : i < 64 ∧ a ≤ i ∧ i < a + m
  · rw [if_pos h1, if_neg (by omega), if_pos h1]
  · rw [if_neg h1, if_neg h1]
theorem whole {w c : Nat} (hw : w < 2 ^ 64) (hc : c ≤ 64) : setN (setN 0 0 c (getN w 0 c)) c (64 - c) (getN w c (64 - c)) = w := by
  have h0 : (0 : Nat) < 2 ^ 64 := by decide
  apply Nat.eq_of_testBit_eq; intro i
  rw [tb_set (set_lt h0 _ _ _), tb_set h0, tb_get, tb_get]
  by_cases h64 : i < 64
  · by_cases h1 : c ≤ i
    · rw [if_pos (by omega), show c + (i - c) = i by omega]; simp; omega
    · rw [if_neg (by omega), if_pos (by omega)]; simp; omega
  · rw [if_neg (by omega), if_neg (by omega), tb_big hw (Nat.le_of_not_lt h64)]; simp
theorem sign_low {w m : Nat} (hw : w < 2 ^ 64) (h1 : 1 ≤ m) (h2 : m ≤ 64) : getN (signN w m) 0 m = getN w 0 m := by
  apply Nat.eq_of_testBit_eq; intro i
  rw [tb_get, tb_get, tb_sign hw h1 h2]
  by_cases hi : i < m
  · simp [hi, show i < 64 by omega, show min i (m - 1) = i by omega]
  · simp [hi]
theorem sign_sign {w m : Nat} (hw : w < 2 ^ 64) (h1 : 1 ≤ m) (h2 : m ≤ 64) : signN (signN w m) m = signN w m := by
  apply Nat.eq_of_testBit_eq; intro i
  rw [tb_sign (sign_lt hw h1 h2) h1 h2, tb_sign hw h1 h2, tb_sign hw h1 h2]
  by_cases h64 : i < 64
  · simp [h64, show min i (m - 1) < 64 by omega]
  · simp [h64]
theorem tb_one (w i : Nat) : (getN w i 1 = 1) ↔ w.testBit i = true := by
  unfold getN; rw [Nat.testBit_eq_decide_div_mod_eq]; simp [Nat.shiftRight_eq_div_pow]
theorem tb_nil (w i : Nat) : (getN w i 1 = 0) ↔ w.testBit i = false := by
  unfold getN; rw [Nat.testBit_eq_decide_div_mod_eq]; simp [Nat.shiftRight_eq_div_pow]
theorem sign_top {w m : Nat} (hw : w < 2 ^ 64) (h1 : 1 ≤ m) (h2 : m ≤ 64) : (signN w m / 2 ^ 63 = 1) ↔ (getN w (m - 1) 1 = 1) := by
  have hs := sign_lt hw h1 h2
  have ht := tb_sign hw h1 h2 63
  rw [show min 63 (m - 1) = m - 1 by omega] at ht
  rw [tb_one, ← Bool.eq_iff_iff.1 (show (signN w m).testBit 63 = w.testBit (m - 1) by simpa using ht), Nat.testBit_eq_decide_div_mod_eq]
  simp; omega
theorem get_get {w l a : Nat} : getN (getN w l 64) 0 a = (if a ≤ 64 then getN w l a else getN w l 64) := by
  apply Nat.eq_of_testBit_eq; intro i
  split <;> simp only [tb_get] <;> by_cases hi : i < a <;> simp [hi] <;> omega
theorem get_end {w a : Nat} (hw : w < 2 ^ 64) : getN w 64 a = 0 := by
  apply Nat.eq_of_testBit_eq; intro i
  rw [tb_get, tb_big hw (by omega)]; simp
theorem get_join {w l a b : Nat} (hw : w < 2 ^ 64) (h : a + b ≤ 64) : setN (getN w l a) a b (getN w (l + a) b) = getN w l (a + b) := by
  apply Nat.eq_of_testBit_eq; intro i
  rw [tb_set (get_le hw _ _), tb_get, tb_get, tb_get]
  by_cases h1 : i < a
  · rw [if_neg (by omega)]; simp [h1, show i < a + b by omega]
  · by_cases h2 : i < a + b
    · rw [if_pos (by omega), show l + a + (i - a) = l + i by omega]; simp [h2]; omega
    · rw [if_neg (by omega)]; simp [h1, h2]

/-! The same as Go's operations have them. -/
theorem ofInt_nat {a : Nat} (ha : a < 18446744073709551616) : (BitVec.ofInt 64 (a : Int)).toNat = a := by
  rw [BitVec.ofInt_natCast, BitVec.toNat_ofNat]; exact Nat.mod_eq_of_lt (by omega)
theorem and_u64 {a b : Nat} (ha : a < 18446744073709551616) (hb : b < 18446744073709551616) : bits .and .u64 (a : Int) (b : Int) = ((a &&& b : Nat) : Int) := by
  have hx : a &&& b < 2 ^ 64 := Nat.and_lt_two_pow _ (by omega)
  show IntKind.u64.wrap ((BitVec.ofInt 64 (a : Int) &&& BitVec.ofInt 64 (b : Int)).toNat : Int) = _
  rw [BitVec.toNat_and, ofInt_nat ha, ofInt_nat hb, IntKind.wrap_u64]; omega
theorem or_u64 {a b : Nat} (ha : a < 18446744073709551616) (hb : b < 18446744073709551616) : bits .or .u64 (a : Int) (b : Int) = ((a ||| b : Nat) : Int) := by
  have hx : a ||| b < 2 ^ 64 := Nat.or_lt_two_pow (by omega) (by omega)
  show IntKind.u64.wrap ((BitVec.ofInt 64 (a : Int) ||| BitVec.ofInt 64 (b : Int)).toNat : Int) = _
  rw [BitVec.toNat_or, ofInt_nat ha, ofInt_nat hb, IntKind.wrap_u64]; omega
theorem andNot_u64 {a b : Nat} (ha : a < 18446744073709551616) (hb : b < 18446744073709551616) :
    bits .andNot .u64 (a : Int) (b : Int) = ((a &&& (2 ^ 64 - 1 - b) : Nat) : Int) := by
  have hx : a &&& (2 ^ 64 - 1 - b) < 2 ^ 64 := Nat.and_lt_two_pow _ (by omega)
  show IntKind.u64.wrap ((BitVec.ofInt 64 (a : Int) &&& ~~~ BitVec.ofInt 64 (b : Int)).toNat : Int) = _
  rw [BitVec.toNat_and, BitVec.toNat_not, ofInt_nat ha, ofInt_nat hb, IntKind.wrap_u64]; omega
theorem xor_max_u64 {b : Nat} (hb : b < 18446744073709551616) : bits .xor .u64 IntKind.u64.max (b : Int) = ((2 ^ 64 - 1 - b : Nat) : Int) := by
  rw [show IntKind.u64.max = ((2 ^ 64 - 1 : Nat) : Int) by decide]
  have h : (2 ^ 64 - 1) ^^^ b = 2 ^ 64 - 1 - b := by
    apply Nat.eq_of_testBit_eq; intro i
    rw [Nat.testBit_xor, Nat.testBit_two_pow_sub_one, tb_not (by omega)]
    by_cases h64 : i < 64
    · simp [h64]
    · simp [h64, tb_big (show b < 2 ^ 64 by omega) (Nat.le_of_not_lt h64)]
  rw [bits_xor_u64_nat _ _ (by decide) hb, h]
end Go.Proofs.YtngioemeplllhaaDoor
