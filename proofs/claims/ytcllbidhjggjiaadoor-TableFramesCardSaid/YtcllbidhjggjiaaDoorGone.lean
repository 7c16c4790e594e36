/- Plain facts on fields of words as natural numbers, bit by bit: what a field is, what a set field is, signs. -/
import Derived.Laws.Entries
import Derived.Laws.Bits64
import Derived.Test.YtcllbidhjggjiaaDoorRows
import Derived.WalkKit
import Derived.ProofKit
import Derived.OpenShut
import Derived.Lib.Hide
namespace Go.Proofs.YtcllbidhjggjiaaDoor

/-- The field of n bits from the bit lo on. -/
def getN (w lo n : Nat) : Nat := (w >>> lo) % 2 ^ n
/-- The mask of a field, cut at 64 bits. -/
def maskN (lo n : Nat) : Nat := ((2 ^ n - 1) <<< lo) % 2 ^ 64
/-- The word with the field set. -/
def setN (w lo n v : Nat) : Nat := (w &&& (2 ^ 64 - 1 - maskN lo n)) ||| ((v <<< lo) % 2 ^ 64 &&& maskN lo n)
/-- The word with the sign of its lowest n bits. -/
def signN (w n : Nat) : Nat := if w.testBit (n - 1) then w ||| (2 ^ 64 - 1 - (2 ^ n - 1)) else w % 2 ^ n

theorem tb_big {w i : Nat} (h : w < 2 ^ 64) (hi : 64 ≤ i) : w.testBit i = false :=
  Nat.testBit_lt_two_pow (Nat.lt_of_lt_of_le h (Nat.pow_le_pow_right (by decide) hi))
theorem lt_of_tb {w n : Nat} (h : ∀ i, n ≤ i → w.testBit i = false) : w < 2 ^ n := Nat.lt_pow_two_of_testBit w h

theorem tb_get (w lo n i : Nat) : (getN w lo n).testBit i = (decide (i < n) && w.testBit (lo + i)) := by
  simp [getN, Nat.testBit_mod_two_pow, Nat.testBit_shiftRight]
theorem tb_mask (lo n i : Nat) : (maskN lo n).testBit i = (decide (i < 64) && decide (lo ≤ i) && decide (i < lo + n)) := by
  simp only [maskN, Nat.testBit_mod_two_pow, Nat.testBit_shiftLeft, Nat.testBit_two_pow_sub_one]
  by_cases h : lo ≤ i <;> simp [h]
  rw [show (decide (i - lo < n)) = decide (i < lo + n) by rw [decide_eq_decide]; omega]
theorem mask_lt (lo n : Nat) : maskN lo n < 2 ^ 64 := Nat.mod_lt _ (by decide)
theorem tb_not {x : Nat} (hx : x < 2 ^ 64) (i : Nat) : (2 ^ 64 - 1 - x).testBit i = (decide (i < 64) && !x.testBit i) := by
  rw [show 2 ^ 64 - 1 - x = 2 ^ 64 - (x + 1) by omega]; exact Nat.testBit_two_pow_sub_succ hx i
theorem tb_set {w : Nat} (hw : w < 2 ^ 64) (lo n v i : Nat) :
    (setN w lo n v).testBit i = if i < 64 ∧ lo ≤ i ∧ i < lo + n then v.testBit (i - lo) else w.testBit i := by
  simp only [setN, Nat.testBit_or, Nat.testBit_and, tb_not (mask_lt lo n), tb_mask, Nat.testBit_mod_two_pow, Nat.testBit_shiftLeft]
  by_cases h64 : i < 64
  · by_cases h1 : lo ≤ i <;> by_cases h2 : i < lo + n <;> simp [h64, h1, h2]
  · simp [h64, tb_big hw (Nat.le_of_not_lt h64)]
theorem get_lt (w lo n : Nat) : getN w lo n < 2 ^ n := Nat.mod_lt _ (Nat.two_pow_pos n)
theorem get_le {w : Nat} (hw : w < 2 ^ 64) (lo n : Nat) : getN w lo n < 2 ^ 64 :=
  Nat.lt_of_le_of_lt (Nat.le_trans (Nat.mod_le _ _) (Nat.shiftRight_le w lo)) hw
theorem set_lt {w : Nat} (hw : w < 2 ^ 64) (lo n v : Nat) : setN w lo n v < 2 ^ 64 := by
  apply lt_of_tb; intro i hi
  rw [tb_set hw, if_neg (by omega)]; exact tb_big hw hi
theorem tb_sign {w n : Nat} (hw : w < 2 ^ 64) (h1 : 1 ≤ n) (h2 : n ≤ 64) (i : Nat) :
    (signN w n).testBit i = (decide (i < 64) && w.testBit (min i (n - 1))) := by
  have hn : 2 ^ n - 1 < 2 ^ 64 := by
    have := Nat.pow_le_pow_right (n := 2) (by decide) h2
    have := Nat.two_pow_pos n
    omega
  unfold signN
  by_cases hi : i < n
  · rw [show min i (n - 1) = i by omega]
    split
    · rw [Nat.testBit_or, tb_not hn, Nat.testBit_two_pow_sub_one]; simp [hi, show i < 64 by omega]
    · rw [Nat.testBit_mod_two_pow]; simp [hi, show i < 64 by omega]
  · rw [show min i (n - 1) = n - 1 by omega]
    split
    · rename_i hs
      rw [Nat.testBit_or, tb_not hn, Nat.testBit_two_pow_sub_one]
      by_cases h64 : i < 64
      · simp [hi, h64, hs]
      · simp [h64, tb_big hw (Nat.le_of_not_lt h64)]
    · rename_i hs
      rw [Nat.testBit_mod_two_pow]; simp [hi, hs]
theorem sign_lt {w n : Nat} (hw : w < 2 ^ 64) (h1 : 1 ≤ n) (h2 : n ≤ 64) : signN w n < 2 ^ 64 := by
  apply lt_of_tb; intro i hi
  rw [tb_sign hw h1 h2]; simp [Nat.not_lt.2 hi]

/-! The laws. -/
theorem get_set {w lo n v : Nat} (hw : w < 2 ^ 64) (h : lo + n ≤ 64) : getN (setN w lo n v) lo n = getN v 0 n := by
  apply Nat.eq_of_testBit_eq; intro i
  rw [tb_get, tb_get, tb_set hw]
  by_cases hi : i < n
  · rw [if_pos (by omega)]; simp [hi]
  · simp [hi]
theorem set_get {w lo n : Nat} (hw : w < 2 ^ 64) : setN w lo n (getN w lo n) = w := by
  apply Nat.eq_of_testBit_eq; intro i
  rw [tb_set hw]; split
  · rename_i h; rw [tb_get, show lo + (i - lo) = i by omega]; simp; omega
  · rfl
theorem set_back {w lo n v : Nat} (hw : w < 2 ^ 64) : setN (setN w lo n v) lo n (getN w lo n) = w := by
  apply Nat.eq_of_testBit_eq; intro i
  rw [tb_set (set_lt hw _ _ _), tb_set hw, tb_get]; split
  · rename_i h; rw [show lo + (i - lo) = i by omega]; simp; omega
  · rfl
theorem get_below {w lo n v a m : Nat} (hw : w < 2 ^ 64) (h : a + m ≤ lo) : getN (setN w lo n v) a m = getN w a m := by
  apply Nat.eq_of_testBit_eq; intro i
  rw [tb_get, tb_get, tb_set hw]
  by_cases hi : i < m
  · rw [if_neg (by omega)]
  · simp [hi]
theorem get_above {w lo n v a m : Nat} (hw : w < 2 ^ 64) (h : lo + n ≤ a) : getN (setN w lo n v) a m = getN w a m := by
  apply Nat.eq_of_testBit_eq; intro i
  rw [tb_get, tb_get, tb_set hw, if_neg (by omega)]
theorem set_set {w lo n v a m u : Nat} (hw : w < 2 ^ 64) (h : lo + n ≤ a) :
    setN (setN w lo n v) a m u = setN (setN w a m u) lo n v := by
  apply Nat.eq_of_testBit_eq; intro i
  rw [tb_set (set_lt hw _ _ _), tb_set hw, tb_set (set_lt hw _ _ _), tb_set hw]
  by_cases h1 : i < 64 ∧ a ≤ i ∧ i < a + m
  · rw [if_pos h1, if_neg (by omega), if_pos h1]
  · rw [if_neg h1, if_neg h1]
theorem whole {w c : Nat} (hw : w < 2 ^ 64) (hc : c ≤ 64) : setN (setN 0 0 c (getN w 0 c)) c (64 - c) (getN w c (64 - c)) = w := by
  have h0 : (0 : Nat) < 2 ^ 64 := by decide
  apply Nat.eq_of_testBit_eq; intro i
  rw [tb_set (set_lt h0 _ _ _), tb_set h0, tb_get, tb_get]
  by_cases h64 : i < 64
  · by_cases h1 : c ≤ i
    · rw [if_pos (by omega), show c + (i - c) = i by omega]; simp; omega
    · rw [if_neg (by omega), if_pos (by omega)]; simp; omega
  · rw [if_neg (by omega), if_neg (by omega), tb_big hw (Nat.le_of_not_lt h64)]; simp
theorem sign_low {w m : Nat} (hw : w < 2 ^ 64) (h1 : 1 ≤ m) (h2 : m ≤ 64) : getN (signN w m) 0 m = getN w 0 m := by
  apply Nat.eq_of_testBit_eq; intro i
  rw [tb_get, tb_get, tb_sign hw h1 h2]
  by_cases hi : i < m
  · simp [hi, show i < 64 by omega, show min i (m - 1) = i by omega]
  · simp [hi]
theorem sign_sign {w m : Nat} (hw : w < 2 ^ 64) (h1 : 1 ≤ m) (h2 : m ≤ 64) : signN (signN w m) m = signN w m := by
  apply Nat.eq_of_testBit_eq; intro i
  rw [tb_sign (sign_lt hw h1 h2) h1 h2, tb_sign hw h1 h2, tb_sign hw h1 h2]
  by_cases h64 : i < 64
  · simp [h64, show min i (m - 1) < 64 by omega]
  · simp [h64]
theorem tb_one (w i : Nat) : (getN w i 1 = 1) ↔ w.testBit i = true := by
  unfold getN; rw [Nat.testBit_eq_decide_div_mod_eq]; simp [Nat.shiftRight_eq_div_pow]
theorem tb_nil (w i : Nat) : (getN w i 1 = 0) ↔ w.testBit i = false := by
  unfold getN; rw [Nat.testBit_eq_decide_div_mod_eq]; simp [Nat.shiftRight_eq_div_pow]
theorem sign_top {w m : Nat} (hw : w < 2 ^ 64) (h1 : 1 ≤ m) (h2 : m ≤ 64) : (signN w m / 2 ^ 63 = 1) ↔ (getN w (m - 1) 1 = 1) := by
  have hs := sign_lt hw h1 h2
  have ht := tb_sign hw h1 h2 63
  rw [show min 63 (m - 1) = m - 1 by omega] at ht
  rw [tb_one, ← Bool.eq_iff_iff.1 (show (signN w m).testBit 63 = w.testBit (m - 1) by simpa using ht), Nat.testBit_eq_decide_div_mod_eq]
  simp; omega
theorem get_get {w l a : Nat} : getN (getN w l 64) 0 a = (if a ≤ 64 then getN w l a else getN w l 64) := by
  apply Nat.eq_of_testBit_eq; intro i
  split <;> simp only [tb_get] <;> by_cases hi : i < a <;> simp [hi] <;> omega
theorem get_end {w a : Nat} (hw : w < 2 ^ 64) : getN w 64 a = 0 := by
  apply Nat.eq_of_testBit_eq; intro i
  rw [tb_get, tb_big hw (by omega)]; simp
theorem get_join {w l a b : Nat} (hw : w < 2 ^ 64) (h : a + b ≤ 64) : setN (getN w l a) a b (getN w (l + a) b) = getN w l (a + b) := by
  apply Nat.eq_of_testBit_eq; intro i
  rw [tb_set (get_le hw _ _), tb_get, tb_get, tb_get]
  by_cases h1 : i < a
  · rw [if_neg (by omega)]; simp [h1, show i < a + b by omega]
  · by_cases h2 : i < a + b
    · rw [if_pos (by omega), show l + a + (i - a) = l + i by omega]; simp [h2]; omega
    · rw [if_neg (by omega)]; simp [h1, h2]

/-! The same as Go's operations have them. -/
theorem ofInt_nat {a : Nat} (ha : a < 18446744073709551616) : (BitVec.ofInt 64 (a : Int)).toNat = a := by
  rw [BitVec.ofInt_natCast, BitVec.toNat_ofNat]; exact Nat.mod_eq_of_lt (by omega)
theorem and_u64 {a b : Nat} (ha : a < 18446744073709551616) (hb : b < 18446744073709551616) : bits .and .u64 (a : Int) (b : Int) = ((a &&& b : Nat) : Int) := by
  have hx : a &&& b < 2 ^ 64 := Nat.and_lt_two_pow _ (by omega)
  show IntKind.u64.wrap ((BitVec.ofInt 64 (a : Int) &&& BitVec.ofInt 64 (b : Int)).toNat : Int) = _
  rw [BitVec.toNat_and, ofInt_nat ha, ofInt_nat hb, IntKind.wrap_u64]; omega
theorem or_u64 {a b : Nat} (ha : a < 18446744073709551616) (hb : b < 18446744073709551616) : bits .or .u64 (a : Int) (b : Int) = ((a ||| b : Nat) : Int) := by
  have hx : a ||| b < 2 ^ 64 := Nat.or_lt_two_pow (by omega) (by omega)
  show IntKind.u64.wrap ((BitVec.ofInt 64 (a : Int) ||| BitVec.ofInt 64 (b : Int)).toNat : Int) = _
  rw [BitVec.toNat_or, ofInt_nat ha, ofInt_nat hb, IntKind.wrap_u64]; omega
theorem andNot_u64 {a b : Nat} (ha : a < 18446744073709551616) (hb : b < 18446744073709551616) :
    bits .andNot .u64 (a : Int) (b : Int) = ((a &&& (2 ^ 64 - 1 - b) : Nat) : Int) := by
  have hx : a &&& (2 ^ 64 - 1 - b) < 2 ^ 64 := Nat.and_lt_two_pow _ (by omega)
  show IntKind.u64.wrap ((BitVec.ofInt 64 (a : Int) &&& ~~~ BitVec.ofInt 64 (b : Int)).toNat : Int) = _
  rw [BitVec.toNat_and, BitVec.toNat_not, ofInt_nat ha, ofInt_nat hb, IntKind.wrap_u64]; omega
theorem xor_max_u64 {b : Nat} (hb : b < 18446744073709551616) : bits .xor .u64 IntKind.u64.max (b : Int) = ((2 ^ 64 - 1 - b : Nat) : Int) := by
  rw [show IntKind.u64.max = ((2 ^ 64 - 1 : Nat) : Int) by decide]
  have h : (2 ^ 64 - 1) ^^^ b = 2 ^ 64 - 1 - b := by
    apply Nat.eq_of_testBit_eq; intro i
    rw [Nat.testBit_xor, Nat.testBit_two_pow_sub_one, tb_not (by omega)]
    by_cases h64 : i < 64
    · simp [h64]
    · simp [h64, tb_big (show b < 2 ^ 64 by omega) (Nat.le_of_not_lt h64)]
  rw [bits_xor_u64_nat _ _ (by decide) hb, h]
end Go.Proofs.YtcllbidhjggjiaaDoor
/- The contracts of package bits: what each function answers, in whatever world, leaving it as it was. -/
namespace Go.Proofs.YtcllbidhjggjiaaDoor
open Go.ChangeShapes Go.WideShapes Go.ChangeAt Go.RowKit
set_option linter.unusedVariables false

def lowI (n : Int) : Int := ((2 ^ n.toNat - 1 : Nat) : Int)
def maskI (lo n : Int) : Int := ((maskN lo.toNat n.toNat : Nat) : Int)
def getI (w lo n : Int) : Int := ((getN w.toNat lo.toNat n.toNat : Nat) : Int)
def setI (w lo n v : Int) : Int := ((setN w.toNat lo.toNat n.toNat v.toNat : Nat) : Int)
def signI (w n : Int) : Int := ((signN w.toNat n.toNat : Nat) : Int)
def evenB (w b : Int) : Bool := if b = 0 then w == 0 else w % b == 0

theorem lowN_lt {n : Nat} (h : n ≤ 64) : 2 ^ n - 1 < 18446744073709551616 := by
  have := Nat.pow_le_pow_right (n := 2) (by decide) h
  have := Nat.two_pow_pos n
  omega
theorem pow_cast (k : Nat) : (2 : Int) ^ k = ((2 ^ k : Nat) : Int) := by simp
theorem getI_ge (w lo n : Int) : 0 ≤ getI w lo n := Int.natCast_nonneg _
theorem setI_ge (w lo n v : Int) : 0 ≤ setI w lo n v := Int.natCast_nonneg _
theorem signI_ge (w n : Int) : 0 ≤ signI w n := Int.natCast_nonneg _
theorem getI_lt {w : Int} (lo n : Int) (h0 : 0 ≤ w) (h : w < 18446744073709551616) : getI w lo n < 18446744073709551616 := by
  have := get_le (w := w.toNat) (by omega) lo.toNat n.toNat
  unfold getI; omega
theorem setI_lt {w : Int} (lo n v : Int) (h0 : 0 ≤ w) (h : w < 18446744073709551616) : setI w lo n v < 18446744073709551616 := by
  have := set_lt (w := w.toNat) (by omega) lo.toNat n.toNat v.toNat
  unfold setI; omega
theorem signI_lt {w n : Int} (h0 : 0 ≤ w) (h : w < 18446744073709551616) (h1 : 1 ≤ n) (h2 : n ≤ 64) : signI w n < 18446744073709551616 := by
  have := sign_lt (w := w.toNat) (n := n.toNat) (by omega) (by omega) (by omega)
  unfold signI; omega

theorem low_eq {n : Int} (h0 : 0 ≤ n) (h1 : n ≤ 64) : IntKind.u64.wrap (IntKind.u64.wrap (2 ^ n.toNat) - 1) = lowI n := by
  obtain ⟨k, rfl⟩ := Int.eq_ofNat_of_zero_le h0
  have hl := lowN_lt (n := k) (by omega)
  have hp := Nat.two_pow_pos k
  rw [IntKind.wrap_u64, IntKind.wrap_u64]
  unfold lowI; rw [Int.toNat_natCast, pow_cast]
  omega
theorem shl_eq {x lo : Int} (hx : 0 ≤ x) (l0 : 0 ≤ lo) : IntKind.u64.wrap (x * 2 ^ lo.toNat) = (((x.toNat <<< lo.toNat) % 2 ^ 64 : Nat) : Int) := by
  obtain ⟨k, rfl⟩ := Int.eq_ofNat_of_zero_le l0
  obtain ⟨m, rfl⟩ := Int.eq_ofNat_of_zero_le hx
  rw [IntKind.wrap_u64]
  rw [Int.toNat_natCast, Int.toNat_natCast, pow_cast, Nat.shiftLeft_eq]
  omega
theorem mask_eq {lo n : Int} (l0 : 0 ≤ lo) : IntKind.u64.wrap (lowI n * 2 ^ lo.toNat) = maskI lo n := by
  rw [shl_eq (x := lowI n) (Int.natCast_nonneg _) l0]
  unfold lowI maskI maskN; rw [Int.toNat_natCast]
theorem get_eq {x lo n : Int} (x0 : 0 ≤ x) (x1 : x < 18446744073709551616) (h1 : n ≤ 64) :
    bits .and .u64 (x / 2 ^ lo.toNat) (lowI n) = getI x lo n := by
  obtain ⟨m, rfl⟩ := Int.eq_ofNat_of_zero_le x0
  have hl := lowN_lt (n := n.toNat) (by omega)
  have hd : m / 2 ^ lo.toNat ≤ m := Nat.div_le_self _ _
  unfold lowI getI getN
  rw [pow_cast, ← Int.natCast_ediv, and_u64 (by omega) hl, Nat.and_two_pow_sub_one_eq_mod, Int.toNat_natCast, Nat.shiftRight_eq_div_pow]
theorem set_eq {x lo n v : Int} (x0 : 0 ≤ x) (x1 : x < 18446744073709551616) (v0 : 0 ≤ v) (l0 : 0 ≤ lo) :
    bits .or .u64 (bits .andNot .u64 x (maskI lo n)) (bits .and .u64 (IntKind.u64.wrap (v * 2 ^ lo.toNat)) (maskI lo n)) = setI x lo n v := by
  have hm := mask_lt lo.toNat n.toNat
  have hs : (v.toNat <<< lo.toNat) % 2 ^ 64 < 2 ^ 64 := Nat.mod_lt _ (by decide)
  obtain ⟨m, rfl⟩ := Int.eq_ofNat_of_zero_le x0
  rw [shl_eq v0 l0]
  unfold maskI setI setN
  have h1 : m &&& (2 ^ 64 - 1 - maskN lo.toNat n.toNat) < 2 ^ 64 := Nat.and_lt_two_pow _ (by omega)
  have h2 : (v.toNat <<< lo.toNat) % 2 ^ 64 &&& maskN lo.toNat n.toNat < 2 ^ 64 := Nat.and_lt_two_pow _ hm
  rw [andNot_u64 (by omega) (by omega), and_u64 (by omega) (by omega), or_u64 (by omega) (by omega), Int.toNat_natCast]
theorem sign_no {x n : Int} (x0 : 0 ≤ x) (x1 : x < 18446744073709551616) (h0 : 1 ≤ n) (h1 : n ≤ 64) (h : getI x (n - 1) 1 = 0) :
    bits .and .u64 x (lowI n) = signI x n := by
  have hl := lowN_lt (n := n.toNat) (by omega)
  have ht : x.toNat.testBit (n.toNat - 1) = false := by
    rw [← tb_nil]; unfold getI at h; rw [show (n - 1).toNat = n.toNat - 1 by omega] at h; exact Int.ofNat_eq_zero.1 h
  obtain ⟨m, rfl⟩ := Int.eq_ofNat_of_zero_le x0
  rw [Int.toNat_natCast] at ht
  unfold lowI signI signN
  rw [and_u64 (by omega) hl, Nat.and_two_pow_sub_one_eq_mod, Int.toNat_natCast, ht]; rfl
theorem sign_yes {x n : Int} (x0 : 0 ≤ x) (x1 : x < 18446744073709551616) (h0 : 1 ≤ n) (h1 : n ≤ 64) (h : ¬ getI x (n - 1) 1 = 0) :
    bits .or .u64 x (bits .xor .u64 18446744073709551615 (lowI n)) = signI x n := by
  have hl := lowN_lt (n := n.toNat) (by omega)
  have ht : x.toNat.testBit (n.toNat - 1) = true := by
    rw [← Bool.not_eq_false, ← tb_nil]; intro h'; apply h; unfold getI; rw [show (n - 1).toNat = n.toNat - 1 by omega]; exact Int.ofNat_eq_zero.2 h'
  obtain ⟨m, rfl⟩ := Int.eq_ofNat_of_zero_le x0
  rw [Int.toNat_natCast] at ht
  unfold lowI signI signN
  rw [show (18446744073709551615 : Int) = IntKind.u64.max by decide, xor_max_u64 hl, or_u64 (by omega) (by omega), Int.toNat_natCast, ht]; rfl

attribute [irreducible] getI setI signI maskI lowI

theorem low_c (n : Int) (h0 : 0 ≤ n) (h1 : n ≤ 64) (w : World) :
    Calls Tryd.prog 99 #[.int .i64 n] w fun e w' => e = .returned (.int .u64 (lowI n)) ∧ w = w' := by
  go_enter Tryd.func99, Tryd.ntmps99
  go_wp2
  go_ret
  exact ⟨congrArg (fun i => Ending.returned (.int .u64 i)) (low_eq h0 h1), rfl⟩

theorem mask_c (lo n : Int) (l0 : 0 ≤ lo) (l1 : lo ≤ 64) (h0 : 0 ≤ n) (h1 : n ≤ 64) (w : World) :
    Calls Tryd.prog 104 #[.int .i64 lo, .int .i64 n] w fun e w' => e = .returned (.int .u64 (maskI lo n)) ∧ w = w' := by
  go_enter Tryd.func104, Tryd.ntmps104
  go_wp2_with (go_at_call 99; refine (low_c _ (by omega) (by omega) _).mono ?_; rintro e w' ⟨rfl, rfl⟩)
  go_ret
  exact ⟨congrArg (fun i => Ending.returned (.int .u64 i)) (mask_eq l0), rfl⟩

theorem get_c (x lo n : Int) (x0 : 0 ≤ x) (x1 : x < 18446744073709551616) (l0 : 0 ≤ lo) (l1 : lo ≤ 64) (h0 : 0 ≤ n) (h1 : n ≤ 64) (w : World) :
    Calls Tryd.prog 83 #[.int .u64 x, .int .i64 lo, .int .i64 n] w fun e w' => e = .returned (.int .u64 (getI x lo n)) ∧ w = w' := by
  go_enter Tryd.func83, Tryd.ntmps83
  go_wp2_with (go_at_call 99; refine (low_c _ (by omega) (by omega) _).mono ?_; rintro e w' ⟨rfl, rfl⟩)
  go_ret
  exact ⟨congrArg (fun i => Ending.returned (.int .u64 i)) (get_eq x0 x1 h1), rfl⟩

theorem set_c (x lo n v : Int) (x0 : 0 ≤ x) (x1 : x < 18446744073709551616) (v0 : 0 ≤ v) (v1 : v < 18446744073709551616) (l0 : 0 ≤ lo) (l1 : lo ≤ 64) (h0 : 0 ≤ n) (h1 : n ≤ 64) (w : World) :
    Calls Tryd.prog 88 #[.int .u64 x, .int .i64 lo, .int .i64 n, .int .u64 v] w fun e w' => e = .returned (.int .u64 (setI x lo n v)) ∧ w = w' := by
  go_enter Tryd.func88, Tryd.ntmps88
  go_wp2_with (go_at_call 104; refine (mask_c _ _ (by omega) (by omega) (by omega) (by omega) _).mono ?_; rintro e w' ⟨rfl, rfl⟩)
  go_ret
  exact ⟨congrArg (fun i => Ending.returned (.int .u64 i)) (set_eq x0 x1 v0 l0), rfl⟩

end Go.Proofs.YtcllbidhjggjiaaDoor
/- The contracts of package bits, the rest: signs, multiples, bools. -/
namespace Go.Proofs.YtcllbidhjggjiaaDoor
open Go.ChangeShapes Go.WideShapes Go.ChangeAt Go.RowKit
set_option linter.unusedVariables false

theorem sign_c (x n : Int) (x0 : 0 ≤ x) (x1 : x < 18446744073709551616) (h0 : 1 ≤ n) (h1 : n ≤ 64) (w : World) :
    Calls Tryd.prog 98 #[.int .u64 x, .int .i64 n] w fun e w' => e = .returned (.int .u64 (signI x n)) ∧ w = w' := by
  by_cases hb : getI x (n - 1) 1 = 0
  · have hbb : (getI x (n - 1) 1 == 0) = true := by simpa using hb
    have H := Lib.hid (sign_no x0 x1 h0 h1 hb); clear hb
    go_enter Tryd.func98, Tryd.ntmps98
    go_wp2_with first | (go_at_call 99; refine (low_c _ (by omega) (by omega) _).mono ?_; rintro e w' ⟨rfl, rfl⟩) | (go_at_call 83; refine (get_c _ _ _ (by omega) (by omega) (by omega) (by omega) (by omega) (by omega) _).mono ?_; rintro e w' ⟨rfl, rfl⟩)
    go_ret
    exact ⟨congrArg (fun i => Ending.returned (.int .u64 i)) H.out, rfl⟩
  · have hbb : (getI x (n - 1) 1 == 0) = false := by simpa using hb
    have H := Lib.hid (sign_yes x0 x1 h0 h1 hb); clear hb
    go_enter Tryd.func98, Tryd.ntmps98
    go_wp2_with first | (go_at_call 99; refine (low_c _ (by omega) (by omega) _).mono ?_; rintro e w' ⟨rfl, rfl⟩) | (go_at_call 83; refine (get_c _ _ _ (by omega) (by omega) (by omega) (by omega) (by omega) (by omega) _).mono ?_; rintro e w' ⟨rfl, rfl⟩)
    go_ret
    exact ⟨congrArg (fun i => Ending.returned (.int .u64 i)) H.out, rfl⟩

theorem even_c (x b : Int) (x0 : 0 ≤ x) (x1 : x < 18446744073709551616) (b0 : 0 ≤ b) (b1 : b < 18446744073709551616) (w : World) :
    Calls Tryd.prog 102 #[.int .u64 x, .int .u64 b] w fun e w' => e = .returned (.bool (evenB x b)) ∧ w = w' := by
  by_cases hb : b = 0
  · subst hb
    go_enter Tryd.func102, Tryd.ntmps102
    go_wp2
    go_ret
    exact ⟨rfl, rfl⟩
  · have hbb : (b == 0) = false := by simpa using hb
    have H : Hid (evenB x b = (x % b == 0)) := Lib.hid (by unfold evenB; rw [if_neg hb])
    go_enter Tryd.func102, Tryd.ntmps102
    go_wp2
    go_ret
    exact ⟨by rw [H.out]; rfl, rfl⟩

theorem bool_c (b : Bool) (w : World) :
    Calls Tryd.prog 94 #[.bool b] w fun e w' => e = .returned (.int .u64 (if b then 1 else 0)) ∧ w = w' := by
  cases b
  all_goals
    go_enter Tryd.func94, Tryd.ntmps94
    go_wp2
    go_ret
    exact ⟨rfl, rfl⟩
end Go.Proofs.YtcllbidhjggjiaaDoor
