/- Plain facts on fields of words as natural numbers, bit by bit: what a field is, what a set field is, signs. -/
import Derived.Laws.Entries
import Derived.Laws.Bits64
import Derived.Test.YticbjiddbjgikaaDoorRows
import Derived.WalkKit
import Derived.ProofKit
import Derived.OpenShut
import Derived.Lib.Hide
namespace Go.Proofs.YticbjiddbjgikaaDoor

/-- The field of n bits from the bit lo on. -/
def getN (w lo n : Nat) : Nat := (w >>> lo) % 2 ^ n
/-- The mask of a field, cut at 64 bits. -/
def maskN (lo n : Nat) : Nat := ((2 ^ n - 1) <<< lo) % 2 ^ 64
/-- The word with the field set. -/
def setN (w lo n v : Nat) : Nat := (w &&& (2 ^ 64 - 1 - maskN lo n)) ||| ((v <<< lo) % 2 ^ 64 &&& maskN lo n)
/-- The word with the sign of its lowest n bits. -/
def signN (w n : Nat) : Nat := if w.testBit (n - 1) then w ||| (2 ^ 64 - 1 - (2 ^ n - 1)) else w % 2 ^ n

theorem tb_big {w i : Nat} (h : w < 2 ^ 64) (hi : 64 ≤ i) : w.testBit i = false :=
  Nat.testBit_lt_two_pow (Nat.lt_of_lt_of_le h (Nat.pow_le_pow_right (by decide) hi))
theorem lt_of_tb {w n : Nat} (h : ∀ i, n ≤ i → w.testBit i = false) : w < 2 ^ n := Nat.lt_pow_two_of_testBit w h

theorem tb_get (w lo n i : Nat) : (getN w lo n).testBit i = (decide (i < n) && w.testBit (lo + i)) := by
  simp [getN, Nat.testBit_mod_two_pow, Nat.testBit_shiftRight]
theorem tb_mask (lo n i : Nat) : (maskN lo n).testBit i = (decide (i < 64) && decide (lo ≤ i) && decide (i < lo + n)) := by
  simp only [maskN, Nat.testBit_mod_two_pow, Nat.testBit_shiftLeft, Nat.testBit_two_pow_sub_one]
  by_cases h : lo ≤ i <;> simp [h]
  rw [show (decide (i - lo < n)) = decide (i < lo + n) by rw [decide_eq_decide]; omega]
theorem mask_lt (lo n : Nat) : maskN lo n < 2 ^ 64 := Nat.mod_lt _ (by decide)
theorem tb_not {x : Nat} (hx : x < 2 ^ 64) (i : Nat) : (2 ^ 64 - 1 - x).testBit i = (decide (i < 64) && !x.testBit i) := by
  rw [show 2 ^ 64 - 1 - x = 2 ^ 64 - (x + 1) by omega]; exact Nat.testBit_two_pow_sub_succ hx i
theorem tb_set {w : Nat} (hw : w < 2 ^ 64) (lo n v i : Nat) :
    (setN w lo n v).testBit i = if i < 64 ∧ lo ≤ i ∧ i < lo + n then v.testBit (i - lo) else w.testBit i := by
  simp only [setN, Nat.testBit_or, Nat.testBit_and, tb_not (mask_lt lo n), tb_mask, Nat.testBit_mod_two_pow, Nat.testBit_shiftLeft]
  by_cases h64 : i < 64
  · by_cases h1 : lo ≤ i <;> by_cases h2 : i < lo + n <;> simp [h64, h1, h2]
  · simp [h64, tb_big hw (Nat.le_of_not_lt h64)]
theorem set_lt {w : Nat} (hw : w < 2 ^ 64) (lo n v : Nat) : setN w lo n v < 2 ^ 64 := by
  apply lt_of_tb; intro i hi
  rw [tb_set hw, if_neg (by omega)]; exact tb_big hw hi
theorem tb_sign {w n : Nat} (hw : w < 2 ^ 64) (h1 : 1 ≤ n) (h2 : n ≤ 64) (i : Nat) :
    (signN w n).testBit i = (decide (i < 64) && w.testBit (min i (n - 1))) := by
  have hn : 2 ^ n - 1 < 2 ^ 64 := by
    have := Nat.pow_le_pow_right (n := 2) (by decide) h2
    have := Nat.two_pow_pos n
    omega
  unfold signN
  by_cases hi : i < n
  · rw [show min i (n - 1) = i by omega]
    split
    · rw [Nat.testBit_or, tb_not hn, Nat.testBit_two_pow_sub_one]; simp [hi, show i < 64 by omega]
    · rw [Nat.testBit_mod_two_pow]; simp [hi, show i < 64 by omega]
  · rw [show min i (n - 1) = n - 1 by omega]
    split
    · rename_i hs
      rw [Nat.testBit_or, tb_not hn, Nat.testBit_two_pow_sub_one]
      by_cases h64 : i < 64
      · simp [hi, h64, hs]
      · simp [h64, tb_big hw (Nat.le_of_not_lt h64)]
    · rename_i hs
      rw [Nat.testBit_mod_two_pow]; simp [hi, hs]
theorem whole {w c : Nat} (hw : w < 2 ^ 64) (hc : c ≤ 64) : setN (setN 0 0 c (getN w 0 c)) c (64 - c) (getN w c (64 - c)) = w := by
  have h0 : (0 : Nat) < 2 ^ 64 := by decide
  apply Nat.eq_of_testBit_eq; intro i
  rw [tb_set (set_lt h0 _ _ _), tb_set h0, tb_get, tb_get]
  by_cases h64 : i < 64
  · by_cases h1 : c ≤ i
    · rw [if_pos (by omega), show c + (i - c) = i by omega]; simp; omega
    · rw [if_neg (by omega), if_pos (by omega)]; simp; omega
  · rw [if_neg (by omega), if_neg (by omega), tb_big hw (Nat.le_of_not_lt h64)]; simp
theorem tb_one (w i : Nat) : (getN w i 1 = 1) ↔ w.testBit i = true := by
  unfold getN; rw [Nat.testBit_eq_decide_div_mod_eq]; simp [Nat.shiftRight_eq_div_pow]
/-! The same as Go's operations have them. -/
theorem ofInt_nat {a : Nat} (ha : a < 18446744073709551616) : (BitVec.ofInt 64 (a : Int)).toNat = a := by
  rw [BitVec.ofInt_natCast, BitVec.toNat_ofNat]; exact Nat.mod_eq_of_lt (by omega)
theorem and_u64 {a b : Nat} (ha : a < 18446744073709551616) (hb : b < 18446744073709551616) : bits .and .u64 (a : Int) (b : Int) = ((a &&& b : Nat) : Int) := by
  have hx : a &&& b < 2 ^ 64 := Nat.and_lt_two_pow _ (by omega)
  show IntKind.u64.wrap ((BitVec.ofInt 64 (a : Int) &&& BitVec.ofInt 64 (b : Int)).toNat : Int) = _
  rw [BitVec.toNat_and, ofInt_nat ha, ofInt_nat hb, IntKind.wrap_u64]; omega
theorem or_u64 {a b : Nat} (ha : a < 18446744073709551616) (hb : b < 18446744073709551616) : bits .or .u64 (a : Int) (b : Int) = ((a ||| b : Nat) : Int) := by
  have hx : a ||| b < 2 ^ 64 := Nat.or_lt_two_pow (by omega) (by omega)
  show IntKind.u64.wrap ((BitVec.ofInt 64 (a : Int) ||| BitVec.ofInt 64 (b : Int)).toNat : Int) = _
  rw [BitVec.toNat_or, ofInt_nat ha, ofInt_nat hb, IntKind.wrap_u64]; omega
theorem andNot_u64 {a b : Nat} (ha : a < 18446744073709551616) (hb : b < 18446744073709551616) :
    bits .andNot .u64 (a : Int) (b : Int) = ((a &&& (2 ^ 64 - 1 - b) : Nat) : Int) := by
  have hx : a &&& (2 ^ 64 - 1 - b) < 2 ^ 64 := Nat.and_lt_two_pow _ (by omega)
  show IntKind.u64.wrap ((BitVec.ofInt 64 (a : Int) &&& ~~~ BitVec.ofInt 64 (b : Int)).toNat : Int) = _
  rw [BitVec.toNat_and, BitVec.toNat_not, ofInt_nat ha, ofInt_nat hb, IntKind.wrap_u64]; omega
end Go.Proofs.YticbjiddbjgikaaDoor
/- The contracts of package bits: what each function answers, in whatever world, leaving it as it was. -/
namespace Go.Proofs.YticbjiddbjgikaaDoor
open Go.ChangeShapes Go.WideShapes Go.ChangeAt Go.RowKit
set_option linter.unusedVariables false

def lowI (n : Int) : Int := ((2 ^ n.toNat - 1 : Nat) : Int)
def maskI (lo n : Int) : Int := ((maskN lo.toNat n.toNat : Nat) : Int)
def getI (w lo n : Int) : Int := ((getN w.toNat lo.toNat n.toNat : Nat) : Int)
def setI (w lo n v : Int) : Int := ((setN w.toNat lo.toNat n.toNat v.toNat : Nat) : Int)
def signI (w n : Int) : Int := ((signN w.toNat n.toNat : Nat) : Int)
def evenB (w b : Int) : Bool := if b = 0 then w == 0 else w % b == 0

theorem lowN_lt {n : Nat} (h : n ≤ 64) : 2 ^ n - 1 < 18446744073709551616 := by
  have := Nat.pow_le_pow_right (n := 2) (by decide) h
  have := Nat.two_pow_pos n
  omega
theorem pow_cast (k : Nat) : (2 : Int) ^ k = ((2 ^ k : Nat) : Int) := by simp
theorem getI_ge (w lo n : Int) : 0 ≤ getI w lo n := Int.natCast_nonneg _
theorem setI_ge (w lo n v : Int) : 0 ≤ setI w lo n v := Int.natCast_nonneg _
theorem setI_lt {w : Int} (lo n v : Int) (h0 : 0 ≤ w) (h : w < 18446744073709551616) : setI w lo n v < 18446744073709551616 := by
  have := set_lt (w := w.toNat) (by omega) lo.toNat n.toNat v.toNat
  unfold setI; omega
theorem low_eq {n : Int} (h0 : 0 ≤ n) (h1 : n ≤ 64) : IntKind.u64.wrap (IntKind.u64.wrap (2 ^ n.toNat) - 1) = lowI n := by
  obtain ⟨k, rfl⟩ := Int.eq_ofNat_of_zero_le h0
  have hl := lowN_lt (n := k) (by omega)
  have hp := Nat.two_pow_pos k
  rw [IntKind.wrap_u64, IntKind.wrap_u64]
  unfold lowI; rw [Int.toNat_natCast, pow_cast]
  omega
theorem shl_eq {x lo : Int} (hx : 0 ≤ x) (l0 : 0 ≤ lo) : IntKind.u64.wrap (x * 2 ^ lo.toNat) = (((x.toNat <<< lo.toNat) % 2 ^ 64 : Nat) : Int) := by
  obtain ⟨k, rfl⟩ := Int.eq_ofNat_of_zero_le l0
  obtain ⟨m, rfl⟩ := Int.eq_ofNat_of_zero_le hx
  rw [IntKind.wrap_u64]
  rw [Int.toNat_natCast, Int.toNat_natCast, pow_cast, Nat.shiftLeft_eq]
  omega
theorem mask_eq {lo n : Int} (l0 : 0 ≤ lo) : IntKind.u64.wrap (lowI n * 2 ^ lo.toNat) = maskI lo n := by
  rw [shl_eq (x := lowI n) (Int.natCast_nonneg _) l0]
  unfold lowI maskI maskN; rw [Int.toNat_natCast]
theorem get_eq {x lo n : Int} (x0 : 0 ≤ x) (x1 : x < 18446744073709551616) (h1 : n ≤ 64) :
    bits .and .u64 (x / 2 ^ lo.toNat) (lowI n) = getI x lo n := by
  obtain ⟨m, rfl⟩ := Int.eq_ofNat_of_zero_le x0
  have hl := lowN_lt (n := n.toNat) (by omega)
  have hd : m / 2 ^ lo.toNat ≤ m := Nat.div_le_self _ _
  unfold lowI getI getN
  rw [pow_cast, ← Int.natCast_ediv, and_u64 (by omega) hl, Nat.and_two_pow_sub_one_eq_mod, Int.toNat_natCast, Nat.shiftRight_eq_div_pow]
theorem set_eq {x lo n v : Int} (x0 : 0 ≤ x) (x1 : x < 18446744073709551616) (v0 : 0 ≤ v) (l0 : 0 ≤ lo) :
    bits .or .u64 (bits .andNot .u64 x (maskI lo n)) (bits .and .u64 (IntKind.u64.wrap (v * 2 ^ lo.toNat)) (maskI lo n)) = setI x lo n v := by
  have hm := mask_lt lo.toNat n.toNat
  have hs : (v.toNat <<< lo.toNat) % 2 ^ 64 < 2 ^ 64 := Nat.mod_lt _ (by decide)
  obtain ⟨m, rfl⟩ := Int.eq_ofNat_of_zero_le x0
  rw [shl_eq v0 l0]
  unfold maskI setI setN
  have h1 : m &&& (2 ^ 64 - 1 - maskN lo.toNat n.toNat) < 2 ^ 64 := Nat.and_lt_two_pow _ (by omega)
  have h2 : (v.toNat <<< lo.toNat) % 2 ^ 64 &&& maskN lo.toNat n.toNat < 2 ^ 64 := Nat.and_lt_two_pow _ hm
  rw [andNot_u64 (by omega) (by omega), and_u64 (by omega) (by omega), or_u64 (by omega) (by omega), Int.toNat_natCast]
attribute [irreducible] getI setI signI maskI lowI

theorem low_c (n : Int) (h0 : 0 ≤ n) (h1 : n ≤ 64) (w : World) :
    Calls Tryd.prog 92 #[.int .i64 n] w fun e w' => e = .returned (.int .u64 (lowI n)) ∧ w = w' := by
  go_enter Tryd.func92, Tryd.ntmps92
  go_wp2
  go_ret
  exact ⟨congrArg (fun i => Ending.returned (.int .u64 i)) (low_eq h0 h1), rfl⟩

theorem mask_c (lo n : Int) (l0 : 0 ≤ lo) (l1 : lo ≤ 64) (h0 : 0 ≤ n) (h1 : n ≤ 64) (w : World) :
    Calls Tryd.prog 101 #[.int .i64 lo, .int .i64 n] w fun e w' => e = .returned (.int .u64 (maskI lo n)) ∧ w = w' := by
  go_enter Tryd.func101, Tryd.ntmps101
  go_wp2_with (go_at_call 92; refine (low_c _ (by omega) (by omega) _).mono ?_; rintro e w' ⟨rfl, rfl⟩)
  go_ret
  exact ⟨congrArg (fun i => Ending.returned (.int .u64 i)) (mask_eq l0), rfl⟩

theorem get_c (x lo n : Int) (x0 : 0 ≤ x) (x1 : x < 18446744073709551616) (l0 : 0 ≤ lo) (l1 : lo ≤ 64) (h0 : 0 ≤ n) (h1 : n ≤ 64) (w : World) :
    Calls Tryd.prog 75 #[.int .u64 x, .int .i64 lo, .int .i64 n] w fun e w' => e = .returned (.int .u64 (getI x lo n)) ∧ w = w' := by
  go_enter Tryd.func75, Tryd.ntmps75
  go_wp2_with (go_at_call 92; refine (low_c _ (by omega) (by omega) _).mono ?_; rintro e w' ⟨rfl, rfl⟩)
  go_ret
  exact ⟨congrArg (fun i => Ending.returned (.int .u64 i)) (get_eq x0 x1 h1), rfl⟩

theorem set_c (x lo n v : Int) (x0 : 0 ≤ x) (x1 : x < 18446744073709551616) (v0 : 0 ≤ v) (v1 : v < 18446744073709551616) (l0 : 0 ≤ lo) (l1 : lo ≤ 64) (h0 : 0 ≤ n) (h1 : n ≤ 64) (w : World) :
    Calls Tryd.prog 84 #[.int .u64 x, .int .i64 lo, .int .i64 n, .int .u64 v] w fun e w' => e = .returned (.int .u64 (setI x lo n v)) ∧ w = w' := by
  go_enter Tryd.func84, Tryd.ntmps84
  go_wp2_with (go_at_call 101; refine (mask_c _ _ (by omega) (by omega) (by omega) (by omega) _).mono ?_; rintro e w' ⟨rfl, rfl⟩)
  go_ret
  exact ⟨congrArg (fun i => Ending.returned (.int .u64 i)) (set_eq x0 x1 v0 l0), rfl⟩

end Go.Proofs.YticbjiddbjgikaaDoor
/- The contracts of package bits, the rest: signs, multiples, bools. -/
namespace Go.Proofs.YticbjiddbjgikaaDoor
open Go.ChangeShapes Go.WideShapes Go.ChangeAt Go.RowKit
set_option linter.unusedVariables false

theorem even_c (x b : Int) (x0 : 0 ≤ x) (x1 : x < 18446744073709551616) (b0 : 0 ≤ b) (b1 : b < 18446744073709551616) (w : World) :
    Calls Tryd.prog 95 #[.int .u64 x, .int .u64 b] w fun e w' => e = .returned (.bool (evenB x b)) ∧ w = w' := by
  by_cases hb : b = 0
  · subst hb
    go_enter Tryd.func95, Tryd.ntmps95
    go_wp2
    go_ret
    exact ⟨rfl, rfl⟩
  · have hbb : (b == 0) = false := by simpa using hb
    have H : Hid (evenB x b = (x % b == 0)) := Lib.hid (by unfold evenB; rw [if_neg hb])
    go_enter Tryd.func95, Tryd.ntmps95
    go_wp2
    go_ret
    exact ⟨by rw [H.out]; rfl, rfl⟩

theorem bool_c (b : Bool) (w : World) :
    Calls Tryd.prog 100 #[.bool b] w fun e w' => e = .returned (.int .u64 (if b then 1 else 0)) ∧ w = w' := by
  cases b
  all_goals
    go_enter Tryd.func100, Tryd.ntmps100
    go_wp2
    go_ret
    exact ⟨rfl, rfl⟩
end Go.Proofs.YticbjiddbjgikaaDoor
