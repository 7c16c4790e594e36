/- The document's answers for layer 1 (package atlasref01): a bit, a word of bits, the field, the field set, the sign. -/
import Derived.Test.YtlhoedpencmikaaDoorGone
import Derived.Test.YtlhoedpencmikaaDoorGagg
import Derived.Below
import Derived.Laws.Rows
import Derived.Deep.Draws
namespace Go.Proofs.YtlhoedpencmikaaDoor
open Go.ChangeShapes Go.WideShapes Go.ChangeAt Go.RowKit
set_option linter.unusedVariables false

def bitB (x i : Int) : Bool := if 0 ≤ i ∧ i ≤ 63 then x.toNat.testBit i.toNat else false
attribute [irreducible] bitB

theorem bitB_out {x i : Int} (h : i < 0 ∨ 63 < i) : bitB x i = false := by unfold bitB; rw [if_neg (by omega)]
theorem bitB_in {x i : Int} (h0 : 0 ≤ i) (h1 : i ≤ 63) : bitB x i = x.toNat.testBit i.toNat := by unfold bitB; rw [if_pos ⟨h0, h1⟩]

theorem bit_word {x : Int} (x0 : 0 ≤ x) (k : Nat) : (x / 2 ^ k % 2 == 1) = x.toNat.testBit ((k : Int)).toNat := by
  obtain ⟨m, rfl⟩ := Int.eq_ofNat_of_zero_le x0
  rw [Int.toNat_natCast, Int.toNat_natCast, Nat.testBit_eq_decide_div_mod_eq, pow_cast, Bool.eq_iff_iff, beq_iff_eq, decide_eq_true_iff]
  omega
def bs (f : Nat → Bool) : Array Value := Array.ofFn (n := 64) fun j => .bool (f j)
theorem bs_get (f : Nat → Bool) {i : Nat} (h : i < 64) : (bs f)[i]? = some (.bool (f i)) := by simp [bs, h]
theorem bs_size (f : Nat → Bool) : (bs f).size = 64 := by simp [bs]
theorem bs_zero : bs (fun _ => false) = #[.bool false, .bool false, .bool false, .bool false, .bool false, .bool false, .bool false, .bool false, .bool false, .bool false, .bool false, .bool false, .bool false, .bool false, .bool false, .bool false, .bool false, .bool false, .bool false, .bool false, .bool false, .bool false, .bool false, .bool false, .bool false, .bool false, .bool false, .bool false, .bool false, .bool false, .bool false, .bool false, .bool false, .bool false, .bool false, .bool false, .bool false, .bool false, .bool false, .bool false, .bool false, .bool false, .bool false, .bool false, .bool false, .bool false, .bool false, .bool false, .bool false, .bool false, .bool false, .bool false, .bool false, .bool false, .bool false, .bool false, .bool false, .bool false, .bool false, .bool false, .bool false, .bool false, .bool false, .bool false] := rfl
attribute [irreducible] bs

/-- the number of the k highest ones of 64 bits -/
def ofN (f : Nat → Bool) : Nat → Nat
  | 0 => 0
  | k + 1 => 2 * ofN f k + (f (63 - k)).toNat
theorem ofN_lt (f : Nat → Bool) : ∀ k, ofN f k < 2 ^ k
  | 0 => by simp [ofN]
  | k + 1 => by
    have := ofN_lt f k
    have hb : (f (63 - k)).toNat ≤ 1 := Bool.toNat_le _
    simp only [ofN, Nat.pow_succ]; omega
theorem ofN_bit (f : Nat → Bool) : ∀ k j, k ≤ 64 → (ofN f k).testBit j = (decide (j < k) && f (64 - k + j))
  | 0, j, _ => by simp [ofN]
  | k + 1, 0, h => by
    simp only [ofN, Nat.testBit_zero]
    rw [show 64 - (k + 1) + 0 = 63 - k by omega]
    cases f (63 - k) <;> simp <;> omega
  | k + 1, j + 1, h => by
    have ih := ofN_bit f k j (by omega)
    simp only [ofN, Nat.testBit_succ]
    rw [show (2 * ofN f k + (f (63 - k)).toNat) / 2 = ofN f k by have := Bool.toNat_le (f (63 - k)); omega, ih]
    rw [show 64 - (k + 1) + (j + 1) = 64 - k + j by omega]; simp

theorem bs_set (f : Nat → Bool) (i : Nat) (b : Bool) : (bs f).setIfInBounds i (.bool b) = bs (fun j => if j = i then b else f j) := by
  apply Array.ext
  · simp [bs_size]
  · intro j h1 h2
    have hj : j < 64 := by simpa [bs_size] using h2
    have e1 := bs_get f hj
    have e2 := bs_get (fun j => if j = i then b else f j) hj
    rw [Array.getElem?_eq_getElem (by rw [bs_size]; exact hj)] at e1 e2
    rw [Array.getElem_setIfInBounds (by rw [bs_size]; exact hj), Option.some.inj e1, Option.some.inj e2]
    by_cases h : i = j
    · subst h; simp
    · simp [h, Ne.symm h]

def fgI (x lo n : Int) (j : Nat) : Bool := if (j : Int) < n then bitB x (lo + j) else false

theorem bs_step (g : Nat → Bool) (k : Nat) : bs (fun j => if j = k then g k else if j < k then g j else false) = bs (fun j => if j < k + 1 then g j else false) := by
  congr 1; funext j
  by_cases h1 : j = k
  · subst h1; simp
  · by_cases h2 : j < k
    · simp [h1, h2, show j < k + 1 by omega]
    · simp [h1, h2, show ¬ j < k + 1 by omega]
theorem bs_all (g : Nat → Bool) : bs (fun j => if j < 64 then g j else false) = bs g := by
  apply Array.ext
  · simp [bs_size]
  · intro j h1 h2
    have hj : j < 64 := by simpa [bs_size] using h2
    have e1 := bs_get g hj
    have e2 := bs_get (fun j => if j < 64 then g j else false) hj
    rw [Array.getElem?_eq_getElem (by rw [bs_size]; exact hj)] at e1 e2
    rw [Option.some.inj e1, Option.some.inj e2, if_pos hj]

theorem bs_set2 (f : Nat → Bool) (k : Nat) (a b : Bool) : ((bs f).setIfInBounds k (.bool a)).setIfInBounds k (.bool b) = bs (fun j => if j = k then b else f j) := by
  rw [bs_set, bs_set]; congr 1; funext j
  by_cases h : j = k <;> simp [h]

def fsI (x lo n v : Int) (j : Nat) : Bool := if lo ≤ j ∧ (j : Int) < lo + n then bitB v (j - lo) else bitB x j

def fnI (x n : Int) (j : Nat) : Bool := bitB x (if (j : Int) ≤ n - 1 then j else n - 1)

theorem ofN_tb (f : Nat → Bool) (j : Nat) : (ofN f 64).testBit j = (decide (j < 64) && f j) := by
  rw [ofN_bit f 64 j (by omega), show 64 - 64 + j = j by omega]
theorem rget_eq {x lo n : Int} (x0 : 0 ≤ x) (x1 : x < 18446744073709551616) (l0 : 0 ≤ lo) (n0 : 0 ≤ n) (n1 : n ≤ 64) : ((ofN (fgI x lo n) 64 : Nat) : Int) = getI x lo n := by
  obtain ⟨L, rfl⟩ := Int.eq_ofNat_of_zero_le l0
  obtain ⟨N, rfl⟩ := Int.eq_ofNat_of_zero_le n0
  unfold getI
  rw [Int.toNat_natCast, Int.toNat_natCast]
  congr 1
  apply Nat.eq_of_testBit_eq; intro j
  rw [ofN_tb, tb_get]
  unfold fgI
  by_cases hj : j < N
  · rw [if_pos (by omega)]
    by_cases h : L + j ≤ 63
    · rw [bitB_in (by omega) (by omega)]; simp [hj, show j < 64 by omega]
      congr 1
    · rw [bitB_out (by omega), tb_big (w := x.toNat) (by omega) (by omega)]; simp
  · rw [if_neg (by omega)]; simp [hj]
theorem rset_eq {x lo n v : Int} (x0 : 0 ≤ x) (x1 : x < 18446744073709551616) (v0 : 0 ≤ v) (l0 : 0 ≤ lo) (n0 : 0 ≤ n) : ((ofN (fsI x lo n v) 64 : Nat) : Int) = setI x lo n v := by
  obtain ⟨L, rfl⟩ := Int.eq_ofNat_of_zero_le l0
  obtain ⟨N, rfl⟩ := Int.eq_ofNat_of_zero_le n0
  unfold setI
  rw [Int.toNat_natCast, Int.toNat_natCast]
  congr 1
  apply Nat.eq_of_testBit_eq; intro j
  rw [ofN_tb, tb_set (by omega)]
  unfold fsI
  by_cases hj : j < 64
  · by_cases h : L ≤ j ∧ j < L + N
    · rw [if_pos (by omega), if_pos (by omega), bitB_in (by omega) (by omega)]; simp [hj]
    · rw [if_neg (by omega), if_neg (by omega), bitB_in (by omega) (by omega)]; simp [hj]
  · rw [if_neg (c := j < 64 ∧ L ≤ j ∧ j < L + N) (by omega), tb_big (w := x.toNat) (by omega) (by omega)]; simp [hj]
theorem rsign_eq {x n : Int} (x0 : 0 ≤ x) (x1 : x < 18446744073709551616) (n0 : 1 ≤ n) (n1 : n ≤ 64) : ((ofN (fnI x n) 64 : Nat) : Int) = signI x n := by
  obtain ⟨N, rfl⟩ : ∃ N : Nat, n = N := ⟨n.toNat, by omega⟩
  unfold signI
  rw [Int.toNat_natCast]
  congr 1
  apply Nat.eq_of_testBit_eq; intro j
  rw [ofN_tb, tb_sign (by omega) (by omega) (by omega)]
  unfold fnI
  by_cases hj : j < 64
  · simp only [hj, decide_true, Bool.true_and]
    split
    · rw [bitB_in (by omega) (by omega)]; congr 1; omega
    · rw [bitB_in (by omega) (by omega)]; congr 1; omega
  · simp [hj]
end Go.Proofs.YtlhoedpencmikaaDoor
