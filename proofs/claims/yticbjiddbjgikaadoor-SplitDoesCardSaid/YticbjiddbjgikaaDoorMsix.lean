/- Entries as numbers: the word of an entry, the entry of a word; what an entry is. -/
import Derived.Test.YticbjiddbjgikaaDoorGone
import Derived.Test.YticbjiddbjgikaaDoorGfive
import Derived.Test.YticbjiddbjgikaaDoorGst
namespace Go.Proofs.YticbjiddbjgikaaDoor
set_option linter.unusedVariables false
set_option linter.unusedSimpArgs false

/-- the number of the first k bits -/
def bsum (f : Nat → Bool) : Nat → Nat
  | 0 => 0
  | k + 1 => bsum f k + 2 ^ k * (f k).toNat
theorem bsum_zero (f : Nat → Bool) : bsum f 0 = 0 := rfl
theorem bsum_succ (f : Nat → Bool) (k : Nat) : bsum f (k + 1) = bsum f k + 2 ^ k * (f k).toNat := rfl
theorem bsum_lt (f : Nat → Bool) : ∀ k, bsum f k < 2 ^ k
  | 0 => by simp [bsum]
  | k + 1 => by
    have := bsum_lt f k
    have hb : (f k).toNat ≤ 1 := Bool.toNat_le _
    have h2 : 2 ^ k * (f k).toNat ≤ 2 ^ k * 1 := Nat.mul_le_mul (Nat.le_refl _) hb
    simp only [bsum, Nat.pow_succ]; omega
theorem bsum_bit (f : Nat → Bool) : ∀ k j, (bsum f k).testBit j = (decide (j < k) && f j)
  | 0, j => by simp [bsum]
  | k + 1, j => by
    rw [bsum, Nat.add_comm, Nat.testBit_two_pow_mul_add _ (bsum_lt f k)]
    split
    · rename_i h; rw [bsum_bit f k j]; simp [h, show j < k + 1 by omega]
    · rename_i h
      by_cases hj : j = k
      · subst hj; simp; cases f j <;> rfl
      · rw [show (decide (j < k + 1)) = false by simp; omega, Bool.false_and]
        have hb : (f k).toNat < 2 ^ 1 := by have := Bool.toNat_le (f k); omega
        exact Nat.testBit_lt_two_pow (Nat.lt_of_lt_of_le hb (Nat.pow_le_pow_right (by decide) (by omega)))
theorem bsum_congr {f g : Nat → Bool} : ∀ {k : Nat}, (∀ i, i < k → f i = g i) → bsum f k = bsum g k
  | 0, _ => rfl
  | k + 1, h => by rw [bsum, bsum, bsum_congr (k := k) fun i hi => h i (by omega), h k (by omega)]
theorem bsum_tb (w k : Nat) : bsum (fun i => w.testBit i) k = w % 2 ^ k := by
  apply Nat.eq_of_testBit_eq; intro i
  rw [bsum_bit, Nat.testBit_mod_two_pow]
/-- a field set above the bits at hand is added -/
theorem set_add {w lo n v : Nat} (hw : w < 2 ^ lo) (hv : v < 2 ^ n) (h : lo + n ≤ 64) : setN w lo n v = w + 2 ^ lo * v := by
  have hw64 : w < 2 ^ 64 := Nat.lt_of_lt_of_le hw (Nat.pow_le_pow_right (by decide) (by omega))
  apply Nat.eq_of_testBit_eq; intro j
  rw [tb_set hw64, Nat.add_comm w, Nat.testBit_two_pow_mul_add _ hw]
  by_cases h1 : j < lo
  · rw [if_neg (by omega), if_pos h1]
  · rw [if_neg h1]
    by_cases h2 : j < lo + n
    · rw [if_pos (by omega)]
    · rw [if_neg (by omega), Nat.testBit_lt_two_pow (Nat.lt_of_lt_of_le hw (Nat.pow_le_pow_right (by decide) (show lo ≤ j by omega))), Nat.testBit_lt_two_pow (Nat.lt_of_lt_of_le hv (Nat.pow_le_pow_right (by decide) (show n ≤ j - lo by omega)))]

def ptB (p : Pt) : Nat → Bool
  | 0 => p.v
  | 1 => p.r
  | 2 => p.w
  | 3 => p.x
  | 4 => p.u
  | 5 => p.g
  | 6 => p.a
  | 7 => p.d
  | _ => false
def mayB (p : Pt) : Bool := decide (p.rs < 4) && decide (p.pp < 17592186044416) && decide (p.hi < 1024)
def putN (p : Pt) : Nat := bsum (ptB p) 8 + 256 * p.rs + 1024 * p.pp + 18014398509481984 * p.hi
def getP (w : Nat) : Pt := ⟨w.testBit 0, w.testBit 1, w.testBit 2, w.testBit 3, w.testBit 4, w.testBit 5, w.testBit 6, w.testBit 7, w / 256 % 4, w / 1024 % 17592186044416, w / 18014398509481984⟩
def leafB (p : Pt) : Bool := p.v && (p.r || p.x)
def linkB (p : Pt) : Bool := p.v && !p.r && !p.x
def manyN (l : Int) : Nat := if l = 0 then 1 else if l = 1 then 512 else 262144
def badB (p : Pt) (l : Int) : Bool :=
  (!p.v) || (p.w && !p.r) || !decide (p.hi = 0) || (if p.r || p.x then !decide (p.pp % manyN l = 0) else (l == 0) || p.a || p.d || p.u)
def makeP (f : Nat) (m : Pm) (g : Bool) : Pt := ⟨true, m.r, m.w, m.x, m.u, g, false, false, 0, f, 0⟩
def permP (p : Pt) : Pm := ⟨p.r, p.w, p.x, p.u⟩

theorem may_iff (p : Pt) : mayB p = true ↔ p.rs < 4 ∧ p.pp < 17592186044416 ∧ p.hi < 1024 := by simp [mayB, and_assoc]
theorem put_lt {p : Pt} (h : mayB p = true) : putN p < 18446744073709551616 := by
  obtain ⟨h1, h2, h3⟩ := (may_iff p).1 h
  have := bsum_lt (ptB p) 8
  unfold putN; omega
theorem may_get {w : Nat} (h : w < 18446744073709551616) : mayB (getP w) = true := by
  rw [may_iff]; unfold getP
  refine ⟨?_, ?_, ?_⟩ <;> simp only <;> omega
theorem put_get {w : Nat} (h : w < 18446744073709551616) : putN (getP w) = w := by
  have h1 : bsum (ptB (getP w)) 8 = w % 256 := by
    rw [show (256 : Nat) = 2 ^ 8 from rfl, ← bsum_tb]
    apply bsum_congr; intro i hi
    match i, hi with
    | 0, _ | 1, _ | 2, _ | 3, _ | 4, _ | 5, _ | 6, _ | 7, _ => rfl
  unfold putN; rw [h1]; unfold getP; simp only; omega
theorem put_tb {p : Pt} {i : Nat} (hi : i < 8) : (putN p).testBit i = ptB p i := by
  have h := bsum_lt (ptB p) 8
  rw [show putN p = 2 ^ 8 * (p.rs + 4 * p.pp + 70368744177664 * p.hi) + bsum (ptB p) 8 by unfold putN; omega, Nat.testBit_two_pow_mul_add _ h, if_pos hi, bsum_bit]
  simp [hi]
theorem get_put {p : Pt} (h : mayB p = true) : getP (putN p) = p := by
  obtain ⟨h1, h2, h3⟩ := (may_iff p).1 h
  have hb := bsum_lt (ptB p) 8
  have e1 : putN p / 256 % 4 = p.rs := by unfold putN; omega
  have e2 : putN p / 1024 % 17592186044416 = p.pp := by unfold putN; omega
  have e3 : putN p / 18014398509481984 = p.hi := by unfold putN; omega
  unfold getP
  rw [e1, e2, e3, put_tb (by decide), put_tb (by decide), put_tb (by decide), put_tb (by decide), put_tb (by decide), put_tb (by decide), put_tb (by decide), put_tb (by decide)]
  rfl
theorem get_inj {w v : Nat} (hw : w < 18446744073709551616) (hv : v < 18446744073709551616) : decide (getP w = getP v) = decide (w = v) := by
  rw [Bool.eq_iff_iff, decide_eq_true_iff, decide_eq_true_iff]
  exact ⟨fun h => by rw [← put_get hw, ← put_get hv, h], fun h => by rw [h]⟩

/-! fields of a word as they are set and read -/
theorem get8 (w : Nat) : getN w 8 2 = w / 256 % 4 := by unfold getN; rw [Nat.shiftRight_eq_div_pow]
theorem get10 (w : Nat) : getN w 10 44 = w / 1024 % 17592186044416 := by unfold getN; rw [Nat.shiftRight_eq_div_pow]
theorem get54 {w : Nat} (h : w < 18446744073709551616) : getN w 54 10 = w / 18014398509481984 := by unfold getN; rw [Nat.shiftRight_eq_div_pow]; omega
theorem put_sets {p : Pt} (h : mayB p = true) : setN (setN (setN (bsum (ptB p) 8) 8 2 p.rs) 10 44 p.pp) 54 10 p.hi = putN p := by
  obtain ⟨h1, h2, h3⟩ := (may_iff p).1 h
  have hb := bsum_lt (ptB p) 8
  rw [set_add hb (by omega) (by decide)]
  have k1 : bsum (ptB p) 8 + 2 ^ 8 * p.rs < 2 ^ 10 := by omega
  rw [set_add k1 (by omega) (by decide)]
  have k2 : bsum (ptB p) 8 + 2 ^ 8 * p.rs + 2 ^ 10 * p.pp < 2 ^ 54 := by omega
  rw [set_add k2 (by omega) (by decide)]
  unfold putN; omega
theorem set_one (f : Nat → Bool) {k : Nat} (h : k + 1 ≤ 64) : setN (bsum f k) k 1 (f k).toNat = bsum f (k + 1) := by
  rw [set_add (bsum_lt f k) (by have := Bool.toNat_le (f k); omega) h]; rfl
attribute [irreducible] mayB putN getP leafB linkB badB makeP permP bsum
end Go.Proofs.YticbjiddbjgikaaDoor
