/- Plain facts on numbers and their bytes, the lowest first, as natural numbers. -/
import Derived.Test.YtngioemeplllhaaDoorMone
namespace Go.Proofs.YtngioemeplllhaaDoor

/-- the byte number i of v -/
def byteN (v i : Nat) : Nat := v / 256 ^ i % 256
/-- the number of those bytes -/
def numN : List Nat → Nat
  | [] => 0
  | b :: r => b + 256 * numN r
/-- the n lowest bytes of v -/
def bytesN (v : Nat) : Nat → List Nat
  | 0 => []
  | n + 1 => v % 256 :: bytesN (v / 256) n
def IsBytes (l : List Nat) : Prop := ∀ x ∈ l, x < 256

theorem bytesN_len (v n : Nat) : (bytesN v n).length = n := by
  induction n generalizing v with
  | zero => rfl
  | succ n ih => simp [bytesN, ih]
theorem bytesN_is (v n : Nat) : IsBytes (bytesN v n) := by
  induction n generalizing v with
  | zero => intro x hx; simp [bytesN] at hx
  | succ n ih =>
    intro x hx
    simp only [bytesN, List.mem_cons] at hx
    rcases hx with rfl | hx
    · exact Nat.mod_lt _ (by decide)
    · exact ih _ x hx
theorem byteN_lt (v i : Nat) : byteN v i < 256 := Nat.mod_lt _ (by decide)
theorem byteN_succ (v i : Nat) : byteN v (i + 1) = byteN (v / 256) i := by
  unfold byteN; rw [Nat.pow_succ, Nat.mul_comm, ← Nat.div_div_eq_div_mul]
theorem bytesN_at (v n i : Nat) (h : i < n) : (bytesN v n).getD i 0 = byteN v i := by
  induction n generalizing v i with
  | zero => omega
  | succ n ih =>
    cases i with
    | zero => simp [bytesN, byteN]
    | succ i =>
      have := ih (v / 256) i (by omega)
      rw [byteN_succ, ← this]
      simp [bytesN]
theorem bytesN_append (v n m : Nat) : bytesN v (n + m) = bytesN v n ++ bytesN (v / 256 ^ n) m := by
  induction n generalizing v with
  | zero => simp [bytesN]
  | succ n ih =>
    rw [show n + 1 + m = (n + m) + 1 by omega, bytesN, bytesN, ih, Nat.pow_succ, Nat.mul_comm (256 ^ n), ← Nat.div_div_eq_div_mul]
    rfl
theorem bytesN_snoc (v n : Nat) : bytesN v (n + 1) = bytesN v n ++ [byteN v n] := by
  rw [bytesN_append]; rfl
theorem numN_bytes (v n : Nat) : numN (bytesN v n) = v % 256 ^ n := by
  induction n generalizing v with
  | zero => simp [bytesN, numN, Nat.mod_one]
  | succ n ih =>
    rw [bytesN, numN, ih, Nat.pow_succ, Nat.mul_comm (256 ^ n), Nat.mod_mul]
theorem bytes_num : ∀ (l : List Nat), IsBytes l → bytesN (numN l) l.length = l
  | [], _ => rfl
  | b :: r, h => by
    have hb : b < 256 := h b (by simp)
    have ih := bytes_num r (fun x hx => h x (by simp [hx]))
    rw [List.length_cons, bytesN, numN]
    rw [show (b + 256 * numN r) % 256 = b by omega, show (b + 256 * numN r) / 256 = numN r by omega, ih]
theorem numN_append (a b : List Nat) : numN (a ++ b) = numN a + 256 ^ a.length * numN b := by
  induction a with
  | nil => simp [numN]
  | cons x a ih =>
    rw [List.cons_append, numN, numN, ih, List.length_cons, Nat.pow_succ, Nat.mul_comm (256 ^ a.length) 256, Nat.mul_assoc]
    omega
theorem numN_snoc (a : List Nat) (x : Nat) : numN (a ++ [x]) = numN a + 256 ^ a.length * x := by
  rw [numN_append]; simp [numN]
theorem numN_lt : ∀ (l : List Nat), IsBytes l → numN l < 256 ^ l.length
  | [], _ => by simp [numN]
  | b :: r, h => by
    have hb : b < 256 := h b (by simp)
    have ih := numN_lt r (fun x hx => h x (by simp [hx]))
    rw [List.length_cons, numN, Nat.pow_succ]
    omega
theorem IsBytes.take {l : List Nat} (h : IsBytes l) (n : Nat) : IsBytes (l.take n) := fun x hx => h x (List.mem_of_mem_take hx)
theorem numN_take {l : List Nat} (h : IsBytes l) (n : Nat) (hn : n ≤ l.length) : numN (l.take n) = numN l % 256 ^ n := by
  have e : l = l.take n ++ l.drop n := (List.take_append_drop n l).symm
  have hl : (l.take n).length = n := by simp; omega
  have hlt := numN_lt _ (h.take n)
  rw [hl] at hlt
  conv => rhs; rw [e, numN_append, hl]
  rw [Nat.add_mul_mod_self_left, Nat.mod_eq_of_lt hlt]
theorem numN_8 {l : List Nat} (h : IsBytes l) : numN (l.take 8) < 2 ^ 64 := by
  have := numN_lt _ (h.take 8)
  have hl : (l.take 8).length ≤ 8 := by simp; omega
  have : 256 ^ (l.take 8).length ≤ 256 ^ 8 := Nat.pow_le_pow_right (by decide) hl
  have : 256 ^ 8 = 2 ^ 64 := by decide
  omega
theorem take_snoc' {l : List Nat} {k : Nat} (h : k < l.length) : l.take (k + 1) = l.take k ++ [l.getD k 0] := by
  rw [List.take_succ_eq_append_getElem h]; simp [h]

/-! The same as fields. -/
theorem pow_256 (i : Nat) : 256 ^ i = 2 ^ (8 * i) := by rw [Nat.pow_mul]
theorem get_byte (v i : Nat) : getN v (8 * i) 8 = byteN v i := by
  unfold getN byteN; rw [Nat.shiftRight_eq_div_pow, pow_256]
theorem get_low (v s : Nat) : getN v 0 (8 * s) = v % 256 ^ s := by
  unfold getN; rw [Nat.shiftRight_zero, pow_256]
theorem set_top {w lo n b : Nat} (hw : w < 2 ^ lo) (hb : b < 2 ^ n) (h : lo + n ≤ 64) : setN w lo n b = 2 ^ lo * b + w := by
  have h64 : w < 2 ^ 64 := Nat.lt_of_lt_of_le hw (Nat.pow_le_pow_right (by decide) (by omega))
  apply Nat.eq_of_testBit_eq; intro i
  rw [tb_set h64, Nat.testBit_two_pow_mul_add _ hw]
  by_cases h1 : i < lo
  · rw [if_neg (by omega), if_pos h1]
  · by_cases h2 : i < lo + n
    · rw [if_pos (by omega), if_neg h1]
    · rw [if_neg (by omega), if_neg h1]
      rw [Nat.testBit_lt_two_pow (Nat.lt_of_lt_of_le hw (Nat.pow_le_pow_right (by decide) (by omega)))]
      rw [Nat.testBit_lt_two_pow (Nat.lt_of_lt_of_le hb (Nat.pow_le_pow_right (by decide) (by omega)))]
theorem set_byte {l : List Nat} (hl : IsBytes l) {k : Nat} (hk : k < l.length) (h8 : k < 8) :
    setN (numN (l.take k)) (8 * k) 8 (l.getD k 0) = numN (l.take (k + 1)) := by
  have hlen : (l.take k).length = k := by simp; omega
  have hlt := numN_lt _ (hl.take k)
  rw [hlen, pow_256] at hlt
  have hb : l.getD k 0 < 2 ^ 8 := by
    have := hl (l.getD k 0) (by simp [hk])
    omega
  rw [set_top hlt hb (by omega), take_snoc' hk, numN_snoc, hlen, pow_256]; omega
theorem bytes_inj_num {a b : List Nat} (ha : IsBytes a) (hb : IsBytes b) (hl : a.length = b.length) (h : numN a = numN b) : a = b := by
  rw [← bytes_num a ha, ← bytes_num b hb, hl, h]
end Go.Proofs.YtngioemeplllhaaDoor
