/- Plain facts on numbers and their bytes, the lowest first, as natural numbers. -/
import Derived.Test.YticbjiddbjgikaaDoorGone
import Derived.Test.YticbjiddbjgikaaDoorRows
import Derived.Below
import Derived.WalkKit
import Derived.ProofKit
import Derived.OpenShut
import Derived.ChangeOld
import Derived.Lib.Hide
import Derived.Laws.Rows
import Derived.Deep.Draws
namespace Go.Proofs.YticbjiddbjgikaaDoor

/-- the byte number i of v -/
def byteN (v i : Nat) : Nat := v / 256 ^ i % 256
/-- the number of those bytes -/
def numN : List Nat → Nat
  | [] => 0
  | b :: r => b + 256 * numN r
/-- the n lowest bytes of v -/
def bytesN (v : Nat) : Nat → List Nat
  | 0 => []
  | n + 1 => v % 256 :: bytesN (v / 256) n
def IsBytes (l : List Nat) : Prop := ∀ x ∈ l, x < 256

theorem bytesN_len (v n : Nat) : (bytesN v n).length = n := by
  induction n generalizing v with
  | zero => rfl
  | succ n ih => simp [bytesN, ih]
theorem byteN_lt (v i : Nat) : byteN v i < 256 := Nat.mod_lt _ (by decide)
theorem byteN_succ (v i : Nat) : byteN v (i + 1) = byteN (v / 256) i := by
  unfold byteN; rw [Nat.pow_succ, Nat.mul_comm, ← Nat.div_div_eq_div_mul]
theorem bytesN_at (v n i : Nat) (h : i < n) : (bytesN v n).getD i 0 = byteN v i := by
  induction n generalizing v i with
  | zero => omega
  | succ n ih =>
    cases i with
    | zero => simp [bytesN, byteN]
    | succ i =>
      have := ih (v / 256) i (by omega)
      rw [byteN_succ, ← this]
      simp [bytesN]
theorem numN_bytes (v n : Nat) : numN (bytesN v n) = v % 256 ^ n := by
  induction n generalizing v with
  | zero => simp [bytesN, numN, Nat.mod_one]
  | succ n ih =>
    rw [bytesN, numN, ih, Nat.pow_succ, Nat.mul_comm (256 ^ n), Nat.mod_mul]
theorem bytes_num : ∀ (l : List Nat), IsBytes l → bytesN (numN l) l.length = l
  | [], _ => rfl
  | b :: r, h => by
    have hb : b < 256 := h b (by simp)
    have ih := bytes_num r (fun x hx => h x (by simp [hx]))
    rw [List.length_cons, bytesN, numN]
    rw [show (b + 256 * numN r) % 256 = b by omega, show (b + 256 * numN r) / 256 = numN r by omega, ih]
theorem numN_append (a b : List Nat) : numN (a ++ b) = numN a + 256 ^ a.length * numN b := by
  induction a with
  | nil => simp [numN]
  | cons x a ih =>
    rw [List.cons_append, numN, numN, ih, List.length_cons, Nat.pow_succ, Nat.mul_comm (256 ^ a.length) 256, Nat.mul_assoc]
    omega
theorem numN_snoc (a : List Nat) (x : Nat) : numN (a ++ [x]) = numN a + 256 ^ a.length * x := by
  rw [numN_append]; simp [numN]
theorem numN_lt : ∀ (l : List Nat), IsBytes l → numN l < 256 ^ l.length
  | [], _ => by simp [numN]
  | b :: r, h => by
    have hb : b < 256 := h b (by simp)
    have ih := numN_lt r (fun x hx => h x (by simp [hx]))
    rw [List.length_cons, numN, Nat.pow_succ]
    omega
theorem IsBytes.take {l : List Nat} (h : IsBytes l) (n : Nat) : IsBytes (l.take n) := fun x hx => h x (List.mem_of_mem_take hx)
theorem numN_8 {l : List Nat} (h : IsBytes l) : numN (l.take 8) < 2 ^ 64 := by
  have := numN_lt _ (h.take 8)
  have hl : (l.take 8).length ≤ 8 := by simp; omega
  have : 256 ^ (l.take 8).length ≤ 256 ^ 8 := Nat.pow_le_pow_right (by decide) hl
  have : 256 ^ 8 = 2 ^ 64 := by decide
  omega
theorem take_snoc' {l : List Nat} {k : Nat} (h : k < l.length) : l.take (k + 1) = l.take k ++ [l.getD k 0] := by
  rw [List.take_succ_eq_append_getElem h]; simp [h]

/-! The same as fields. -/
theorem pow_256 (i : Nat) : 256 ^ i = 2 ^ (8 * i) := by rw [Nat.pow_mul]
theorem get_byte (v i : Nat) : getN v (8 * i) 8 = byteN v i := by
  unfold getN byteN; rw [Nat.shiftRight_eq_div_pow, pow_256]
theorem set_top {w lo n b : Nat} (hw : w < 2 ^ lo) (hb : b < 2 ^ n) (h : lo + n ≤ 64) : setN w lo n b = 2 ^ lo * b + w := by
  have h64 : w < 2 ^ 64 := Nat.lt_of_lt_of_le hw (Nat.pow_le_pow_right (by decide) (by omega))
  apply Nat.eq_of_testBit_eq; intro i
  rw [tb_set h64, Nat.testBit_two_pow_mul_add _ hw]
  by_cases h1 : i < lo
  · rw [if_neg (by omega), if_pos h1]
  · by_cases h2 : i < lo + n
    · rw [if_pos (by omega), if_neg h1]
    · rw [if_neg (by omega), if_neg h1]
      rw [Nat.testBit_lt_two_pow (Nat.lt_of_lt_of_le hw (Nat.pow_le_pow_right (by decide) (by omega)))]
      rw [Nat.testBit_lt_two_pow (Nat.lt_of_lt_of_le hb (Nat.pow_le_pow_right (by decide) (by omega)))]
theorem set_byte {l : List Nat} (hl : IsBytes l) {k : Nat} (hk : k < l.length) (h8 : k < 8) :
    setN (numN (l.take k)) (8 * k) 8 (l.getD k 0) = numN (l.take (k + 1)) := by
  have hlen : (l.take k).length = k := by simp; omega
  have hlt := numN_lt _ (hl.take k)
  rw [hlen, pow_256] at hlt
  have hb : l.getD k 0 < 2 ^ 8 := by
    have := hl (l.getD k 0) (by simp [hk])
    omega
  rw [set_top hlt hb (by omega), take_snoc' hk, numN_snoc, hlen, pow_256]; omega
end Go.Proofs.YticbjiddbjgikaaDoor
/- Slices of bytes as lists of numbers. -/
namespace Go.Proofs.YticbjiddbjgikaaDoor
open Go.ChangeShapes Go.WideShapes Go.ChangeAt Go.RowKit
set_option linter.unusedVariables false
set_option maxRecDepth 10000

/-- the byte number k of a list -/
def bAt (l : List Nat) (k : Nat) : Nat := l.getD k 0
theorem bAt_lt {l : List Nat} (hl : IsBytes l) (k : Nat) : bAt l k < 256 := by
  unfold bAt
  by_cases h : k < l.length
  · exact hl _ (by simp [h])
  · simp [h]
attribute [irreducible] bAt
/-- the slice value with that address and length reads as those bytes -/
def SlB (w : World) (A : Option Addr) (l : List Nat) : Prop :=
  0 < l.length → ∃ b off, A = some ⟨b, off, none⟩ ∧ b < w.heap.size ∧ ∀ i, i < l.length → w.cell? ⟨b, off + i, none⟩ = some (.int .u8 ((bAt l i : Nat) : Int))
theorem SlB.below {w w' : World} {B : Nat} {A : Option Addr} {l : List Nat} (h : SlB w A l) (hb : Below w.heap.size w w') : SlB w' A l := by
  intro hl
  obtain ⟨b, off, rfl, hlt, hc⟩ := h hl
  exact ⟨b, off, rfl, Nat.lt_of_lt_of_le hlt hb.size, fun i hi => (hb.cell (p := ⟨b, off + i, none⟩) hlt).trans (hc i hi)⟩


section
variable {H : Type} {enc : TypeId × Value → H}
end
end Go.Proofs.YticbjiddbjgikaaDoor
/- The contracts of package bytes: Size, Put, Get; slices of bytes as lists of numbers. -/
namespace Go.Proofs.YticbjiddbjgikaaDoor
open Go.ChangeShapes Go.WideShapes Go.ChangeAt Go.RowKit
set_option linter.unusedVariables false

def sizeB (n : Int) : Bool := n == 1 || n == 2 || n == 4 || n == 8
def IsSize (s : Nat) : Prop := s = 1 ∨ s = 2 ∨ s = 4 ∨ s = 8
theorem IsSize.le {s : Nat} (h : IsSize s) : 1 ≤ s ∧ s ≤ 8 := by unfold IsSize at h; omega
theorem IsSize.b {s : Nat} (h : IsSize s) : sizeB s = true := by
  rcases h with rfl | rfl | rfl | rfl <;> rfl
theorem size_c (n : Int) (w : World) :
    Calls Tryd.prog 102 #[.int .i64 n] w fun e w' => e = .returned (.bool (sizeB n)) ∧ w = w' := by
  by_cases h1 : n = 1
  · subst h1; go_enter Tryd.func102, Tryd.ntmps102
    go_wp2
    go_ret
    exact ⟨rfl, rfl⟩
  by_cases h2 : n = 2
  · subst h2; go_enter Tryd.func102, Tryd.ntmps102
    go_wp2
    go_ret
    exact ⟨rfl, rfl⟩
  by_cases h4 : n = 4
  · subst h4; go_enter Tryd.func102, Tryd.ntmps102
    go_wp2
    go_ret
    exact ⟨rfl, rfl⟩
  by_cases h8 : n = 8
  · subst h8; go_enter Tryd.func102, Tryd.ntmps102
    go_wp2
    go_ret
    exact ⟨rfl, rfl⟩
  have b1 : (n == 1) = false := by simpa using h1
  have b2 : (n == 2) = false := by simpa using h2
  have b4 : (n == 4) = false := by simpa using h4
  have b8 : (n == 8) = false := by simpa using h8
  have H : Hid (sizeB n = false) := Lib.hid (by simp [sizeB, h1, h2, h4, h8])
  clear h1 h2 h4 h8
  go_enter Tryd.func102, Tryd.ntmps102
  go_wp2
  go_ret
  exact ⟨congrArg (fun b => Ending.returned (.bool b)) H.out.symm, rfl⟩

theorem size_yes {s : Nat} (hs : IsSize s) (w : World) :
    Calls Tryd.prog 102 #[.int .i64 (s : Int)] w fun e w' => e = .returned (.bool true) ∧ w = w' :=
  (size_c s w).mono fun _ _ ⟨he, hw⟩ => ⟨by rw [he, hs.b], hw⟩

/-- n bytes, by their places, as cells -/
def rowA (f : Nat → Nat) (n : Nat) : Array Value := Array.ofFn (n := n) fun j => .int .u8 (f j)
theorem rowA_get (f : Nat → Nat) {n i : Nat} (h : i < n) : (rowA f n)[i]? = some (.int .u8 (f i)) := by simp [rowA, h]
theorem rowA_size (f : Nat → Nat) (n : Nat) : (rowA f n).size = n := by simp [rowA]
theorem rowA_congr {f g : Nat → Nat} {n : Nat} (h : ∀ i, i < n → f i = g i) : rowA f n = rowA g n := by
  apply Array.ext
  · simp [rowA_size]
  · intro i h1 h2
    have hi : i < n := by simpa [rowA_size] using h1
    simp [rowA, h i hi]
theorem rowA_set (f : Nat → Nat) (n i b : Nat) : (rowA f n).setIfInBounds i (.int .u8 b) = rowA (fun j => if j = i then b else f j) n := by
  unfold rowA
  apply Array.ext
  · simp
  · intro j h1 h2
    rw [Array.getElem_setIfInBounds (by simpa using h1), Array.getElem_ofFn, Array.getElem_ofFn]
    by_cases h : i = j
    · subst h; simp
    · simp [h, Ne.symm h]
theorem rowA_zero (n : Nat) : madeCells #[Value.int .u8 0] n = rowA (fun _ => 0) n := by
  apply Array.ext'
  rw [toList_madeCells_one]
  apply List.ext_getElem
  · simp [rowA]
  · intro i h1 h2
    simp [rowA]
theorem rowA_list (f : Nat → Nat) (n : Nat) : (rowA f n).toList = (List.range n).map fun j => Value.int .u8 (f j) := by
  apply List.ext_getElem
  · simp [rowA]
  · intro i h1 h2
    simp [rowA]
attribute [irreducible] rowA

theorem u8_info : (Tryd.prog.info? 5).map (fun i => (i.zero, i.size, i.bytes)) = some (some (.int .u8 0), 1, 1) := by kernel_rfl

theorem getI_byte (v k : Nat) : getI (v : Int) ((k : Int) * 8) 8 = ((byteN v k : Nat) : Int) := by
  rw [← get_byte, Nat.mul_comm 8 k]
  unfold getI
  rw [Int.toNat_natCast, show ((k : Int) * 8).toNat = k * 8 by omega]; rfl

theorem put_c (v s : Nat) (v1 : v < 18446744073709551616) (hs : IsSize s) (w : World) :
    Calls Tryd.prog 86 #[.int .u64 (v : Int), .int .i64 (s : Int)] w fun e w' =>
      e = .returned (.slice (some ⟨w.heap.size, 0, none⟩) s s) ∧ w' = w.alloc (.cells (rowA (byteN v) s) 5) := by
  have hle := hs.le
  obtain ⟨i0, hi, hz0, hz1, hz2⟩ := info_parts u8_info
  have hmk : ∀ W : World, (Instr.makeSlice 112 (.int .i64 (s : Int)) (.int .i64 (s : Int))).run Tryd.prog W = .ok (.slice (some ⟨W.heap.size, 0, none⟩) s s) (W.alloc (.cells (rowA (fun _ => 0) s) 5)) := by
    intro W
    have h := run_make (P := Tryd.prog) W 112 5 i0 _ Tryd.underlying112 hi hz0 .i64 .i64 (s : Int) (s : Int) (by omega) (by omega) (by rw [hz2]; omega) (by omega)
    rw [h, hz1, Int.toNat_natCast, Nat.mul_one, ← rowA_zero]; rfl
  have Hz1 := Lib.hid hz1
  have Hz2 := Lib.hid hz2
  have Hi := Lib.hid hi
  have Hz0 := Lib.hid hz0
  clear hi hz0 hz1 hz2
  go_enter Tryd.func86, Tryd.ntmps86
  go_wp2_with (go_at_call 102; refine (size_yes hs _).mono ?_; rintro e w' ⟨rfl, rfl⟩)
  go_loopw [13] (fun i wr => ∃ k : Nat, k ≤ s ∧ i = .int .i64 k ∧ wr = w.alloc (.cells (rowA (fun j => if j < k then byteN v j else 0) s) 5)) (fun i _ => (s - intOf i).toNat)
  case atStart => exact ⟨0, by omega, rfl, by simp⟩
  case round =>
    obtain ⟨k, hk, rfl, rfl⟩ := hrel
    by_cases hlt : k < s
    · have hb0 : 0 ≤ getI (v : Int) ((k : Int) * 8) 8 := getI_ge _ _ _
      have hb1 : getI (v : Int) ((k : Int) * 8) 8 < 256 := by rw [getI_byte]; have := byteN_lt v k; omega
      have hin := rowA_get (fun j => if j < k then byteN v j else 0) (n := s) (i := k) hlt
      have hst : Hid ((rowA (fun j => if j < k then byteN v j else 0) s).setIfInBounds k (.int .u8 (getI (v : Int) ((k : Int) * 8) 8)) = rowA (fun j => if j < k + 1 then byteN v j else 0) s) := by
        apply Lib.hid
        rw [getI_byte, rowA_set]
        apply rowA_congr
        intro j hj
        by_cases h1 : j = k
        · subst h1; simp
        · by_cases h2 : j < k
          · simp [h1, h2, show j < k + 1 by omega]
          · simp [h1, h2, show ¬ j < k + 1 by omega]
      go_wp2_with (go_at_call 75; refine (get_c _ _ _ (by omega) (by omega) (by omega) (by omega) (by omega) (by omega) _).mono ?_; rintro e w' ⟨rfl, rfl⟩)
      go_roundw
      case rel => exact ⟨k + 1, by omega, by go_num, by rw [hst.out]⟩
      case measure => simp [intOf]; omega
    · have hk' : k = s := by omega
      subst hk'
      have hrow : Hid (rowA (fun j => if j < k then byteN v j else 0) k = rowA (byteN v) k) := Lib.hid (rowA_congr fun j hj => by simp [hj])
      go_wp2
      go_ret
      exact ⟨rfl, by rw [hrow.out]⟩

set_option maxRecDepth 100000 in
theorem bget_c (A : Option Addr) (l : List Nat) (c : Nat) (hl : IsBytes l) (hm : l.length ≤ 9223372036854775807) (w : World) (hs : SlB w A l) :
    Calls Tryd.prog 87 #[.slice A l.length c] w fun e w' => e = .returned (.int .u64 ((numN (l.take 8) : Nat) : Int)) ∧ w = w' := by
  by_cases h8 : l.length ≤ 8
  all_goals
    go_enter Tryd.func87, Tryd.ntmps87
    go_wp2
    go_loop [3, 8] (fun v i => ∃ k : Nat, k ≤ min l.length 8 ∧ i = .int .i64 k ∧ v = .int .u64 ((numN (l.take k) : Nat) : Int)) (fun _ i => 8 - (intOf i).toNat)
    case atStart => exact ⟨0, by omega, rfl, rfl⟩
    case round =>
      obtain ⟨k, hk, rfl, rfl⟩ := hrel
      have hn1 : ((numN (l.take k) : Nat) : Int) < 18446744073709551616 := by
        have := numN_8 (hl.take k)
        rw [List.take_take, show min 8 k = k by omega] at this
        omega
      by_cases hlt : k < min l.length 8
      · obtain ⟨b, off, rfl, hb, hc⟩ := hs (by omega)
        have hck := hc k (by omega)
        have hx : bAt l k < 256 := bAt_lt hl k
        have hst : Hid (setI ((numN (l.take k) : Nat) : Int) ((k : Int) * 8) 8 ((bAt l k : Nat) : Int) = ((numN (l.take (k + 1)) : Nat) : Int)) := by
          apply Lib.hid
          rw [← set_byte hl (show k < l.length by omega) (by omega)]
          unfold setI bAt
          rw [Int.toNat_natCast, Int.toNat_natCast, show ((k : Int) * 8).toNat = 8 * k by omega]; rfl
        clear hc hs
        have hk1 : k < l.length := by omega
        have hk8 : k < 8 := by omega
        have hkk : Hid (k < min l.length 8) := Lib.hid hlt
        clear hlt h8 hk
        try clear h
        have hd : decide ((k : Int) < 8) = true := by simp; omega
        go_wp2_with (go_at_call 84; refine (set_c _ _ _ _ (by omega) (by omega) (by omega) (by omega) (by omega) (by omega) (by omega) (by omega) _).mono ?_; rintro e w' ⟨rfl, rfl⟩)
        go_round
        case rel => exact ⟨k + 1, by have := hkk.out; omega, by go_num, by rw [hst.out]⟩
        case measure => simp [intOf]; omega
      · have hk' : l.take k = l.take 8 := by
          by_cases h : l.length ≤ 8
          · rw [List.take_of_length_le (by omega), List.take_of_length_le (by omega)]
          · rw [show k = 8 by omega]
        have Hk := Lib.hid hk'
        have hge : min l.length 8 = k := by omega
        clear hk' hn1 hlt hk
        by_cases e : l.length = k
        · subst e
          clear hge hs
          go_wp2
          all_goals go_ret
          all_goals (exact ⟨congrArg (fun n : Nat => Ending.returned (.int .u64 (n : Int))) (congrArg numN ((List.take_length (l := l)).symm.trans Hk.out)), rfl⟩)
        · obtain rfl : 8 = k := by omega
          clear hs
          go_wp2
          all_goals go_ret
          all_goals (exact ⟨rfl, rfl⟩)
end Go.Proofs.YticbjiddbjgikaaDoor
/- A memory as a list of cells (a place and its word), as natural numbers: plain facts. -/
namespace Go.Proofs.YticbjiddbjgikaaDoor
set_option linter.unusedVariables false
set_option linter.unusedSimpArgs false

theorem getD_get {l : List Nat} {i : Nat} (h : i < l.length) : l.getD i 0 = l[i] := by simp [h]

/-- the place and the word of the cell number i -/
def atN (L : List (Nat × Nat)) (i : Nat) : Nat := (L.getD i (0, 0)).1
def vlN (L : List (Nat × Nat)) (i : Nat) : Nat := (L.getD i (0, 0)).2
/-- the cells rise, hold no 0, lie below n -/
def RL (n : Nat) (L : List (Nat × Nat)) : Prop := L.Pairwise (fun a b => a.1 < b.1) ∧ ∀ c ∈ L, c.2 ≠ 0 ∧ c.2 < 18446744073709551616 ∧ c.1 < n
/-- the word at a place -/
def wordL : List (Nat × Nat) → Nat → Nat
  | [], _ => 0
  | c :: r, p => (if c.1 = p then c.2 else 0) + wordL r p

theorem RL.nil (n : Nat) : RL n [] := ⟨List.Pairwise.nil, fun c hc => by simp at hc⟩
theorem RL.tail {n : Nat} {c : Nat × Nat} {r : List (Nat × Nat)} (h : RL n (c :: r)) : RL n r := ⟨(List.pairwise_cons.1 h.1).2, fun x hx => h.2 x (by simp [hx])⟩
theorem RL.filter {n : Nat} {L : List (Nat × Nat)} (h : RL n L) (f : Nat × Nat → Bool) : RL n (L.filter f) := ⟨h.1.filter f, fun x hx => h.2 x (List.mem_filter.1 hx).1⟩
theorem wordL_append (A B : List (Nat × Nat)) (p : Nat) : wordL (A ++ B) p = wordL A p + wordL B p := by
  induction A with
  | nil => simp [wordL]
  | cons c r ih => simp [wordL, ih]; omega
theorem wordL_filter (L : List (Nat × Nat)) (f : Nat → Bool) (p : Nat) : wordL (L.filter fun c => f c.1) p = if f p then wordL L p else 0 := by
  induction L with
  | nil => simp [wordL]
  | cons c r ih =>
    rw [List.filter_cons]
    by_cases h : f c.1 = true
    · rw [if_pos h, wordL, wordL, ih]
      by_cases hp : c.1 = p
      · subst hp; simp [h]
      · simp [hp]
    · rw [if_neg h, ih, wordL]
      by_cases hp : c.1 = p
      · subst hp; simp [h]
      · simp [hp]
theorem wordL_none {L : List (Nat × Nat)} {p : Nat} (h : ∀ c ∈ L, c.1 ≠ p) : wordL L p = 0 := by
  induction L with
  | nil => rfl
  | cons c r ih => rw [wordL, if_neg (h c (by simp)), ih (fun x hx => h x (by simp [hx]))]
theorem wordL_head {n : Nat} {c : Nat × Nat} {r : List (Nat × Nat)} (h : RL n (c :: r)) : wordL (c :: r) c.1 = c.2 := by
  rw [wordL, if_pos rfl, wordL_none]; · rfl
  intro x hx
  have := (List.pairwise_cons.1 h.1).1 x hx
  omega
theorem wordL_mem {n : Nat} {L : List (Nat × Nat)} (h : RL n L) : ∀ c ∈ L, wordL L c.1 = c.2 := by
  induction L with
  | nil => intro c hc; simp at hc
  | cons d r ih =>
    intro c hc
    rcases List.mem_cons.1 hc with rfl | hc
    · exact wordL_head h
    · have := (List.pairwise_cons.1 h.1).1 c hc
      rw [wordL, if_neg (by omega), ih h.tail c hc, Nat.zero_add]
theorem wordL_lt {n : Nat} {L : List (Nat × Nat)} (h : RL n L) (p : Nat) : wordL L p < 18446744073709551616 := by
  by_cases hp : ∃ c ∈ L, c.1 = p
  · obtain ⟨c, hc, rfl⟩ := hp
    rw [wordL_mem h c hc]; exact (h.2 c hc).2.1
  · rw [wordL_none (fun c hc e => hp ⟨c, hc, e⟩)]; omega
theorem wordL_out {n : Nat} {L : List (Nat × Nat)} (h : RL n L) {p : Nat} (hp : n ≤ p) : wordL L p = 0 :=
  wordL_none fun c hc => by have := (h.2 c hc).2.2; omega
theorem RL.ext {n m : Nat} : ∀ {L K : List (Nat × Nat)}, RL n L → RL m K → (∀ p, wordL L p = wordL K p) → L = K
  | [], [], _, _, _ => rfl
  | [], c :: r, _, hK, h => by
    have h1 := h c.1
    rw [wordL_head hK] at h1
    exact absurd h1.symm (hK.2 c (by simp)).1
  | c :: r, [], hL, _, h => by
    have h1 := h c.1
    rw [wordL_head hL] at h1
    exact absurd h1 (hL.2 c (by simp)).1
  | c :: r, d :: s, hL, hK, h => by
    have hc := hL.2 c (by simp)
    have hd := hK.2 d (by simp)
    have h1 := h c.1
    have h2 := h d.1
    rw [wordL_head hL] at h1
    rw [wordL_head hK] at h2
    have e : c.1 = d.1 := by
      rcases Nat.lt_trichotomy c.1 d.1 with hlt | he | hgt
      · rw [wordL_none] at h1
        · exact absurd h1 hc.1
        · intro x hx
          rcases List.mem_cons.1 hx with rfl | hx
          · omega
          · have := (List.pairwise_cons.1 hK.1).1 x hx; omega
      · exact he
      · rw [wordL_none] at h2
        · exact absurd h2.symm hd.1
        · intro x hx
          rcases List.mem_cons.1 hx with rfl | hx
          · omega
          · have := (List.pairwise_cons.1 hL.1).1 x hx; omega
    have e2 : c.2 = d.2 := by rw [h1, e, wordL_head hK]
    have hcd : c = d := Prod.ext e e2
    subst hcd
    congr 1
    refine RL.ext hL.tail hK.tail fun p => ?_
    have := h p
    rw [wordL, wordL] at this
    omega

theorem atN_get {L : List (Nat × Nat)} {i : Nat} (h : i < L.length) : atN L i = L[i].1 := by simp [atN, h]
theorem vlN_get {L : List (Nat × Nat)} {i : Nat} (h : i < L.length) : vlN L i = L[i].2 := by simp [vlN, h]
theorem cell_get {L : List (Nat × Nat)} {i : Nat} (h : i < L.length) : L[i] = (atN L i, vlN L i) := by rw [atN_get h, vlN_get h]
theorem RL.rise {n : Nat} {L : List (Nat × Nat)} (h : RL n L) {i j : Nat} (hij : i < j) (hj : j < L.length) : atN L i < atN L j := by
  rw [atN_get (by omega), atN_get hj]
  exact List.pairwise_iff_getElem.1 h.1 i j (by omega) hj hij
theorem RL.at_lt {n : Nat} {L : List (Nat × Nat)} (h : RL n L) {i : Nat} (hi : i < L.length) : atN L i < n := by
  rw [atN_get hi]; exact (h.2 _ (List.getElem_mem hi)).2.2
theorem RL.vl_lt {n : Nat} {L : List (Nat × Nat)} (h : RL n L) {i : Nat} (hi : i < L.length) : vlN L i < 18446744073709551616 := by
  rw [vlN_get hi]; exact (h.2 _ (List.getElem_mem hi)).2.1
theorem RL.word_at {n : Nat} {L : List (Nat × Nat)} (h : RL n L) {i : Nat} (hi : i < L.length) : wordL L (atN L i) = vlN L i := by
  rw [atN_get hi, vlN_get hi]; exact wordL_mem h _ (List.getElem_mem hi)

/-- k cells lie below the place p -/
def IsCut (L : List (Nat × Nat)) (p k : Nat) : Prop := k ≤ L.length ∧ (∀ t, t < k → atN L t < p) ∧ (∀ t, k ≤ t → t < L.length → p ≤ atN L t)
theorem IsCut.take {L : List (Nat × Nat)} {p k : Nat} (h : IsCut L p k) : L.take k = L.filter fun c => decide (c.1 < p) := by
  conv => rhs; rw [← List.take_append_drop k L]
  rw [List.filter_append, List.filter_eq_self.2, List.filter_eq_nil_iff.2, List.append_nil]
  · intro c hc
    obtain ⟨i, hi, rfl⟩ := List.mem_iff_getElem.1 hc
    have hi' : k + i < L.length := by simp at hi; omega
    have := h.2.2 (k + i) (by omega) hi'
    rw [atN_get hi'] at this
    simp; omega
  · intro c hc
    obtain ⟨i, hi, rfl⟩ := List.mem_iff_getElem.1 hc
    have hi' : i < L.length ∧ i < k := by simp at hi; omega
    have := h.2.1 i hi'.2
    rw [atN_get hi'.1] at this
    simp; omega
theorem IsCut.drop {L : List (Nat × Nat)} {p k : Nat} (h : IsCut L p k) : L.drop k = L.filter fun c => decide (p ≤ c.1) := by
  conv => rhs; rw [← List.take_append_drop k L]
  rw [List.filter_append, List.filter_eq_nil_iff.2, List.filter_eq_self.2, List.nil_append]
  · intro c hc
    obtain ⟨i, hi, rfl⟩ := List.mem_iff_getElem.1 hc
    have hi' : k + i < L.length := by simp at hi; omega
    have := h.2.2 (k + i) (by omega) hi'
    rw [atN_get hi'] at this
    simp; omega
  · intro c hc
    obtain ⟨i, hi, rfl⟩ := List.mem_iff_getElem.1 hc
    have hi' : i < L.length ∧ i < k := by simp at hi; omega
    have := h.2.1 i hi'.2
    rw [atN_get hi'.1] at this
    simp; omega
theorem IsCut.word {n : Nat} {L : List (Nat × Nat)} (hL : RL n L) {p k : Nat} (h : IsCut L p k) (hk : k < L.length) (he : atN L k = p) : wordL L p = vlN L k := by
  rw [← he]; exact hL.word_at hk
theorem IsCut.none {n : Nat} {L : List (Nat × Nat)} (hL : RL n L) {p k : Nat} (h : IsCut L p k) (he : k = L.length ∨ atN L k ≠ p) : wordL L p = 0 := by
  apply wordL_none
  intro c hc
  obtain ⟨i, hi, rfl⟩ := List.mem_iff_getElem.1 hc
  rw [← atN_get hi]
  by_cases h1 : i < k
  · have := h.2.1 i h1; omega
  · have h2 := h.2.2 i (by omega) hi
    rcases he with rfl | he
    · omega
    · by_cases h3 : i = k
      · subst h3; omega
      · have h4 := h.2.2 k (Nat.le_refl _) (by omega)
        have h5 := hL.rise (show k < i by omega) hi
        omega

/-- the list without the places from p up to q, with others in their stead -/
def cutL (L : List (Nat × Nat)) (p q : Nat) (by' : List (Nat × Nat)) : List (Nat × Nat) := (L.filter fun c => decide (c.1 < p)) ++ (by' ++ L.filter fun c => decide (q ≤ c.1))
theorem cutL_word (L : List (Nat × Nat)) {p q : Nat} (by' : List (Nat × Nat)) (r : Nat) : wordL (cutL L p q by') r = (if r < p then wordL L r else 0) + (wordL by' r + if q ≤ r then wordL L r else 0) := by
  unfold cutL
  rw [wordL_append, wordL_append, wordL_filter L (fun x => decide (x < p)), wordL_filter L (fun x => decide (q ≤ x))]
  simp
theorem cutL_is {n : Nat} {L : List (Nat × Nat)} (h : RL n L) {p q : Nat} (hpq : p ≤ q) {by' : List (Nat × Nat)} (hb : RL n by') (hbp : ∀ c ∈ by', p ≤ c.1 ∧ c.1 < q) : RL n (cutL L p q by') := by
  refine ⟨?_, ?_⟩
  · unfold cutL
    rw [List.pairwise_append, List.pairwise_append]
    refine ⟨h.1.filter _, ⟨hb.1, h.1.filter _, ?_⟩, ?_⟩
    · intro a ha b hb'
      have h1 := hbp a ha
      have h2 := (List.mem_filter.1 hb').2
      simp at h2; omega
    · intro a ha b hb'
      have h1 := (List.mem_filter.1 ha).2
      simp at h1
      rcases List.mem_append.1 hb' with h2 | h2
      · have := hbp b h2; omega
      · have := (List.mem_filter.1 h2).2
        simp at this; omega
  · intro c hc
    unfold cutL at hc
    rcases List.mem_append.1 hc with h1 | h1
    · exact h.2 c (List.mem_filter.1 h1).1
    · rcases List.mem_append.1 h1 with h2 | h2
      · exact hb.2 c h2
      · exact h.2 c (List.mem_filter.1 h2).1
theorem cut_cut {L : List (Nat × Nat)} {p q k1 k2 : Nat} (hpq : p ≤ q) (h1 : IsCut L p k1) (h2 : IsCut (L.drop k1) q k2) (by' : List (Nat × Nat)) :
    L.take k1 ++ (by' ++ (L.drop k1).drop k2) = cutL L p q by' := by
  unfold cutL
  rw [h1.take, h2.drop, h1.drop, List.filter_filter]
  congr 2
  apply List.filter_congr
  intro c _
  by_cases h : q ≤ c.1
  · simp [h]; omega
  · simp [h]
theorem RL.drop {n : Nat} {L : List (Nat × Nat)} (h : RL n L) (k : Nat) : RL n (L.drop k) := ⟨h.1.drop, fun c hc => h.2 c (List.mem_of_mem_drop hc)⟩
theorem cutL_len {L : List (Nat × Nat)} {p q : Nat} (hpq : p ≤ q) (by' : List (Nat × Nat)) : (cutL L p q by').length ≤ L.length + by'.length := by
  have : ∀ L : List (Nat × Nat), (L.filter fun c => decide (c.1 < p)).length + (L.filter fun c => decide (q ≤ c.1)).length ≤ L.length := by
    intro L
    induction L with
    | nil => simp
    | cons c r ih =>
      rw [List.filter_cons, List.filter_cons]
      by_cases h1 : c.1 < p
      · simp [h1, show ¬ q ≤ c.1 by omega]; omega
      · by_cases h2 : q ≤ c.1
        · simp [h1, h2]; omega
        · simp [h1, h2]; omega
  have := this L
  unfold cutL
  simp only [List.length_append]; omega

/-! The word set: bytes. -/
theorem byte_ext {v u : Nat} (hv : v < 18446744073709551616) (hu : u < 18446744073709551616) (h : ∀ k, k < 8 → byteN v k = byteN u k) : v = u := by
  have e : bytesN v 8 = bytesN u 8 := by
    apply List.ext_getElem
    · rw [bytesN_len, bytesN_len]
    · intro i h1 h2
      rw [bytesN_len] at h1
      have a := bytesN_at v 8 i h1
      have b := bytesN_at u 8 i h1
      have c := h i h1
      rw [getD_get (by rw [bytesN_len]; omega)] at a b
      omega
  have a := numN_bytes v 8
  have b := numN_bytes u 8
  rw [e] at a
  have e8 : (256 ^ 8 : Nat) = 18446744073709551616 := by decide
  rw [e8, Nat.mod_eq_of_lt hv] at a
  rw [e8, Nat.mod_eq_of_lt hu] at b
  omega
theorem byteN_num {l : List Nat} (hl : IsBytes l) {k : Nat} (hk : k < l.length) : byteN (numN l) k = l.getD k 0 := by
  rw [← bytesN_at (numN l) l.length k hk, bytes_num l hl]
/-- the bytes of a function, as a list -/
def rowN (f : Nat → Nat) (n : Nat) : List Nat := (List.range n).map f
theorem rowN_len (f : Nat → Nat) (n : Nat) : (rowN f n).length = n := by simp [rowN]
theorem rowN_is {f : Nat → Nat} (h : ∀ k, f k < 256) (n : Nat) : IsBytes (rowN f n) := by
  intro x hx
  simp only [rowN, List.mem_map] at hx
  obtain ⟨k, _, rfl⟩ := hx
  exact h k
theorem rowN_at (f : Nat → Nat) {n k : Nat} (h : k < n) : (rowN f n).getD k 0 = f k := by simp [rowN, h]
/-- the word W with the lowest s bytes of v in it, from the byte o on -/
def putW (W o s v : Nat) (k : Nat) : Nat := if o ≤ k ∧ k < o + s then byteN v (k - o) else byteN W k
theorem putW_lt (W o s v k : Nat) : putW W o s v k < 256 := by unfold putW; split <;> exact byteN_lt _ _
def newW (W o s v : Nat) : Nat := numN (rowN (putW W o s v) 8)
theorem newW_lt (W o s v : Nat) : newW W o s v < 18446744073709551616 := by
  have := numN_lt _ (rowN_is (putW_lt W o s v) 8)
  rw [rowN_len] at this
  exact this
theorem newW_byte (W o s v : Nat) {k : Nat} (h : k < 8) : byteN (newW W o s v) k = putW W o s v k := by
  unfold newW
  rw [byteN_num (rowN_is (putW_lt W o s v) 8) (by rw [rowN_len]; exact h), rowN_at _ h]

/-- the memory with the lowest s bytes of v in it, from an address on -/
def storeL (L : List (Nat × Nat)) (a s v : Nat) : List (Nat × Nat) :=
  cutL L (a / 8) (a / 8 + 1) (if newW (wordL L (a / 8)) (a % 8) s v = 0 then [] else [(a / 8, newW (wordL L (a / 8)) (a % 8) s v)])
def clearL (L : List (Nat × Nat)) (p q : Nat) : List (Nat × Nat) := cutL L p q []
theorem store_by (p x : Nat) (c : Nat × Nat) (hc : c ∈ (if x = 0 then [] else [(p, x)])) : c = (p, x) ∧ x ≠ 0 := by
  split at hc
  · simp at hc
  · simp at hc; exact ⟨hc, by assumption⟩
theorem storeL_is {n : Nat} {L : List (Nat × Nat)} (h : RL n L) {a : Nat} (ha : a / 8 < n) (s v : Nat) : RL n (storeL L a s v) := by
  refine cutL_is h (by omega) ⟨?_, ?_⟩ ?_
  · split <;> simp
  · intro c hc
    obtain ⟨rfl, h0⟩ := store_by _ _ c hc
    exact ⟨h0, newW_lt _ _ _ _, ha⟩
  · intro c hc
    obtain ⟨rfl, h0⟩ := store_by _ _ c hc
    exact ⟨Nat.le_refl _, Nat.lt_succ_self _⟩
theorem storeL_word {L : List (Nat × Nat)} (a s v r : Nat) : wordL (storeL L a s v) r = if r = a / 8 then newW (wordL L (a / 8)) (a % 8) s v else wordL L r := by
  unfold storeL
  rw [cutL_word]
  have hb : ∀ x, wordL (if x = 0 then [] else [(a / 8, x)]) r = if r = a / 8 then x else 0 := by
    intro x
    by_cases hx : x = 0
    · subst hx; simp [wordL]
    · simp [hx, wordL, eq_comm]
  rw [hb]
  by_cases h : r = a / 8
  · subst h; simp; omega
  · by_cases h1 : r < a / 8
    · simp [h, h1, show ¬ a / 8 + 1 ≤ r by omega]
    · simp [h, h1, show a / 8 + 1 ≤ r by omega]
theorem storeL_len (L : List (Nat × Nat)) (a s v : Nat) : (storeL L a s v).length ≤ L.length + 1 := by
  refine Nat.le_trans (cutL_len (by omega) _) ?_
  split <;> simp
theorem clearL_is {n : Nat} {L : List (Nat × Nat)} (h : RL n L) {p q : Nat} (hpq : p ≤ q) : RL n (clearL L p q) :=
  cutL_is h hpq (RL.nil n) (fun c hc => by simp at hc)
theorem clearL_word {L : List (Nat × Nat)} {p q : Nat} (hpq : p ≤ q) (r : Nat) : wordL (clearL L p q) r = if p ≤ r ∧ r < q then 0 else wordL L r := by
  unfold clearL
  rw [cutL_word]
  by_cases h1 : r < p
  · simp [h1, wordL, show ¬ q ≤ r by omega, show ¬ (p ≤ r ∧ r < q) by omega]
  · by_cases h2 : q ≤ r
    · simp [h1, wordL, h2, show ¬ (p ≤ r ∧ r < q) by omega]
    · simp [h1, wordL, h2, show p ≤ r ∧ r < q by omega]
/-! The document's own way to set a word: one walk along the list. -/
def stepS (p v : Nat) (x : List (Nat × Nat) × Bool) (c : Nat × Nat) : List (Nat × Nat) × Bool :=
  let y := if !x.2 && decide (p < c.1) then (x.1 ++ [(p, v)], true) else x
  (if c.1 = p then y.1 else y.1 ++ [c], y.2)
def runS (p v : Nat) (L : List (Nat × Nat)) (k : Nat) : List (Nat × Nat) × Bool := (L.take k).foldl (stepS p v) ([], v == 0)
theorem runS_0 (p v : Nat) (L : List (Nat × Nat)) : runS p v L 0 = ([], v == 0) := by simp [runS]
theorem runS_succ (p v : Nat) (L : List (Nat × Nat)) {k : Nat} (h : k < L.length) : runS p v L (k + 1) = stepS p v (runS p v L k) (atN L k, vlN L k) := by
  unfold runS
  rw [List.take_succ_eq_append_getElem h, List.foldl_append, List.foldl_cons, List.foldl_nil, cell_get h]
theorem fold_done (p v : Nat) (L : List (Nat × Nat)) (l : List (Nat × Nat)) : L.foldl (stepS p v) (l, true) = (l ++ L.filter (fun c => decide (c.1 ≠ p)), true) := by
  induction L generalizing l with
  | nil => simp
  | cons c r ih =>
    rw [List.foldl_cons]
    by_cases h : c.1 = p
    · simp [stepS, h, ih]
    · simp [stepS, h, ih]
def endS (p v : Nat) (x : List (Nat × Nat) × Bool) : List (Nat × Nat) := if x.2 then x.1 else x.1 ++ [(p, v)]
theorem fold_open {n : Nat} (p v : Nat) (L : List (Nat × Nat)) (h : RL n L) (l : List (Nat × Nat)) :
    endS p v (L.foldl (stepS p v) (l, false)) = l ++ cutL L p (p + 1) [(p, v)] := by
  induction L generalizing l with
  | nil => simp [endS, cutL]
  | cons c r ih =>
    have hr := (List.pairwise_cons.1 h.1).1
    rw [List.foldl_cons]
    by_cases h1 : c.1 = p
    · have e : stepS p v (l, false) c = (l, false) := by simp [stepS, h1]
      rw [e, ih h.tail]
      unfold cutL
      simp [List.filter_cons, h1]
    · by_cases h2 : p < c.1
      · have e : stepS p v (l, false) c = (l ++ [(p, v)] ++ [c], true) := by simp [stepS, h2, h1]
        rw [e, fold_done]
        unfold cutL endS
        have f1 : (c :: r).filter (fun c => decide (c.1 < p)) = [] := by
          rw [List.filter_eq_nil_iff]
          intro x hx
          rcases List.mem_cons.1 hx with rfl | hx
          · simp; omega
          · have := hr x hx; simp; omega
        have f2 : (c :: r).filter (fun c => decide (p + 1 ≤ c.1)) = c :: r := by
          rw [List.filter_eq_self]
          intro x hx
          rcases List.mem_cons.1 hx with rfl | hx
          · simp; omega
          · have := hr x hx; simp; omega
        have f3 : r.filter (fun c => decide (c.1 ≠ p)) = r := by
          rw [List.filter_eq_self]
          intro x hx
          have := hr x hx; simp; omega
        rw [f1, f2, f3]; simp
      · have e : stepS p v (l, false) c = (l ++ [c], false) := by simp [stepS, h2, h1]
        rw [e, ih h.tail]
        unfold cutL
        simp [List.filter_cons, show c.1 < p by omega, show ¬ p < c.1 by omega, show ¬ p + 1 ≤ c.1 by omega]
theorem setS {n : Nat} {p v : Nat} {L : List (Nat × Nat)} (h : RL n L) : endS p v (runS p v L L.length) = cutL L p (p + 1) (if v = 0 then [] else [(p, v)]) := by
  unfold runS
  rw [List.take_length]
  by_cases hv : v = 0
  · subst hv
    rw [show ((0 : Nat) == 0) = true from rfl, fold_done]
    simp only [endS, if_true, List.nil_append]
    refine RL.ext (h.filter _) (cutL_is h (by omega) (RL.nil n) (fun c hc => by simp at hc)) fun r => ?_
    rw [cutL_word, wordL_filter L (fun x => decide (x ≠ p))]
    by_cases h1 : r = p
    · subst h1; simp [wordL]; omega
    · by_cases h2 : r < p
      · simp [wordL, h1, h2, show ¬ p + 1 ≤ r by omega]
      · simp [wordL, h1, h2, show p + 1 ≤ r by omega]
  · rw [show (v == 0) = false by simpa using hv, fold_open p v L h, if_neg hv, List.nil_append]
/-- the document's own way to clear -/
theorem clearS {n : Nat} {L : List (Nat × Nat)} (h : RL n L) {p q : Nat} (hpq : p ≤ q) : (L.filter fun c => decide (8 * c.1 < 8 * p) || decide (8 * q ≤ 8 * c.1)) = clearL L p q := by
  refine RL.ext (h.filter _) (clearL_is h hpq) fun r => ?_
  rw [clearL_word hpq, wordL_filter L (fun x => decide (8 * x < 8 * p) || decide (8 * q ≤ 8 * x))]
  by_cases h1 : p ≤ r ∧ r < q
  · rw [if_pos h1, if_neg (by simp; omega)]
  · rw [if_neg h1, if_pos (by simp; omega)]
attribute [irreducible] atN vlN
end Go.Proofs.YticbjiddbjgikaaDoor
