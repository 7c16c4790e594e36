/- The document's answers for layer 1 (package atlasref01): a bit, a word of bits, the field, the field set, the sign. -/
import Derived.Test.YticbjiddbjgikaaDoorGone
import Derived.Test.YticbjiddbjgikaaDoorGagg
import Derived.Below
import Derived.Laws.Rows
import Derived.Deep.Draws
namespace Go.Proofs.YticbjiddbjgikaaDoor
open Go.ChangeShapes Go.WideShapes Go.ChangeAt Go.RowKit
set_option linter.unusedVariables false

def bitB (x i : Int) : Bool := if 0 ≤ i ∧ i ≤ 63 then x.toNat.testBit i.toNat else false
attribute [irreducible] bitB

theorem bitB_out {x i : Int} (h : i < 0 ∨ 63 < i) : bitB x i = false := by unfold bitB; rw [if_neg (by omega)]
theorem bitB_in {x i : Int} (h0 : 0 ≤ i) (h1 : i ≤ 63) : bitB x i = x.toNat.testBit i.toNat := by unfold bitB; rw [if_pos ⟨h0, h1⟩]

theorem bit_word {x : Int} (x0 : 0 ≤ x) (k : Nat) : (x / 2 ^ k % 2 == 1) = x.toNat.testBit ((k : Int)).toNat := by
  obtain ⟨m, rfl⟩ := Int.eq_ofNat_of_zero_le x0
  rw [Int.toNat_natCast, Int.toNat_natCast, Nat.testBit_eq_decide_div_mod_eq, pow_cast, Bool.eq_iff_iff, beq_iff_eq, decide_eq_true_iff]
  omega
theorem bit_c (x i : Int) (x0 : 0 ≤ x) (x1 : x < 18446744073709551616) (w : World) :
    Calls Tryd.prog 73 #[.int .u64 x, .int .i64 i] w fun e w' => e = .returned (.bool (bitB x i)) ∧ w = w' := by
  by_cases h : i < 0 ∨ 63 < i
  · have H := Lib.hid (bitB_out (x := x) h)
    rcases h with h | h
    all_goals
      go_enter Tryd.func73, Tryd.ntmps73
      go_wp2
      go_ret
      exact ⟨by rw [H.out]; rfl, rfl⟩
  · have h0 : 0 ≤ i := by omega
    have h1 : i ≤ 63 := by omega
    clear h
    have H := Lib.hid (bitB_in (x := x) h0 h1)
    obtain ⟨n, rfl⟩ := Int.eq_ofNat_of_zero_le h0
    go_enter Tryd.func73, Tryd.ntmps73
    go_wp2
    go_loop [0, 5] (fun a b => ∃ k : Nat, k ≤ n ∧ b = .int .i64 k ∧ a = .int .u64 (x / 2 ^ k)) (fun _ b => n - (intOf b).toNat)
    case atStart => exact ⟨0, Nat.zero_le _, rfl, by simp⟩
    case round =>
      obtain ⟨k, hk, rfl, rfl⟩ := hrel
      have hd0 : 0 ≤ x / 2 ^ k := Int.ediv_nonneg x0 (Int.le_of_lt (Int.pow_pos (by decide)))
      have hd1 : x / 2 ^ k < 18446744073709551616 := Int.lt_of_le_of_lt (Int.ediv_le_self _ x0) x1
      by_cases hlt : k < n
      · have H2 : Hid (x / 2 ^ k / 2 = x / 2 ^ (k + 1)) := Lib.hid (by rw [Int.ediv_ediv_of_nonneg (Int.le_of_lt (Int.pow_pos (by decide))), Int.pow_succ])
        go_wp2
        go_round
        case rel => exact ⟨k + 1, by omega, by go_num, by rw [← H2.out]⟩
        case measure => simp [intOf]; omega
      · go_wp2
        go_ret
        have hk' : k = n := by omega
        subst hk'
        refine ⟨?_, rfl⟩
        rw [H.out]
        exact congrArg (fun b => Ending.returned (.bool b)) (bit_word x0 k)

def bs (f : Nat → Bool) : Array Value := Array.ofFn (n := 64) fun j => .bool (f j)
theorem bs_get (f : Nat → Bool) {i : Nat} (h : i < 64) : (bs f)[i]? = some (.bool (f i)) := by simp [bs, h]
theorem bs_size (f : Nat → Bool) : (bs f).size = 64 := by simp [bs]
theorem bs_zero : bs (fun _ => false) = #[.bool false, .bool false, .bool false, .bool false, .bool false, .bool false, .bool false, .bool false, .bool false, .bool false, .bool false, .bool false, .bool false, .bool false, .bool false, .bool false, .bool false, .bool false, .bool false, .bool false, .bool false, .bool false, .bool false, .bool false, .bool false, .bool false, .bool false, .bool false, .bool false, .bool false, .bool false, .bool false, .bool false, .bool false, .bool false, .bool false, .bool false, .bool false, .bool false, .bool false, .bool false, .bool false, .bool false, .bool false, .bool false, .bool false, .bool false, .bool false, .bool false, .bool false, .bool false, .bool false, .bool false, .bool false, .bool false, .bool false, .bool false, .bool false, .bool false, .bool false, .bool false, .bool false, .bool false, .bool false] := rfl
attribute [irreducible] bs

/-- the number of the k highest ones of 64 bits -/
def ofN (f : Nat → Bool) : Nat → Nat
  | 0 => 0
  | k + 1 => 2 * ofN f k + (f (63 - k)).toNat
theorem ofN_lt (f : Nat → Bool) : ∀ k, ofN f k < 2 ^ k
  | 0 => by simp [ofN]
  | k + 1 => by
    have := ofN_lt f k
    have hb : (f (63 - k)).toNat ≤ 1 := Bool.toNat_le _
    simp only [ofN, Nat.pow_succ]; omega
theorem ofN_bit (f : Nat → Bool) : ∀ k j, k ≤ 64 → (ofN f k).testBit j = (decide (j < k) && f (64 - k + j))
  | 0, j, _ => by simp [ofN]
  | k + 1, 0, h => by
    simp only [ofN, Nat.testBit_zero]
    rw [show 64 - (k + 1) + 0 = 63 - k by omega]
    cases f (63 - k) <;> simp <;> omega
  | k + 1, j + 1, h => by
    have ih := ofN_bit f k j (by omega)
    simp only [ofN, Nat.testBit_succ]
    rw [show (2 * ofN f k + (f (63 - k)).toNat) / 2 = ofN f k by have := Bool.toNat_le (f (63 - k)); omega, ih]
    rw [show 64 - (k + 1) + (j + 1) = 64 - k + j by omega]; simp

theorem of_c (f : Nat → Bool) (w : World) :
    Calls Tryd.prog 91 #[.agg (bs f)] w fun e w' => e = .returned (.int .u64 (ofN f 64)) ∧ Below w.heap.size w w' := by
  go_enter Tryd.func91, Tryd.ntmps91
  go_wp2
  go_loop [3, 4] (fun a b => ∃ k i : Nat, k + i = 64 ∧ b = .int .i64 ((i : Int) - 1) ∧ a = .int .u64 (ofN f k)) (fun _ b => (intOf b + 1).toNat)
  case atStart => exact ⟨0, 64, by omega, by go_num, rfl⟩
  case round =>
    obtain ⟨k, i, hk, rfl, rfl⟩ := hrel
    have hl := ofN_lt f k
    rcases i with _ | i
    · have hk' : k = 64 := by omega
      subst hk'
      rw [show ((0 : Nat) : Int) - 1 = -1 by rfl]
      go_wp2
      go_ret
      exact ⟨rfl, (Below.refl _ _).alloc (Nat.le_refl _) _⟩
    · have hp : 2 ^ (k + 1) ≤ 2 ^ 64 := Nat.pow_le_pow_right (by decide) (by omega)
      have hq : 2 * ofN f k + 1 < 2 ^ (k + 1) := by rw [Nat.pow_succ]; omega
      have hb : (2 * ofN f k + 1 : Int) < 18446744073709551616 := by omega
      have hc : (w.alloc (.cells (bs f) 121)).cell? ⟨w.heap.size, i, none⟩ = some (.bool (f i)) := by
        rw [(show (w.alloc (.cells (bs f) 121)).cell? ⟨w.heap.size, i, none⟩ = (bs f)[i]? from cell_of_row _ _ _ _ _ (0, 0) (heap_alloc_new w _)), bs_get f (by omega)]
      have hi : i ≤ 63 := by omega
      have hs : Hid (ofN f (k + 1) = 2 * ofN f k + (f i).toNat) := Lib.hid (by rw [ofN, show 63 - k = i by omega])
      have hk2 := Lib.hid hk
      clear hp hq hl hk
      rw [show ((i + 1 : Nat) : Int) - 1 = i by omega]
      cases hf : f i
      all_goals
        rw [hf] at hc hs
        clear hf
        go_wp2
        refine ⟨⟨k + 1, i, by have := hk2.out; omega, rfl, ?_⟩, by simp [intOf]⟩
        rw [hs.out]; go_num

theorem bs_set (f : Nat → Bool) (i : Nat) (b : Bool) : (bs f).setIfInBounds i (.bool b) = bs (fun j => if j = i then b else f j) := by
  apply Array.ext
  · simp [bs_size]
  · intro j h1 h2
    have hj : j < 64 := by simpa [bs_size] using h2
    have e1 := bs_get f hj
    have e2 := bs_get (fun j => if j = i then b else f j) hj
    rw [Array.getElem?_eq_getElem (by rw [bs_size]; exact hj)] at e1 e2
    rw [Array.getElem_setIfInBounds (by rw [bs_size]; exact hj), Option.some.inj e1, Option.some.inj e2]
    by_cases h : i = j
    · subst h; simp
    · simp [h, Ne.symm h]

theorem bs_step (g : Nat → Bool) (k : Nat) : bs (fun j => if j = k then g k else if j < k then g j else false) = bs (fun j => if j < k + 1 then g j else false) := by
  congr 1; funext j
  by_cases h1 : j = k
  · subst h1; simp
  · by_cases h2 : j < k
    · simp [h1, h2, show j < k + 1 by omega]
    · simp [h1, h2, show ¬ j < k + 1 by omega]
theorem bs_all (g : Nat → Bool) : bs (fun j => if j < 64 then g j else false) = bs g := by
  apply Array.ext
  · simp [bs_size]
  · intro j h1 h2
    have hj : j < 64 := by simpa [bs_size] using h2
    have e1 := bs_get g hj
    have e2 := bs_get (fun j => if j < 64 then g j else false) hj
    rw [Array.getElem?_eq_getElem (by rw [bs_size]; exact hj)] at e1 e2
    rw [Option.some.inj e1, Option.some.inj e2, if_pos hj]

theorem bs_set2 (f : Nat → Bool) (k : Nat) (a b : Bool) : ((bs f).setIfInBounds k (.bool a)).setIfInBounds k (.bool b) = bs (fun j => if j = k then b else f j) := by
  rw [bs_set, bs_set]; congr 1; funext j
  by_cases h : j = k <;> simp [h]

def fsI (x lo n v : Int) (j : Nat) : Bool := if lo ≤ j ∧ (j : Int) < lo + n then bitB v (j - lo) else bitB x j

set_option maxHeartbeats 1000000 in
set_option maxRecDepth 100000 in
theorem rset1_c (x lo n v : Int) (x0 : 0 ≤ x) (x1 : x < 18446744073709551616) (v0 : 0 ≤ v) (v1 : v < 18446744073709551616) (l0 : 0 ≤ lo) (l1 : lo ≤ 64) (n0 : 0 ≤ n) (n1 : n ≤ 64) (w : World) :
    Calls Tryd.prog 81 #[.int .u64 x, .int .i64 lo, .int .i64 n, .int .u64 v] w fun e w' => e = .returned (.int .u64 (ofN (fsI x lo n v) 64)) ∧ Below w.heap.size w w' := by
  go_enter Tryd.func81, Tryd.ntmps81
  go_wp2
  rw [← bs_zero]
  go_loopw [10] (fun a w' => ∃ k : Nat, k ≤ 64 ∧ a = .int .i64 k ∧ Blk w' w.heap.size 121 (bs (fun j => if j < k then fsI x lo n v j else false)) ∧ Below w.heap.size w w') (fun a _ => (64 - intOf a).toNat)
  case atStart => exact ⟨0, by omega, rfl, by simpa using Blk.new w _ (bs fun _ => false), (Below.refl _ _).alloc (Nat.le_refl _) _⟩
  case round =>
    obtain ⟨k, hk, rfl, hblk, hbel⟩ := hrel
    by_cases hlt : k < 64
    · have hc : wr.cell? ⟨w.heap.size, k, none⟩ = some (.bool false) := by rw [hblk.cell, bs_get _ (by omega)]; simp
      have hf := hblk.frozen k
      have hs := Lib.hid (bs_step (fsI x lo n v) k)
      by_cases hin : lo ≤ (k : Int) ∧ (k : Int) < lo + n
      · obtain ⟨i0, i1⟩ := hin
        have hv : fsI x lo n v k = bitB v (k - lo) := by unfold fsI; rw [if_pos ⟨i0, i1⟩]
        have hb0 := hblk.set_ k (.bool (bitB x k))
        have hc2 : (wr.setCell ⟨w.heap.size, k, none⟩ (.bool (bitB x k))).cell? ⟨w.heap.size, k, none⟩ = some (.bool (bitB x k)) := by
          rw [hb0.cell, bs_set, bs_get _ (by omega)]; simp
        have hf2 := hb0.frozen k
        have hb1 := Lib.hid (hb0.set_ k (.bool (fsI x lo n v k)))
        have hb2 := Lib.hid ((hbel.setCell (p := ⟨w.heap.size, k, none⟩) (Nat.le_refl _) (.bool (bitB x k))).setCell (p := ⟨w.heap.size, k, none⟩) (Nat.le_refl _) (.bool (fsI x lo n v k)))
        rw [hv] at hb1 hb2 hs
        clear hblk hbel hb0 hv
        go_wp2_with (go_at_call 73; refine (bit_c _ _ (by omega) (by omega) _).mono ?_; rintro e w' ⟨rfl, rfl⟩)
        go_roundw
        case rel => exact ⟨k + 1, by omega, by go_num, by rw [← hs.out, ← bs_set2]; exact hb1.out, hb2.out⟩
        case measure => simp [intOf]; omega
      · have hv : fsI x lo n v k = bitB x k := by unfold fsI; rw [if_neg hin]
        have hb1 := Lib.hid (hblk.set_ k (.bool (fsI x lo n v k)))
        have hb2 := Lib.hid (hbel.setCell (p := ⟨w.heap.size, k, none⟩) (Nat.le_refl _) (.bool (fsI x lo n v k)))
        rw [hv] at hb1 hb2 hs
        clear hblk hbel hv
        by_cases i0 : lo ≤ (k : Int)
        · have i1 : lo + n ≤ (k : Int) := by omega
          clear hin
          go_wp2_with (go_at_call 73; refine (bit_c _ _ (by omega) (by omega) _).mono ?_; rintro e w' ⟨rfl, rfl⟩)
          go_roundw
          case rel => exact ⟨k + 1, by omega, by go_num, by rw [← hs.out, ← bs_set]; exact hb1.out, hb2.out⟩
          case measure => simp [intOf]; omega
        · clear hin
          go_wp2_with (go_at_call 73; refine (bit_c _ _ (by omega) (by omega) _).mono ?_; rintro e w' ⟨rfl, rfl⟩)
          go_roundw
          case rel => exact ⟨k + 1, by omega, by go_num, by rw [← hs.out, ← bs_set]; exact hb1.out, hb2.out⟩
          case measure => simp [intOf]; omega
    · have hk' : k = 64 := by omega
      subst hk'
      rw [bs_all] at hblk
      have Hi := Lib.hid (show (Tryd.prog.info? 121).map (·.size) = some (bs (fsI x lo n v)).size by rw [bs_size]; kernel_rfl)
      have Hb := Lib.hid hblk
      clear hblk
      go_wp2_with first | (refine wpList_load_row (o := ⟨some 37, _, _, _, _, _⟩) rfl 121 (.tmp 9) rfl w.heap.size rfl 121 (bs (fsI x lo n v)) (0, 0) _ Hb.out Tryd.underlying121 rfl Hi.out ?_) | (go_at_call 91; refine (of_c _ _).mono ?_; rintro e w2 ⟨rfl, hb2⟩)
      go_ret
      exact ⟨rfl, hbel.trans (hb2.mono hbel.size)⟩

def fnI (x n : Int) (j : Nat) : Bool := bitB x (if (j : Int) ≤ n - 1 then j else n - 1)

set_option maxRecDepth 10000 in
set_option maxHeartbeats 1000000 in
theorem rsign_c (x n : Int) (x0 : 0 ≤ x) (x1 : x < 18446744073709551616) (n0 : 1 ≤ n) (n1 : n ≤ 64) (w : World) :
    Calls Tryd.prog 72 #[.int .u64 x, .int .i64 n] w fun e w' => e = .returned (.int .u64 (ofN (fnI x n) 64)) ∧ Below w.heap.size w w' := by
  go_enter Tryd.func72, Tryd.ntmps72
  go_wp2
  rw [← bs_zero]
  go_loopw [6] (fun a w' => ∃ k : Nat, k ≤ 64 ∧ a = .int .i64 k ∧ Blk w' w.heap.size 121 (bs (fun j => if j < k then fnI x n j else false)) ∧ Below w.heap.size w w') (fun a _ => (64 - intOf a).toNat)
  case atStart => exact ⟨0, by omega, rfl, by simpa using Blk.new w _ (bs fun _ => false), (Below.refl _ _).alloc (Nat.le_refl _) _⟩
  case round =>
    obtain ⟨k, hk, rfl, hblk, hbel⟩ := hrel
    by_cases hlt : k < 64
    · have hc : wr.cell? ⟨w.heap.size, k, none⟩ = some (.bool false) := by rw [hblk.cell, bs_get _ (by omega)]; simp
      have hf := hblk.frozen k
      have hs := Lib.hid (bs_step (fnI x n) k)
      have hb1 := Lib.hid (hblk.set_ k (.bool (fnI x n k)))
      have hb2 := Lib.hid (hbel.setCell (p := ⟨w.heap.size, k, none⟩) (Nat.le_refl _) (.bool (fnI x n k)))
      clear hblk hbel
      by_cases hin : (k : Int) ≤ n - 1
      · rw [show fnI x n k = bitB x k by unfold fnI; rw [if_pos hin]] at hb1 hb2 hs
        go_wp2_with (go_at_call 73; refine (bit_c _ _ (by omega) (by omega) _).mono ?_; rintro e w' ⟨rfl, rfl⟩)
        go_roundw
        case rel => exact ⟨k + 1, by omega, by go_num, by rw [← hs.out, ← bs_set]; exact hb1.out, hb2.out⟩
        case measure => simp [intOf]; omega
      · rw [show fnI x n k = bitB x (n - 1) by unfold fnI; rw [if_neg hin]] at hb1 hb2 hs
        go_wp2_with (go_at_call 73; refine (bit_c _ _ (by omega) (by omega) _).mono ?_; rintro e w' ⟨rfl, rfl⟩)
        go_roundw
        case rel => exact ⟨k + 1, by omega, by go_num, by rw [← hs.out, ← bs_set]; exact hb1.out, hb2.out⟩
        case measure => simp [intOf]; omega
    · have hk' : k = 64 := by omega
      subst hk'
      rw [bs_all] at hblk
      have Hi := Lib.hid (show (Tryd.prog.info? 121).map (·.size) = some (bs (fnI x n)).size by rw [bs_size]; kernel_rfl)
      have Hb := Lib.hid hblk
      clear hblk
      go_wp2_with first | (refine wpList_load_row (o := ⟨some 19, _, _, _, _, _⟩) rfl 121 (.tmp 5) rfl w.heap.size rfl 121 (bs (fnI x n)) (0, 0) _ Hb.out Tryd.underlying121 rfl Hi.out ?_) | (go_at_call 91; refine (of_c _ _).mono ?_; rintro e w2 ⟨rfl, hb2⟩)
      go_ret
      exact ⟨rfl, hbel.trans (hb2.mono hbel.size)⟩

theorem ofN_tb (f : Nat → Bool) (j : Nat) : (ofN f 64).testBit j = (decide (j < 64) && f j) := by
  rw [ofN_bit f 64 j (by omega), show 64 - 64 + j = j by omega]
theorem rset_eq {x lo n v : Int} (x0 : 0 ≤ x) (x1 : x < 18446744073709551616) (v0 : 0 ≤ v) (l0 : 0 ≤ lo) (n0 : 0 ≤ n) : ((ofN (fsI x lo n v) 64 : Nat) : Int) = setI x lo n v := by
  obtain ⟨L, rfl⟩ := Int.eq_ofNat_of_zero_le l0
  obtain ⟨N, rfl⟩ := Int.eq_ofNat_of_zero_le n0
  unfold setI
  rw [Int.toNat_natCast, Int.toNat_natCast]
  congr 1
  apply Nat.eq_of_testBit_eq; intro j
  rw [ofN_tb, tb_set (by omega)]
  unfold fsI
  by_cases hj : j < 64
  · by_cases h : L ≤ j ∧ j < L + N
    · rw [if_pos (by omega), if_pos (by omega), bitB_in (by omega) (by omega)]; simp [hj]
    · rw [if_neg (by omega), if_neg (by omega), bitB_in (by omega) (by omega)]; simp [hj]
  · rw [if_neg (c := j < 64 ∧ L ≤ j ∧ j < L + N) (by omega), tb_big (w := x.toNat) (by omega) (by omega)]; simp [hj]
theorem rsign_eq {x n : Int} (x0 : 0 ≤ x) (x1 : x < 18446744073709551616) (n0 : 1 ≤ n) (n1 : n ≤ 64) : ((ofN (fnI x n) 64 : Nat) : Int) = signI x n := by
  obtain ⟨N, rfl⟩ : ∃ N : Nat, n = N := ⟨n.toNat, by omega⟩
  unfold signI
  rw [Int.toNat_natCast]
  congr 1
  apply Nat.eq_of_testBit_eq; intro j
  rw [ofN_tb, tb_sign (by omega) (by omega) (by omega)]
  unfold fnI
  by_cases hj : j < 64
  · simp only [hj, decide_true, Bool.true_and]
    split
    · rw [bitB_in (by omega) (by omega)]; congr 1; omega
    · rw [bitB_in (by omega) (by omega)]; congr 1; omega
  · simp [hj]
end Go.Proofs.YticbjiddbjgikaaDoor
