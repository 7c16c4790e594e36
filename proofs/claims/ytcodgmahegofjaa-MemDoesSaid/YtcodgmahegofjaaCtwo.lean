/- The contracts of package bytes: Size, Put, Get; slices of bytes as lists of numbers. -/
import Derived.Test.YtcodgmahegofjaaRows
import Derived.Test.YtcodgmahegofjaaCone
import Derived.Test.YtcodgmahegofjaaMtwo
import Derived.Below
import Derived.Deep.Draws
import Derived.Laws.Rows
namespace Go.Proofs.Ytcodgmahegofjaa
open Go.ChangeShapes Go.WideShapes Go.ChangeAt Go.RowKit
set_option linter.unusedVariables false

def sizeB (n : Int) : Bool := n == 1 || n == 2 || n == 4 || n == 8
def IsSize (s : Nat) : Prop := s = 1 ∨ s = 2 ∨ s = 4 ∨ s = 8
theorem IsSize.le {s : Nat} (h : IsSize s) : 1 ≤ s ∧ s ≤ 8 := by unfold IsSize at h; omega
theorem IsSize.b {s : Nat} (h : IsSize s) : sizeB s = true := by
  rcases h with rfl | rfl | rfl | rfl <;> rfl
theorem sizeB_is {s : Nat} (h : sizeB s = true) : IsSize s := by
  simp only [sizeB, Bool.or_eq_true, beq_iff_eq] at h
  unfold IsSize; omega

theorem size_c (n : Int) (w : World) :
    Calls Try.prog 36 #[.int .i64 n] w fun e w' => e = .returned (.bool (sizeB n)) ∧ w = w' := by
  by_cases h1 : n = 1
  · subst h1; go_enter Try.func36, Try.ntmps36
    go_wp2
    go_ret
    exact ⟨rfl, rfl⟩
  by_cases h2 : n = 2
  · subst h2; go_enter Try.func36, Try.ntmps36
    go_wp2
    go_ret
    exact ⟨rfl, rfl⟩
  by_cases h4 : n = 4
  · subst h4; go_enter Try.func36, Try.ntmps36
    go_wp2
    go_ret
    exact ⟨rfl, rfl⟩
  by_cases h8 : n = 8
  · subst h8; go_enter Try.func36, Try.ntmps36
    go_wp2
    go_ret
    exact ⟨rfl, rfl⟩
  have b1 : (n == 1) = false := by simpa using h1
  have b2 : (n == 2) = false := by simpa using h2
  have b4 : (n == 4) = false := by simpa using h4
  have b8 : (n == 8) = false := by simpa using h8
  have H : Hid (sizeB n = false) := Lib.hid (by simp [sizeB, h1, h2, h4, h8])
  clear h1 h2 h4 h8
  go_enter Try.func36, Try.ntmps36
  go_wp2
  go_ret
  exact ⟨congrArg (fun b => Ending.returned (.bool b)) H.out.symm, rfl⟩

theorem size_yes {s : Nat} (hs : IsSize s) (w : World) :
    Calls Try.prog 36 #[.int .i64 (s : Int)] w fun e w' => e = .returned (.bool true) ∧ w = w' :=
  (size_c s w).mono fun _ _ ⟨he, hw⟩ => ⟨by rw [he, hs.b], hw⟩

/-- n bytes, by their places, as cells -/
def rowA (f : Nat → Nat) (n : Nat) : Array Value := Array.ofFn (n := n) fun j => .int .u8 (f j)
theorem rowA_get (f : Nat → Nat) {n i : Nat} (h : i < n) : (rowA f n)[i]? = some (.int .u8 (f i)) := by simp [rowA, h]
theorem rowA_size (f : Nat → Nat) (n : Nat) : (rowA f n).size = n := by simp [rowA]
theorem rowA_congr {f g : Nat → Nat} {n : Nat} (h : ∀ i, i < n → f i = g i) : rowA f n = rowA g n := by
  apply Array.ext
  · simp [rowA_size]
  · intro i h1 h2
    have hi : i < n := by simpa [rowA_size] using h1
    simp [rowA, h i hi]
theorem rowA_set (f : Nat → Nat) (n i b : Nat) : (rowA f n).setIfInBounds i (.int .u8 b) = rowA (fun j => if j = i then b else f j) n := by
  unfold rowA
  apply Array.ext
  · simp
  · intro j h1 h2
    rw [Array.getElem_setIfInBounds (by simpa using h1), Array.getElem_ofFn, Array.getElem_ofFn]
    by_cases h : i = j
    · subst h; simp
    · simp [h, Ne.symm h]
theorem rowA_zero (n : Nat) : madeCells #[Value.int .u8 0] n = rowA (fun _ => 0) n := by
  apply Array.ext'
  rw [toList_madeCells_one]
  apply List.ext_getElem
  · simp [rowA]
  · intro i h1 h2
    simp [rowA]
theorem rowA_list (f : Nat → Nat) (n : Nat) : (rowA f n).toList = (List.range n).map fun j => Value.int .u8 (f j) := by
  apply List.ext_getElem
  · simp [rowA]
  · intro i h1 h2
    simp [rowA]
attribute [irreducible] rowA

theorem u8_info : (Try.prog.info? 5).map (fun i => (i.zero, i.size, i.bytes)) = some (some (.int .u8 0), 1, 1) := by kernel_rfl

theorem getI_byte (v k : Nat) : getI (v : Int) ((k : Int) * 8) 8 = ((byteN v k : Nat) : Int) := by
  rw [← get_byte, Nat.mul_comm 8 k]
  unfold getI
  rw [Int.toNat_natCast, show ((k : Int) * 8).toNat = k * 8 by omega]; rfl

theorem put_c (v s : Nat) (v1 : v < 18446744073709551616) (hs : IsSize s) (w : World) :
    Calls Try.prog 27 #[.int .u64 (v : Int), .int .i64 (s : Int)] w fun e w' =>
      e = .returned (.slice (some ⟨w.heap.size, 0, none⟩) s s) ∧ w' = w.alloc (.cells (rowA (byteN v) s) 5) := by
  have hle := hs.le
  obtain ⟨i0, hi, hz0, hz1, hz2⟩ := info_parts u8_info
  have hmk : ∀ W : World, (Instr.makeSlice 53 (.int .i64 (s : Int)) (.int .i64 (s : Int))).run Try.prog W = .ok (.slice (some ⟨W.heap.size, 0, none⟩) s s) (W.alloc (.cells (rowA (fun _ => 0) s) 5)) := by
    intro W
    have h := run_make (P := Try.prog) W 53 5 i0 _ Try.underlying53 hi hz0 .i64 .i64 (s : Int) (s : Int) (by omega) (by omega) (by rw [hz2]; omega) (by omega)
    rw [h, hz1, Int.toNat_natCast, Nat.mul_one, ← rowA_zero]; rfl
  have Hz1 := Lib.hid hz1
  have Hz2 := Lib.hid hz2
  have Hi := Lib.hid hi
  have Hz0 := Lib.hid hz0
  clear hi hz0 hz1 hz2
  go_enter Try.func27, Try.ntmps27
  go_wp2_with (go_at_call 36; refine (size_yes hs _).mono ?_; rintro e w' ⟨rfl, rfl⟩)
  go_loopw [13] (fun i wr => ∃ k : Nat, k ≤ s ∧ i = .int .i64 k ∧ wr = w.alloc (.cells (rowA (fun j => if j < k then byteN v j else 0) s) 5)) (fun i _ => (s - intOf i).toNat)
  case atStart => exact ⟨0, by omega, rfl, by simp⟩
  case round =>
    obtain ⟨k, hk, rfl, rfl⟩ := hrel
    by_cases hlt : k < s
    · have hb0 : 0 ≤ getI (v : Int) ((k : Int) * 8) 8 := getI_ge _ _ _
      have hb1 : getI (v : Int) ((k : Int) * 8) 8 < 256 := by rw [getI_byte]; have := byteN_lt v k; omega
      have hin := rowA_get (fun j => if j < k then byteN v j else 0) (n := s) (i := k) hlt
      have hst : Hid ((rowA (fun j => if j < k then byteN v j else 0) s).setIfInBounds k (.int .u8 (getI (v : Int) ((k : Int) * 8) 8)) = rowA (fun j => if j < k + 1 then byteN v j else 0) s) := by
        apply Lib.hid
        rw [getI_byte, rowA_set]
        apply rowA_congr
        intro j hj
        by_cases h1 : j = k
        · subst h1; simp
        · by_cases h2 : j < k
          · simp [h1, h2, show j < k + 1 by omega]
          · simp [h1, h2, show ¬ j < k + 1 by omega]
      go_wp2_with (go_at_call 37; refine (get_c _ _ _ (by omega) (by omega) (by omega) (by omega) (by omega) (by omega) _).mono ?_; rintro e w' ⟨rfl, rfl⟩)
      go_roundw
      case rel => exact ⟨k + 1, by omega, by go_num, by rw [hst.out]⟩
      case measure => simp [intOf]; omega
    · have hk' : k = s := by omega
      subst hk'
      have hrow : Hid (rowA (fun j => if j < k then byteN v j else 0) k = rowA (byteN v) k) := Lib.hid (rowA_congr fun j hj => by simp [hj])
      go_wp2
      go_ret
      exact ⟨rfl, by rw [hrow.out]⟩

/-- the byte number k of a list -/
def bAt (l : List Nat) (k : Nat) : Nat := l.getD k 0
theorem bAt_lt {l : List Nat} (hl : IsBytes l) (k : Nat) : bAt l k < 256 := by
  unfold bAt
  by_cases h : k < l.length
  · exact hl _ (by simp [h])
  · simp [h]
attribute [irreducible] bAt
/-- the slice value with that address and length reads as those bytes -/
def SlB (w : World) (A : Option Addr) (l : List Nat) : Prop :=
  0 < l.length → ∃ b off, A = some ⟨b, off, none⟩ ∧ b < w.heap.size ∧ ∀ i, i < l.length → w.cell? ⟨b, off + i, none⟩ = some (.int .u8 ((bAt l i : Nat) : Int))
theorem SlB.below {w w' : World} {B : Nat} {A : Option Addr} {l : List Nat} (h : SlB w A l) (hb : Below w.heap.size w w') : SlB w' A l := by
  intro hl
  obtain ⟨b, off, rfl, hlt, hc⟩ := h hl
  exact ⟨b, off, rfl, Nat.lt_of_lt_of_le hlt hb.size, fun i hi => (hb.cell (p := ⟨b, off + i, none⟩) hlt).trans (hc i hi)⟩

set_option maxRecDepth 100000 in
theorem bget_c (A : Option Addr) (l : List Nat) (c : Nat) (hl : IsBytes l) (hm : l.length ≤ 9223372036854775807) (w : World) (hs : SlB w A l) :
    Calls Try.prog 28 #[.slice A l.length c] w fun e w' => e = .returned (.int .u64 ((numN (l.take 8) : Nat) : Int)) ∧ w = w' := by
  by_cases h8 : l.length ≤ 8
  all_goals
    go_enter Try.func28, Try.ntmps28
    go_wp2
    go_loop [3, 8] (fun v i => ∃ k : Nat, k ≤ min l.length 8 ∧ i = .int .i64 k ∧ v = .int .u64 ((numN (l.take k) : Nat) : Int)) (fun _ i => 8 - (intOf i).toNat)
    case atStart => exact ⟨0, by omega, rfl, rfl⟩
    case round =>
      obtain ⟨k, hk, rfl, rfl⟩ := hrel
      have hn1 : ((numN (l.take k) : Nat) : Int) < 18446744073709551616 := by
        have := numN_8 (hl.take k)
        rw [List.take_take, show min 8 k = k by omega] at this
        omega
      by_cases hlt : k < min l.length 8
      · obtain ⟨b, off, rfl, hb, hc⟩ := hs (by omega)
        have hck := hc k (by omega)
        have hx : bAt l k < 256 := bAt_lt hl k
        have hst : Hid (setI ((numN (l.take k) : Nat) : Int) ((k : Int) * 8) 8 ((bAt l k : Nat) : Int) = ((numN (l.take (k + 1)) : Nat) : Int)) := by
          apply Lib.hid
          rw [← set_byte hl (show k < l.length by omega) (by omega)]
          unfold setI bAt
          rw [Int.toNat_natCast, Int.toNat_natCast, show ((k : Int) * 8).toNat = 8 * k by omega]; rfl
        clear hc hs
        have hk1 : k < l.length := by omega
        have hk8 : k < 8 := by omega
        have hkk : Hid (k < min l.length 8) := Lib.hid hlt
        clear hlt h8 hk
        try clear h
        have hd : decide ((k : Int) < 8) = true := by simp; omega
        go_wp2_with (go_at_call 38; refine (set_c _ _ _ _ (by omega) (by omega) (by omega) (by omega) (by omega) (by omega) (by omega) (by omega) _).mono ?_; rintro e w' ⟨rfl, rfl⟩)
        go_round
        case rel => exact ⟨k + 1, by have := hkk.out; omega, by go_num, by rw [hst.out]⟩
        case measure => simp [intOf]; omega
      · have hk' : l.take k = l.take 8 := by
          by_cases h : l.length ≤ 8
          · rw [List.take_of_length_le (by omega), List.take_of_length_le (by omega)]
          · rw [show k = 8 by omega]
        have Hk := Lib.hid hk'
        have hge : min l.length 8 = k := by omega
        clear hk' hn1 hlt hk
        by_cases e : l.length = k
        · subst e
          clear hge hs
          go_wp2
          all_goals go_ret
          all_goals first | exact ⟨rfl, rfl⟩ | exact ⟨congrArg (fun n : Nat => Ending.returned (.int .u64 (n : Int))) (congrArg numN ((List.take_length (l := l)).symm.trans Hk.out)), rfl⟩
        · obtain rfl : 8 = k := by omega
          clear hs
          go_wp2
          all_goals go_ret
          all_goals first | exact ⟨rfl, rfl⟩ | exact ⟨congrArg (fun n : Nat => Ending.returned (.int .u64 (n : Int))) (congrArg numN ((List.take_length (l := l)).symm.trans Hk.out)), rfl⟩
end Go.Proofs.Ytcodgmahegofjaa
