/- The document's answers for layer 2 (package atlasref02): a size picked, sizes, bytes put, read, low. -/
import Derived.Test.YtcodgmahegofjaaCtwo
import Derived.Maps.AppendAt
import Derived.OwnWalk
namespace Go.Proofs.Ytcodgmahegofjaa
open Go.ChangeShapes Go.WideShapes Go.ChangeAt Go.RowKit
set_option linter.unusedVariables false

theorem rsize2_c (n : Int) (w : World) :
    Calls Try.prog 39 #[.int .i64 n] w fun e w' => e = .returned (.bool (sizeB n)) ∧ w = w' := by
  by_cases h1 : n = 1
  · subst h1; go_enter Try.func39, Try.ntmps39
    go_wp2
    go_ret
    exact ⟨rfl, rfl⟩
  by_cases h2 : n = 2
  · subst h2; go_enter Try.func39, Try.ntmps39
    go_wp2
    go_ret
    exact ⟨rfl, rfl⟩
  by_cases h4 : n = 4
  · subst h4; go_enter Try.func39, Try.ntmps39
    go_wp2
    go_ret
    exact ⟨rfl, rfl⟩
  by_cases h8 : n = 8
  · subst h8; go_enter Try.func39, Try.ntmps39
    go_wp2
    go_ret
    exact ⟨rfl, rfl⟩
  have b1 : (n == 1) = false := by simpa using h1
  have b2 : (n == 2) = false := by simpa using h2
  have b4 : (n == 4) = false := by simpa using h4
  have b8 : (n == 8) = false := by simpa using h8
  have H : Hid (sizeB n = false) := Lib.hid (by simp [sizeB, h1, h2, h4, h8])
  clear h1 h2 h4 h8
  go_enter Try.func39, Try.ntmps39
  go_wp2
  go_ret
  exact ⟨congrArg (fun b => Ending.returned (.bool b)) H.out.symm, rfl⟩

def pickN (n : Int) : Nat := if n % 4 = 0 then 1 else if n % 4 = 1 then 2 else if n % 4 = 2 then 4 else 8
theorem pickN_is (n : Int) : IsSize (pickN n) := by
  unfold pickN IsSize
  split
  · simp
  · split
    · simp
    · split <;> simp
theorem pickN_0 {n : Int} (h : n % 4 = 0) : pickN n = 1 := by unfold pickN; rw [if_pos h]
theorem pickN_1 {n : Int} (h : n % 4 = 1) : pickN n = 2 := by unfold pickN; rw [if_neg (by omega), if_pos h]
theorem pickN_2 {n : Int} (h : n % 4 = 2) : pickN n = 4 := by unfold pickN; rw [if_neg (by omega), if_neg (by omega), if_pos h]
theorem pickN_3 {n : Int} (h : n % 4 = 3) : pickN n = 8 := by unfold pickN; rw [if_neg (by omega), if_neg (by omega), if_neg (by omega)]
attribute [irreducible] pickN

theorem pick_c (n : Int) (n0 : 0 ≤ n) (n1 : n < 256) (w : World) :
    Calls Try.prog 24 #[.int .u8 n] w fun e w' => e = .returned (.int .i64 ((pickN n : Nat) : Int)) ∧ Below w.heap.size w w' := by
  rcases (show n % 4 = 0 ∨ n % 4 = 1 ∨ n % 4 = 2 ∨ n % 4 = 3 by omega) with h | h | h | h
  · have H := Lib.hid (pickN_0 h)
    go_enter Try.func24, Try.ntmps24
    go_wp2
    go_ret
    exact ⟨by rw [H.out]; rfl, (Below.refl _ _).alloc (Nat.le_refl _) _⟩
  · have H := Lib.hid (pickN_1 h)
    go_enter Try.func24, Try.ntmps24
    go_wp2
    go_ret
    exact ⟨by rw [H.out]; rfl, (Below.refl _ _).alloc (Nat.le_refl _) _⟩
  · have H := Lib.hid (pickN_2 h)
    go_enter Try.func24, Try.ntmps24
    go_wp2
    go_ret
    exact ⟨by rw [H.out]; rfl, (Below.refl _ _).alloc (Nat.le_refl _) _⟩
  · have H := Lib.hid (pickN_3 h)
    go_enter Try.func24, Try.ntmps24
    go_wp2
    go_ret
    exact ⟨by rw [H.out]; rfl, (Below.refl _ _).alloc (Nat.le_refl _) _⟩

/-- the cells of those bytes -/
def byteVs (l : List Nat) : List Value := l.map fun (b : Nat) => Value.int .u8 (b : Int)
theorem byteVs_len (l : List Nat) : (byteVs l).length = l.length := by simp [byteVs]
theorem byteVs_get (l : List Nat) {i : Nat} (h : i < l.length) : (byteVs l)[i]? = some (.int .u8 ((bAt l i : Nat) : Int)) := by
  simp [byteVs, bAt, h]
theorem byteVs_one (l : List Nat) : ∀ u ∈ byteVs l, u.oneCell' = true := by
  intro u hu
  simp only [byteVs, List.mem_map] at hu
  obtain ⟨b, _, rfl⟩ := hu
  rfl

/-- what a call that makes bytes leaves: a slice of its own that holds them, and nothing that was there turned -/
def MadeB (l : List Nat) (w : World) (e : Ending) (w' : World) : Prop :=
  ∃ v, e = .returned v ∧ w'.ownsRow w.heap.size 5 1 v l.length (byteVs l) ∧ Below w.heap.size w w'

/-- v without its k lowest bytes -/
def shB (v k : Nat) : Nat := v / 256 ^ k
theorem shB_le (v k : Nat) : shB v k ≤ v := Nat.div_le_self _ _
theorem shB_0 (v : Nat) : shB v 0 = v := by simp [shB]
theorem shB_s (v k : Nat) : shB v k / 256 = shB v (k + 1) := by unfold shB; rw [Nat.div_div_eq_div_mul, Nat.pow_succ]
theorem shB_m (v k : Nat) : shB v k % 256 = byteN v k := rfl
attribute [irreducible] shB

theorem byteVs_snoc (v k : Nat) : byteVs (bytesN v k) ++ [Value.int .u8 ((shB v k : Int) % 256)] = byteVs (bytesN v (k + 1)) := by
  rw [bytesN_snoc, ← shB_m]; simp [byteVs]

theorem rput_c (v s : Nat) (v1 : v < 18446744073709551616) (hs : s ≤ 8) (w : World) :
    Calls Try.prog 33 #[.int .u64 (v : Int), .int .i64 (s : Int)] w (MadeB (bytesN v s) w) := by
  obtain ⟨i0, hi, hz0, hz1, hz2⟩ := info_parts u8_info
  go_enter Try.func33, Try.ntmps33
  go_wp2
  go_loopw [0, 5, 6] (fun x out i wr => ∃ k : Nat, k ≤ s ∧ i = .int .i64 k ∧ x = .int .u64 ((shB v k : Nat) : Int) ∧ wr.ownsRow w.heap.size 5 1 out k (byteVs (bytesN v k)) ∧ Below w.heap.size w wr) (fun _ _ i _ => (s - intOf i).toNat)
  case atStart => exact ⟨0, by omega, rfl, by rw [shB_0], World.ownsRow_nil _ _ _ _, Below.refl _ _⟩
  case round =>
    obtain ⟨k, hk, rfl, rfl, hown, hbel⟩ := hrel
    by_cases hlt : k < s
    · have hd1 : ((shB v k : Nat) : Int) < 18446744073709551616 := by have := shB_le v k; omega
      have hd0 : 0 ≤ ((shB v k : Nat) : Int) := by omega
      have hbs := hbel.size
      go_wp2_with (at_builtin; refine wpList_append_own_at _ rfl (.tmp 12) (.tmp 16) 53 rfl w.heap.size 5 i0 (.int .u8 0) 1 1 Try.underlying53 hi hz0 hz1 hz2 rfl (by decide) _ _ _ rfl (hown.alloc _) ⟨wr.heap.size, 0, none⟩ 1 1 [.int .u8 ((shB v k : Int) % 256)] rfl rfl (by intro j u hj; match j, hj with | 0, hj => simp at hj; subst hj; simp [Addr.add]) (by intro u hu; simp at hu; subst hu; rfl) (by unfold maxLen; omega) (by omega) (by simp; omega) ?_; intro v' w1 hown' hgrow _ hat)
      have hl' : ∀ k, v'.ownBlock = some k → w.heap.size ≤ k := fun k h => (hown'.lt k h).1
      have hbel' := (hbel.alloc hbs (.cells #[.int .u8 ((shB v k : Int) % 256)] 5)).grown hgrow (by simp; omega) (fun k h => (hown.lt k h).1)
      rw [byteVs_snoc] at hown'
      have Ho := Lib.hid hown'
      clear hown' hgrow hown hat hl'
      go_roundw
      case rel => exact ⟨k + 1, by omega, by go_num, by rw [← shB_s]; rfl, Ho.out, hbel'⟩
      case measure => simp [intOf]; omega
    · have hk' : k = s := by omega
      subst hk'
      have Ho := Lib.hid hown
      clear hown
      go_wp2
      go_ret
      exact ⟨_, rfl, by rw [bytesN_len]; exact Ho.out, hbel⟩

theorem own_slb {w : World} {base : Nat} {v : Value} {l : List Nat} (h : w.ownsRow base 5 1 v l.length (byteVs l)) : ∃ A c, v = .slice A l.length c ∧ SlB w A l := by
  rcases h.2 with ⟨rfl, h0⟩ | ⟨g, cap, cur, rfl, hbg, hh, _, _, _, ht⟩
  · have : l = [] := List.eq_nil_of_length_eq_zero h0
    subst this
    exact ⟨none, 0, rfl, fun h => absurd h (by simp)⟩
  · refine ⟨_, cap, rfl, fun hl => ⟨g, 0, rfl, (h.lt g rfl).2, fun i hi => ?_⟩⟩
    rw [h.cellAt (0 + i) (by omega), Nat.zero_add, byteVs_get l hi]

/-- the same, said as a slice that reads as those bytes -/
def MadeS (l : List Nat) (w : World) (e : Ending) (w' : World) : Prop :=
  ∃ A c, e = .returned (.slice A l.length c) ∧ SlB w' A l ∧ Below w.heap.size w w'
theorem MadeB.s {l : List Nat} {w : World} {e : Ending} {w' : World} (h : MadeB l w e w') : MadeS l w e w' := by
  obtain ⟨v, rfl, ho, hb⟩ := h
  obtain ⟨A, c, rfl, hs⟩ := own_slb ho
  exact ⟨A, c, rfl, hs, hb⟩
theorem rputs_c (v s : Nat) (v1 : v < 18446744073709551616) (hs : s ≤ 8) (w : World) :
    Calls Try.prog 33 #[.int .u64 (v : Int), .int .i64 (s : Int)] w (MadeS (bytesN v s) w) :=
  (rput_c v s v1 hs w).mono fun _ _ h => h.s

/-- the number of the bytes from the place k on, of at most 8 -/
def numD (l : List Nat) (k : Nat) : Nat := numN ((l.take 8).drop k)
theorem numD_end (l : List Nat) {m : Nat} (h : min l.length 8 ≤ m) : numD l m = 0 := by
  unfold numD; rw [List.drop_eq_nil_of_le (by simp; omega)]; rfl
theorem numD_step (l : List Nat) {k : Nat} (h : k < l.length) (h8 : k < 8) : 256 * numD l (k + 1) + bAt l k = numD l k := by
  unfold numD bAt
  rw [List.drop_eq_getElem_cons (l := l.take 8) (i := k) (by simp; omega), numN]
  simp [h]; omega
theorem numD_0 (l : List Nat) : numD l 0 = numN (l.take 8) := rfl
theorem numD_lt {l : List Nat} (h : IsBytes l) (k : Nat) : numD l k < 256 ^ (8 - k) := by
  have h1 : IsBytes ((l.take 8).drop k) := fun x hx => h x (List.mem_of_mem_take (List.mem_of_mem_drop hx))
  have h2 := numN_lt _ h1
  have h3 : ((l.take 8).drop k).length ≤ 8 - k := by simp; omega
  exact Nat.lt_of_lt_of_le h2 (Nat.pow_le_pow_right (by decide) h3)
theorem numD_64 {l : List Nat} (h : IsBytes l) (k : Nat) : numD l k < 18446744073709551616 :=
  Nat.lt_of_lt_of_le (numD_lt h k) (Nat.le_trans (Nat.pow_le_pow_right (by decide) (show 8 - k ≤ 8 by omega)) (by decide))
theorem numD_56 {l : List Nat} (h : IsBytes l) (k : Nat) : numD l (k + 1) < 72057594037927936 :=
  Nat.lt_of_lt_of_le (numD_lt h (k + 1)) (Nat.le_trans (Nat.pow_le_pow_right (by decide) (show 8 - (k + 1) ≤ 7 by omega)) (by decide))
attribute [irreducible] numD

set_option maxRecDepth 100000 in
theorem rget2_c (A : Option Addr) (l : List Nat) (c : Nat) (hl : IsBytes l) (hm : l.length ≤ 9223372036854775807) (w : World) (hs : SlB w A l) :
    Calls Try.prog 31 #[.slice A l.length c] w fun e w' => e = .returned (.int .u64 ((numN (l.take 8) : Nat) : Int)) ∧ w = w' := by
  by_cases h8 : l.length ≤ 8
  all_goals
    go_enter Try.func31, Try.ntmps31
    go_wp2
    go_loop [3, 4] (fun v i => ∃ k : Nat, k ≤ min l.length 8 ∧ i = .int .i64 ((k : Int) - 1) ∧ v = .int .u64 ((numD l k : Nat) : Int)) (fun _ i => (intOf i + 1).toNat)
    case atStart => exact ⟨min l.length 8, by omega, by go_num, by rw [numD_end l (Nat.le_refl _)]; rfl⟩
    case round =>
      obtain ⟨k, hk, rfl, rfl⟩ := hrel
      rcases k with _ | k
      · have H := Lib.hid (numD_0 l)
        clear hk h8 hs
        go_wp2
        go_ret
        exact ⟨congrArg (fun n : Nat => Ending.returned (.int .u64 (n : Int))) H.out, rfl⟩
      · obtain ⟨b, off, rfl, hb, hc⟩ := hs (by omega)
        have hck := hc k (by omega)
        have hx : bAt l k < 256 := bAt_lt hl k
        have hn := numD_56 hl k
        have hst := Lib.hid (numD_step l (k := k) (by omega) (by omega))
        have hk1 : k < l.length := by omega
        have hkk := Lib.hid hk
        have hk9 : k ≤ 7 := by omega
        rw [show ((k + 1 : Nat) : Int) - 1 = k by omega]
        clear hc hs hk h8
        try clear h
        go_wp2
        go_round
        case rel => exact ⟨k, by have := hkk.out; omega, by go_num, by rw [← hst.out]; go_num⟩
        case measure => simp [intOf]

theorem numN_low (v : Nat) {s : Nat} (h : s ≤ 8) : numN ((bytesN v s).take 8) = v % 256 ^ s := by
  rw [List.take_of_length_le (by rw [bytesN_len]; exact h), numN_bytes]

theorem rlow_c (v s : Nat) (v1 : v < 18446744073709551616) (hs : s ≤ 8) (w : World) :
    Calls Try.prog 25 #[.int .u64 (v : Int), .int .i64 (s : Int)] w fun e w' => e = .returned (.int .u64 ((v % 256 ^ s : Nat) : Int)) ∧ Below w.heap.size w w' := by
  have H := Lib.hid (numN_low v hs)
  go_enter Try.func25, Try.ntmps25
  go_wp2_with first | (go_at_call 33; refine (rputs_c v s v1 hs _).mono ?_; rintro e w1 ⟨A, c, rfl, hs1, hb1⟩) | (go_at_call 31; refine (rget2_c _ _ _ (bytesN_is v s) (by rw [bytesN_len]; omega) _ hs1).mono ?_; rintro e w2 ⟨rfl, rfl⟩)
  go_ret
  exact ⟨congrArg (fun n : Nat => Ending.returned (.int .u64 (n : Int))) H.out, hb1⟩
end Go.Proofs.Ytcodgmahegofjaa
