/- Layer 3: what the laws call, where a memory is right. -/
import Derived.Test.YtcodgmahegofjaaLaw03a
namespace Go.Proofs.Ytcodgmahegofjaa
open Go.ChangeShapes Go.WideShapes Go.ChangeAt Go.RowKit
set_option linter.unusedVariables false
set_option linter.unusedSimpArgs false

theorem pick_s (n : Int) (n0 : 0 ≤ n) (n1 : n < 256) : ∃ s : Nat, IsSize s ∧ s = pickN n ∧ ∀ w : World,
    Calls Try.prog 24 #[.int .u8 n] w fun e w' => e = .returned (.int .i64 (s : Int)) ∧ Ext w w' :=
  ⟨pickN n, pickN_is n, rfl, fun w => pick_c n n0 n1 w⟩
def lowM (v s : Nat) : Nat := v % 256 ^ s
theorem lowM_byte (v s k : Nat) : byteN (lowM v s) k = if k < s then byteN v k else 0 := by
  unfold lowM
  rw [← numN_bytes]
  by_cases h : k < s
  · rw [if_pos h, byteN_num (bytesN_is v s) (by rw [bytesN_len]; exact h), bytesN_at _ _ _ h]
  · rw [if_neg h, byteN_num_out (bytesN_is v s) (by rw [bytesN_len]; omega)]
theorem lowM_lt {v s : Nat} (hs : s ≤ 8) : lowM v s < 18446744073709551616 := Nat.lt_of_lt_of_le (Nat.mod_lt _ (Nat.pow_pos (by decide))) (Nat.pow_le_pow_right (n := 256) (by decide) hs)
theorem load_stored {L : List (Nat × Nat)} {i s : Nat} (hs : IsSize s) (hi : i % s = 0) (v : Nat) : loadL (storeL L i s v) i s = lowM v s := by
  refine byte_ext (loadL_64 _ _ hs.le.2) (lowM_lt hs.le.2) fun k _ => ?_
  rw [loadL_byte, lowM_byte]
  by_cases h : k < s
  · rw [if_pos h, if_pos h, storeL_byte hs hi, if_pos (by omega), show i + k - i = k by omega]
  · rw [if_neg h, if_neg h]
theorem load_apart {L : List (Nat × Nat)} {i s k o : Nat} (hs : IsSize s) (hi : i % s = 0) (ho : o ≤ 8) (h : ¬ (k < i + s ∧ i < k + o)) (v : Nat) : loadL (storeL L i s v) k o = loadL L k o := by
  refine byte_ext (loadL_64 _ _ ho) (loadL_64 _ _ ho) fun j _ => ?_
  rw [loadL_byte, loadL_byte]
  by_cases h1 : j < o
  · rw [if_pos h1, if_pos h1, storeL_byte hs hi, if_neg (by omega)]
  · rw [if_neg h1, if_neg h1]
theorem store_back {n : Nat} {L : List (Nat × Nat)} (hL : RL n L) {i s : Nat} (hi1 : i / 8 < n) (hs : IsSize s) (hi : i % s = 0) (v : Nat) : storeL (storeL L i s v) i s (loadL L i s) = L := by
  refine RL.ext_byte (storeL_is (storeL_is hL hi1 s v) hi1 s _) hL fun b => ?_
  rw [storeL_byte hs hi, storeL_byte hs hi]
  by_cases h : i ≤ b ∧ b < i + s
  · rw [if_pos h, loadL_byte, if_pos (by omega), show i + (b - i) = b by omega]
  · rw [if_neg h, if_neg h]
theorem store_turn {n : Nat} {L : List (Nat × Nat)} (hL : RL n L) {i s k o : Nat} (hi1 : i / 8 < n) (hk1 : k / 8 < n) (hs : IsSize s) (ho : IsSize o) (hi : i % s = 0) (hk : k % o = 0) (h : ¬ (k < i + s ∧ i < k + o)) (v w : Nat) :
    storeL (storeL L i s v) k o w = storeL (storeL L k o w) i s v := by
  refine RL.ext_byte (storeL_is (storeL_is hL hi1 s v) hk1 o w) (storeL_is (storeL_is hL hk1 o w) hi1 s v) fun b => ?_
  rw [storeL_byte ho hk, storeL_byte hs hi, storeL_byte hs hi, storeL_byte ho hk]
  by_cases h1 : k ≤ b ∧ b < k + o
  · rw [if_pos h1, if_neg (by omega), if_pos h1]
  · rw [if_neg h1, if_neg h1]
attribute [irreducible] lowM

theorem low_x (v s : Nat) (v1 : v < 18446744073709551616) (hs : IsSize s) (w : World) :
    Calls Try.prog 25 #[.int .u64 (v : Int), .int .i64 (s : Int)] w fun e w' => e = .returned (.int .u64 ((lowM v s : Nat) : Int)) ∧ Ext w w' := by
  have := rlow_c v s v1 hs.le.2 w
  unfold lowM; exact this

/-- a right memory of few cells, as a value -/
structure Mem (w : World) (S : Nat) (A : Option Addr) (L : List (Nat × Nat)) (c : Nat) : Prop where
  row : RowL w A L c
  rl : RL (S / 8) L
  ok : SizeOk S
  few : L.length ≤ 1000
theorem Mem.ext {w w' : World} {S : Nat} {A : Option Addr} {L : List (Nat × Nat)} {c : Nat} (h : Mem w S A L c) (hE : Ext w w') : Mem w' S A L c := ⟨h.row.ext hE, h.rl, h.ok, h.few⟩
theorem SizeOk.mod8 {S : Nat} (h : SizeOk S) : S % 8 = 0 := by have := h.1; omega
theorem SizeOk.le {S : Nat} (h : SizeOk S) : S ≤ 1099511627776 := h.2

theorem load_x {w : World} {S : Nat} {A : Option Addr} {L : List (Nat × Nat)} {c : Nat} (h : Mem w S A L c) {i s : Nat} (hs : IsSize s) (hi : i % s = 0) (hS : i < S) :
    Calls Try.prog 15 #[.agg #[.int .u64 (S : Int), .slice A L.length c], .int .u64 (i : Int), .int .i64 (s : Int)] w fun e w' => e = .returned (.tuple #[.int .u64 ((loadL L i s : Nat) : Int), .int .i64 0]) ∧ Ext w w' := by
  have hk := load_c S A L c i (S / 8) s (by have := h.ok.le; omega) h.rl (by have := h.few; omega) w h.row.1
  rwa [ldN_ok (errN_0 hs hi hS), errN_0 hs hi hS] at hk
theorem store_x {w : World} {S : Nat} {A : Option Addr} {L : List (Nat × Nat)} {c : Nat} (h : Mem w S A L c) {i s v : Nat} (v1 : v < 18446744073709551616) (hs : IsSize s) (hi : i % s = 0) (hS : i < S) (hf : L.length ≤ 999) :
    Calls Try.prog 17 #[.agg #[.int .u64 (S : Int), .slice A L.length c], .int .u64 (i : Int), .int .i64 (s : Int), .int .u64 (v : Int)] w fun e w' =>
      ∃ A' c', e = .returned (.tuple #[.agg #[.int .u64 (S : Int), .slice A' (storeL L i s v).length c'], .int .i64 0]) ∧ Mem w' S A' (storeL L i s v) c' ∧ Ext w w' := by
  refine (store_c S A L c i s v (S / 8) h.rl (by have := h.ok.le; omega) v1 hs hi hS (by omega) w h.row).mono ?_
  rintro e w' ⟨u, rfl, hown, hE⟩
  obtain ⟨A', c', rfl, hr⟩ := own_row hown
  exact ⟨A', c', rfl, ⟨hr, storeL_is h.rl (by have := h.ok.mod8; omega) s v, h.ok, by have := storeL_len L i s v; omega⟩, hE⟩
theorem right_x {w : World} {S : Nat} {A : Option Addr} {L : List (Nat × Nat)} {c : Nat} (h : Mem w S A L c) :
    Calls Try.prog 14 #[.agg #[.int .u64 (S : Int), .slice A L.length c]] w fun e w' => e = .returned (.bool true) ∧ Ext w w' := by
  have hk := right_c S A L c (by have := h.ok.le; omega) (h.rl.isCells (by have := h.ok.le; omega)) (by have := h.few; omega) w h.row.1
  rwa [decide_eq_true (h.rl.rightM h.ok)] at hk
theorem word_x {w : World} {S : Nat} {A : Option Addr} {L : List (Nat × Nat)} {c : Nat} (h : Mem w S A L c) {a : Nat} (a1 : a < 18446744073709551616) :
    Calls Try.prog 19 #[.agg #[.int .u64 (S : Int), .slice A L.length c], .int .u64 (a : Int)] w fun e w' => e = .returned (.int .u64 ((wordL L (a / 8) : Nat) : Int)) ∧ Ext w w' :=
  word_c S A L c a (S / 8) a1 h.rl (by have := h.few; omega) w h.row.1
theorem same_x {w : World} {S : Nat} {A B : Option Addr} {L K : List (Nat × Nat)} {c d : Nat} (h : Mem w S A L c) (k : Mem w S B K d) (e : L = K) :
    Calls Try.prog 13 #[.agg #[.int .u64 (S : Int), .slice A L.length c], .agg #[.int .u64 (S : Int), .slice B K.length d]] w fun e w' => e = .returned (.bool true) ∧ Ext w w' := by
  have hk := same_c S S A B L K c d (by have := h.few; omega) w h.row.1 k.row.1
  rwa [sameB_yes e] at hk

theorem clear_x {w : World} {S : Nat} {A : Option Addr} {L : List (Nat × Nat)} {c : Nat} (h : Mem w S A L c) {p d : Nat} (hp : 8 * p + 8 * d < 1152921504606846976) :
    Calls Try.prog 22 #[.agg #[.int .u64 (S : Int), .slice A L.length c], .int .u64 ((8 * p : Nat) : Int), .int .u64 ((8 * d : Nat) : Int)] w fun e w' =>
      ∃ A' c', e = .returned (.agg #[.int .u64 (S : Int), .slice A' (clearL L p (p + d)).length c']) ∧ Mem w' S A' (clearL L p (p + d)) c' ∧ Ext w w' := by
  have hk := clear_c S A L c (8 * p) (8 * d) (S / 8) h.rl (by omega) (by omega) (by omega) (by have := h.few; omega) w h.row
  rw [show 8 * p / 8 = p by omega, show 8 * d / 8 = d by omega] at hk
  refine hk.mono ?_
  rintro e w' ⟨u, rfl, hown, hE⟩
  obtain ⟨A', c', rfl, hr⟩ := own_row hown
  have hl : (clearL L p (p + d)).length ≤ L.length := cutL_len (by omega) []
  exact ⟨A', c', rfl, ⟨hr, clearL_is h.rl (by omega), h.ok, by have := h.few; omega⟩, hE⟩
theorem rclear_x {w : World} {S : Nat} {A : Option Addr} {L : List (Nat × Nat)} {c : Nat} (h : Mem w S A L c) {p d : Nat} (hp : 8 * p + 8 * d < 1152921504606846976) :
    Calls Try.prog 23 #[.agg #[.int .u64 (S : Int), .slice A L.length c], .int .u64 ((8 * p : Nat) : Int), .int .u64 ((8 * d : Nat) : Int)] w fun e w' =>
      ∃ A' c', e = .returned (.agg #[.int .u64 (S : Int), .slice A' (clearL L p (p + d)).length c']) ∧ Mem w' S A' (clearL L p (p + d)) c' ∧ Ext w w' := by
  have hk := rclear_c S A L c p d (S / 8) hp (by have := h.ok.le; omega) h.rl (by have := h.few; omega) w h.row
  refine hk.mono ?_
  rintro e w' ⟨u, rfl, hown, hE⟩
  obtain ⟨A', c', rfl, hr⟩ := own_row hown
  have hl : (clearL L p (p + d)).length ≤ L.length := cutL_len (by omega) []
  exact ⟨A', c', rfl, ⟨hr, clearL_is h.rl (by omega), h.ok, by have := h.few; omega⟩, hE⟩

/-- fits -/
def fitB (S : Nat) (L : List (Nat × Nat)) : Bool := decide (L.length ≤ 300) && decide (RightM S L)
theorem fits_c (S : Nat) (A : Option Addr) (L : List (Nat × Nat)) (c : Nat) (hS : S < 18446744073709551616) (hL : IsCells L) (w : World) (hs : ClB w A L) :
    Calls Try.prog 21 #[.agg #[.int .u64 (S : Int), .slice A L.length c]] w fun e w' => e = .returned (.bool (fitB S L)) ∧ Ext w w' := by
  have hE0 := (Ext.refl w).alloc (.cells #[.int .u64 (S : Int), .slice A L.length c] 25)
  by_cases h : L.length ≤ 300
  · have hd : decide (L.length ≤ 300) = true := by simpa using h
    have H : Hid (fitB S L = decide (RightM S L)) := Lib.hid (by unfold fitB; rw [hd]; rfl)
    go_enter Try.func21, Try.ntmps21
    go_wp2_with fail
    refine (few_c S A L c _).mono ?_
    rintro e w1 ⟨rfl, hE1⟩
    rw [hd]
    obtain ⟨hb0, hb1⟩ := box_mem hE1
    go_wp2_with fail
    refine (rright_c S A L c hS hL (by omega) _ (hs.ext (hE0.trans hE1))).mono ?_
    rintro e w2 ⟨rfl, hE2⟩
    go_wp2
    go_ret
    exact ⟨by rw [H.out]; rfl, hE0.trans (hE1.trans hE2)⟩
  · have hd : decide (L.length ≤ 300) = false := by simpa using h
    have H : Hid (fitB S L = false) := Lib.hid (by unfold fitB; rw [hd]; rfl)
    go_enter Try.func21, Try.ntmps21
    go_wp2_with fail
    refine (few_c S A L c _).mono ?_
    rintro e w1 ⟨rfl, hE1⟩
    rw [hd]
    go_wp2
    go_ret
    exact ⟨by rw [H.out]; rfl, hE0.trans hE1⟩
theorem fit_mem {w : World} {S : Nat} {A : Option Addr} {L : List (Nat × Nat)} {c : Nat} (h : fitB S L = true) (hL : IsCells L) (hr : RowL w A L c) : Mem w S A L c ∧ L.length ≤ 300 := by
  unfold fitB at h
  simp only [Bool.and_eq_true, decide_eq_true_eq] at h
  have h2 : SizeOk S := by have := h.2; unfold RightM at this; exact this.1
  exact ⟨⟨hr, h.2.rl hL, h2, by omega⟩, h.1⟩
attribute [irreducible] fitB
end Go.Proofs.Ytcodgmahegofjaa
