/- A right memory, as a value: what the calls of mem and of the document's answers make of it. -/
import Derived.Test.YtcllbidhjggjiaaDoorGmem
import Derived.Test.YtcllbidhjggjiaaDoorGrme
namespace Go.Proofs.YtcllbidhjggjiaaDoor
open Go.ChangeShapes Go.WideShapes Go.ChangeAt Go.RowKit
set_option linter.unusedVariables false
set_option linter.unusedSimpArgs false
set_option maxRecDepth 10000

def lowM (v s : Nat) : Nat := v % 256 ^ s
theorem lowM_byte (v s k : Nat) : byteN (lowM v s) k = if k < s then byteN v k else 0 := by
  unfold lowM
  rw [← numN_bytes]
  by_cases h : k < s
  · rw [if_pos h, byteN_num (bytesN_is v s) (by rw [bytesN_len]; exact h), bytesN_at _ _ _ h]
  · rw [if_neg h, byteN_num_out (bytesN_is v s) (by rw [bytesN_len]; omega)]
theorem lowM_lt {v s : Nat} (hs : s ≤ 8) : lowM v s < 18446744073709551616 := Nat.lt_of_lt_of_le (Nat.mod_lt _ (Nat.pow_pos (by decide))) (Nat.pow_le_pow_right (n := 256) (by decide) hs)
theorem load_stored {L : List (Nat × Nat)} {i s : Nat} (hs : IsSize s) (hi : i % s = 0) (v : Nat) : loadL (storeL L i s v) i s = lowM v s := by
  refine byte_ext (loadL_64 _ _ hs.le.2) (lowM_lt hs.le.2) fun k _ => ?_
  rw [loadL_byte, lowM_byte]
  by_cases h : k < s
  · rw [if_pos h, if_pos h, storeL_byte hs hi, if_pos (by omega), show i + k - i = k by omega]
  · rw [if_neg h, if_neg h]
theorem load_apart {L : List (Nat × Nat)} {i s k o : Nat} (hs : IsSize s) (hi : i % s = 0) (ho : o ≤ 8) (h : ¬ (k < i + s ∧ i < k + o)) (v : Nat) : loadL (storeL L i s v) k o = loadL L k o := by
  refine byte_ext (loadL_64 _ _ ho) (loadL_64 _ _ ho) fun j _ => ?_
  rw [loadL_byte, loadL_byte]
  by_cases h1 : j < o
  · rw [if_pos h1, if_pos h1, storeL_byte hs hi, if_neg (by omega)]
  · rw [if_neg h1, if_neg h1]
theorem store_back {n : Nat} {L : List (Nat × Nat)} (hL : RL n L) {i s : Nat} (hi1 : i / 8 < n) (hs : IsSize s) (hi : i % s = 0) (v : Nat) : storeL (storeL L i s v) i s (loadL L i s) = L := by
  refine RL.ext_byte (storeL_is (storeL_is hL hi1 s v) hi1 s _) hL fun b => ?_
  rw [storeL_byte hs hi, storeL_byte hs hi]
  by_cases h : i ≤ b ∧ b < i + s
  · rw [if_pos h, loadL_byte, if_pos (by omega), show i + (b - i) = b by omega]
  · rw [if_neg h, if_neg h]
theorem store_turn {n : Nat} {L : List (Nat × Nat)} (hL : RL n L) {i s k o : Nat} (hi1 : i / 8 < n) (hk1 : k / 8 < n) (hs : IsSize s) (ho : IsSize o) (hi : i % s = 0) (hk : k % o = 0) (h : ¬ (k < i + s ∧ i < k + o)) (v w : Nat) :
    storeL (storeL L i s v) k o w = storeL (storeL L k o w) i s v := by
  refine RL.ext_byte (storeL_is (storeL_is hL hi1 s v) hk1 o w) (storeL_is (storeL_is hL hk1 o w) hi1 s v) fun b => ?_
  rw [storeL_byte ho hk, storeL_byte hs hi, storeL_byte hs hi, storeL_byte ho hk]
  by_cases h1 : k ≤ b ∧ b < k + o
  · rw [if_pos h1, if_neg (by omega), if_pos h1]
  · rw [if_neg h1, if_neg h1]
attribute [irreducible] lowM

/-- a right memory of few cells, as a value -/
structure Mem (w : World) (S : Nat) (A : Option Addr) (L : List (Nat × Nat)) (c : Nat) : Prop where
  row : RowL w A L c
  rl : RL (S / 8) L
  ok : SizeOk S
  few : L.length ≤ 1000
theorem Mem.ext {w w' : World} {S : Nat} {A : Option Addr} {L : List (Nat × Nat)} {c : Nat} (h : Mem w S A L c) (hE : Ext w w') : Mem w' S A L c := ⟨h.row.ext hE, h.rl, h.ok, h.few⟩
theorem SizeOk.mod8 {S : Nat} (h : SizeOk S) : S % 8 = 0 := by have := h.1; omega
theorem SizeOk.le {S : Nat} (h : SizeOk S) : S ≤ 1099511627776 := h.2

theorem store_x {w : World} {S : Nat} {A : Option Addr} {L : List (Nat × Nat)} {c : Nat} (h : Mem w S A L c) {i s v : Nat} (v1 : v < 18446744073709551616) (hs : IsSize s) (hi : i % s = 0) (hS : i < S) (hf : L.length ≤ 999) :
    Calls Tryd.prog 61 #[.agg #[.int .u64 (S : Int), .slice A L.length c], .int .u64 (i : Int), .int .i64 (s : Int), .int .u64 (v : Int)] w fun e w' =>
      ∃ A' c', e = .returned (.tuple #[.agg #[.int .u64 (S : Int), .slice A' (storeL L i s v).length c'], .int .i64 0]) ∧ Mem w' S A' (storeL L i s v) c' ∧ Ext w w' := by
  refine (store_c S A L c i s v (S / 8) h.rl (by have := h.ok.le; omega) v1 hs hi hS (by omega) w h.row).mono ?_
  rintro e w' ⟨u, rfl, hown, hE⟩
  obtain ⟨A', c', rfl, hr⟩ := own_row hown
  exact ⟨A', c', rfl, ⟨hr, storeL_is h.rl (by have := h.ok.mod8; omega) s v, h.ok, by have := storeL_len L i s v; omega⟩, hE⟩
theorem word_x {w : World} {S : Nat} {A : Option Addr} {L : List (Nat × Nat)} {c : Nat} (h : Mem w S A L c) {a : Nat} (a1 : a < 18446744073709551616) :
    Calls Tryd.prog 56 #[.agg #[.int .u64 (S : Int), .slice A L.length c], .int .u64 (a : Int)] w fun e w' => e = .returned (.int .u64 ((wordL L (a / 8) : Nat) : Int)) ∧ Ext w w' :=
  word_c S A L c a (S / 8) a1 h.rl (by have := h.few; omega) w h.row.1
theorem same_x {w : World} {S : Nat} {A B : Option Addr} {L K : List (Nat × Nat)} {c d : Nat} (h : Mem w S A L c) (k : Mem w S B K d) (e : L = K) :
    Calls Tryd.prog 14 #[.agg #[.int .u64 (S : Int), .slice A L.length c], .agg #[.int .u64 (S : Int), .slice B K.length d]] w fun e w' => e = .returned (.bool true) ∧ Ext w w' := by
  have hk := same_c S S A B L K c d (by have := h.few; omega) w h.row.1 k.row.1
  rwa [sameB_yes e] at hk

theorem clear_x {w : World} {S : Nat} {A : Option Addr} {L : List (Nat × Nat)} {c : Nat} (h : Mem w S A L c) {p d : Nat} (hp : 8 * p + 8 * d < 1152921504606846976) :
    Calls Tryd.prog 69 #[.agg #[.int .u64 (S : Int), .slice A L.length c], .int .u64 ((8 * p : Nat) : Int), .int .u64 ((8 * d : Nat) : Int)] w fun e w' =>
      ∃ A' c', e = .returned (.agg #[.int .u64 (S : Int), .slice A' (clearL L p (p + d)).length c']) ∧ Mem w' S A' (clearL L p (p + d)) c' ∧ Ext w w' := by
  have hk := clear_c S A L c (8 * p) (8 * d) (S / 8) h.rl (by omega) (by omega) (by omega) (by have := h.few; omega) w h.row
  rw [show 8 * p / 8 = p by omega, show 8 * d / 8 = d by omega] at hk
  refine hk.mono ?_
  rintro e w' ⟨u, rfl, hown, hE⟩
  obtain ⟨A', c', rfl, hr⟩ := own_row hown
  have hl : (clearL L p (p + d)).length ≤ L.length := cutL_len (by omega) []
  exact ⟨A', c', rfl, ⟨hr, clearL_is h.rl (by omega), h.ok, by have := h.few; omega⟩, hE⟩
theorem rclear_x {w : World} {S : Nat} {A : Option Addr} {L : List (Nat × Nat)} {c : Nat} (h : Mem w S A L c) {p d : Nat} (hp : 8 * p + 8 * d < 1152921504606846976) :
    Calls Tryd.prog 43 #[.agg #[.int .u64 (S : Int), .slice A L.length c], .int .u64 ((8 * p : Nat) : Int), .int .u64 ((8 * d : Nat) : Int)] w fun e w' =>
      ∃ A' c', e = .returned (.agg #[.int .u64 (S : Int), .slice A' (clearL L p (p + d)).length c']) ∧ Mem w' S A' (clearL L p (p + d)) c' ∧ Ext w w' := by
  have hk := rclear_c S A L c p d (S / 8) hp (by have := h.ok.le; omega) h.rl (by have := h.few; omega) w h.row
  refine hk.mono ?_
  rintro e w' ⟨u, rfl, hown, hE⟩
  obtain ⟨A', c', rfl, hr⟩ := own_row hown
  have hl : (clearL L p (p + d)).length ≤ L.length := cutL_len (by omega) []
  exact ⟨A', c', rfl, ⟨hr, clearL_is h.rl (by omega), h.ok, by have := h.few; omega⟩, hE⟩
theorem rright_x {w : World} {S : Nat} {A : Option Addr} {L : List (Nat × Nat)} {c : Nat} (h : Mem w S A L c) :
    Calls Tryd.prog 10 #[.agg #[.int .u64 (S : Int), .slice A L.length c]] w fun e w' => e = .returned (.bool true) ∧ Ext w w' := by
  have hk := rright_c S A L c (by have := h.ok.le; omega) (h.rl.isCells (by have := h.ok.le; omega)) (by have := h.few; omega) w h.row.1
  rwa [decide_eq_true (h.rl.rightM h.ok)] at hk
theorem rword_x {w : World} {S : Nat} {A : Option Addr} {L : List (Nat × Nat)} {c : Nat} (h : Mem w S A L c) {a : Nat} (a1 : a < 18446744073709551616) :
    Calls Tryd.prog 81 #[.agg #[.int .u64 (S : Int), .slice A L.length c], .int .u64 (a : Int)] w fun e w' => e = .returned (.int .u64 ((wordL L (a / 8) : Nat) : Int)) ∧ Ext w w' :=
  rword_c S A L c a a1 h.rl h.ok.mod8 (by have := h.few; omega) w h.row.1
/-- two memories, whatever they are, held against one another -/
theorem same_xx {w : World} {S : Nat} {A B : Option Addr} {L K : List (Nat × Nat)} {c d : Nat} (h : Mem w S A L c) (k : Mem w S B K d) :
    Calls Tryd.prog 14 #[.agg #[.int .u64 (S : Int), .slice A L.length c], .agg #[.int .u64 (S : Int), .slice B K.length d]] w fun e w' => e = .returned (.bool (decide (L = K))) ∧ Ext w w' := by
  have hk := same_c S S A B L K c d (by have := h.few; omega) w h.row.1 k.row.1
  have e : sameB S S L K = decide (L = K) := by unfold sameB; simp
  rwa [e] at hk
/-- the row lies in no block from lo on, below hi -/
def Out (lo hi : Nat) (A : Option Addr) (n : Nat) : Prop := ∀ a : Addr, 0 < n → A = some a → a.block < lo ∨ hi ≤ a.block
theorem Out.mono {lo hi hi' : Nat} {A : Option Addr} {n : Nat} (h : Out lo hi A n) (hh : hi' ≤ hi) : Out lo hi' A n := fun a hl ha => by
  rcases h a hl ha with h | h
  · exact .inl h
  · exact .inr (Nat.le_trans hh h)
theorem RowL.row {w : World} {A : Option Addr} {L : List (Nat × Nat)} {c : Nat} (h : RowL w A L c) {lo hi g : Nat} (ho : Out lo hi A L.length) (h1 : lo ≤ g) (h2 : g < hi) (cs : Array Value) : RowL (w.setRow g cs) A L c := by
  refine ⟨fun hl => ?_, h.2⟩
  obtain ⟨b, off, rfl, hlt, hc⟩ := h.1 hl
  have hb := ho _ hl rfl
  simp only at hb
  have hcell : ∀ o, (w.setRow g cs).cell? ⟨b, o, none⟩ = w.cell? ⟨b, o, none⟩ := fun o => cell_setRow_other w g cs ⟨b, o, none⟩ (by simp only; omega)
  exact ⟨b, off, rfl, by rw [size_setRow]; exact hlt, fun i hi => ⟨by rw [hcell]; exact (hc i hi).1, by rw [hcell]; exact (hc i hi).2⟩⟩
theorem Mem.row' {w : World} {S : Nat} {A : Option Addr} {L : List (Nat × Nat)} {c : Nat} (h : Mem w S A L c) {lo hi g : Nat} (ho : Out lo hi A L.length) (h1 : lo ≤ g) (h2 : g < hi) (cs : Array Value) : Mem (w.setRow g cs) S A L c :=
  ⟨h.row.row ho h1 h2 cs, h.rl, h.ok, h.few⟩
theorem Mem.out {w : World} {S : Nat} {A : Option Addr} {L : List (Nat × Nat)} {c : Nat} (h : Mem w S A L c) (hi : Nat) : Out w.heap.size hi A L.length := fun a hl ha => by
  obtain ⟨b, off, rfl, hlt, _⟩ := h.row.1 hl
  injection ha with ha
  subst ha
  exact .inl hlt
theorem own_row_out {w : World} {base hi : Nat} {v : Value} {L : List (Nat × Nat)} (h : w.ownsRow base 80 2 v L.length (cellVs L)) (hb : hi ≤ base) : ∃ A c, v = .slice A L.length c ∧ RowL w A L c ∧ ∀ lo, Out lo hi A L.length := by
  obtain ⟨A, c, rfl, hr⟩ := own_row h
  refine ⟨A, c, rfl, hr, fun lo a hl ha => ?_⟩
  subst ha
  exact .inr (Nat.le_trans hb (h.lt a.block rfl).1)
/-- a store, or the document's set, makes memory of its own -/
theorem store_o {w : World} {S : Nat} {A : Option Addr} {L : List (Nat × Nat)} {c : Nat} (h : Mem w S A L c) {i s v : Nat} (v1 : v < 18446744073709551616) (hs : IsSize s) (hi : i % s = 0) (hS : i < S) (hf : L.length ≤ 999) :
    Calls Tryd.prog 61 #[.agg #[.int .u64 (S : Int), .slice A L.length c], .int .u64 (i : Int), .int .i64 (s : Int), .int .u64 (v : Int)] w fun e w' =>
      ∃ A' c', e = .returned (.tuple #[.agg #[.int .u64 (S : Int), .slice A' (storeL L i s v).length c'], .int .i64 0]) ∧ Mem w' S A' (storeL L i s v) c' ∧ (∀ lo, Out lo w.heap.size A' (storeL L i s v).length) ∧ Ext w w' := by
  refine (store_c S A L c i s v (S / 8) h.rl (by have := h.ok.le; omega) v1 hs hi hS (by omega) w h.row).mono ?_
  rintro e w' ⟨u, rfl, hown, hE⟩
  obtain ⟨A', c', rfl, hr, ho⟩ := own_row_out hown (Nat.le_refl _)
  exact ⟨A', c', rfl, ⟨hr, storeL_is h.rl (by have := h.ok.mod8; omega) s v, h.ok, by have := storeL_len L i s v; omega⟩, ho, hE⟩
theorem store8_o {w : World} {S : Nat} {A : Option Addr} {L : List (Nat × Nat)} {c : Nat} (h : Mem w S A L c) {i v : Nat} (v1 : v < 18446744073709551616) (hi : i % 8 = 0) (hS : i < S) (hf : L.length ≤ 999) {K : List (Nat × Nat)} (hK : storeL L i 8 v = K) :
    Calls Tryd.prog 61 #[.agg #[.int .u64 (S : Int), .slice A L.length c], .int .u64 (i : Int), .int .i64 8, .int .u64 (v : Int)] w fun e w' =>
      ∃ A' c', e = .returned (.tuple #[.agg #[.int .u64 (S : Int), .slice A' K.length c'], .int .i64 0]) ∧ Mem w' S A' K c' ∧ (∀ lo, Out lo w.heap.size A' K.length) ∧ Ext w w' := by
  subst hK
  exact store_o h (s := 8) v1 (.inr (.inr (.inr rfl))) hi hS hf
/-- a memory that comes to be right -/
theorem mem_of {w : World} {S : Nat} {A : Option Addr} {L : List (Nat × Nat)} {c : Nat} (h : decide (L.length ≤ 300) = true) (h2 : decide (RightM S L) = true) (hL : IsCells L) (hr : RowL w A L c) : Mem w S A L c ∧ L.length ≤ 300 := by
  rw [decide_eq_true_iff] at h h2
  exact ⟨⟨hr, h2.rl hL, (show SizeOk S by unfold RightM at h2; exact h2.1), by omega⟩, h⟩
end Go.Proofs.YtcllbidhjggjiaaDoor
