/- A right memory, as a value: what the calls of mem and of the document's answers make of it. -/
import Derived.Test.YticbjiddbjgikaaDoorGmem
import Derived.Test.YticbjiddbjgikaaDoorCrig
import Derived.Test.YticbjiddbjgikaaDoorGrme
namespace Go.Proofs.YticbjiddbjgikaaDoor
open Go.ChangeShapes Go.WideShapes Go.ChangeAt Go.RowKit
set_option linter.unusedVariables false
set_option linter.unusedSimpArgs false
set_option maxRecDepth 10000

/-- a right memory of few cells, as a value -/
structure Mem (w : World) (S : Nat) (A : Option Addr) (L : List (Nat × Nat)) (c : Nat) : Prop where
  row : RowL w A L c
  rl : RL (S / 8) L
  ok : SizeOk S
  few : L.length ≤ 36000
theorem Mem.ext {w w' : World} {S : Nat} {A : Option Addr} {L : List (Nat × Nat)} {c : Nat} (h : Mem w S A L c) (hE : Ext w w') : Mem w' S A L c := ⟨h.row.ext hE, h.rl, h.ok, h.few⟩
theorem SizeOk.mod8 {S : Nat} (h : SizeOk S) : S % 8 = 0 := by have := h.1; omega
theorem SizeOk.le {S : Nat} (h : SizeOk S) : S ≤ 1099511627776 := h.2

theorem word_x {w : World} {S : Nat} {A : Option Addr} {L : List (Nat × Nat)} {c : Nat} (h : Mem w S A L c) {a : Nat} (a1 : a < 18446744073709551616) :
    Calls Tryd.prog 57 #[.agg #[.int .u64 (S : Int), .slice A L.length c], .int .u64 (a : Int)] w fun e w' => e = .returned (.int .u64 ((wordL L (a / 8) : Nat) : Int)) ∧ Ext w w' :=
  word_c S A L c a (S / 8) a1 h.rl (by have := h.few; omega) w h.row.1
theorem rword_x {w : World} {S : Nat} {A : Option Addr} {L : List (Nat × Nat)} {c : Nat} (h : Mem w S A L c) {a : Nat} (a1 : a < 18446744073709551616) :
    Calls Tryd.prog 64 #[.agg #[.int .u64 (S : Int), .slice A L.length c], .int .u64 (a : Int)] w fun e w' => e = .returned (.int .u64 ((wordL L (a / 8) : Nat) : Int)) ∧ Ext w w' :=
  rword_c S A L c a a1 h.rl h.ok.mod8 (by have := h.few; omega) w h.row.1
/-- two memories, whatever they are, held against one another -/
theorem same_xx {w : World} {S : Nat} {A B : Option Addr} {L K : List (Nat × Nat)} {c d : Nat} (h : Mem w S A L c) (k : Mem w S B K d) :
    Calls Tryd.prog 12 #[.agg #[.int .u64 (S : Int), .slice A L.length c], .agg #[.int .u64 (S : Int), .slice B K.length d]] w fun e w' => e = .returned (.bool (decide (L = K))) ∧ Ext w w' := by
  have hk := same_c S S A B L K c d (by have := h.few; omega) w h.row.1 k.row.1
  have e : sameB S S L K = decide (L = K) := by unfold sameB; simp
  rwa [e] at hk
/-- the row lies in no block from lo on, below hi -/
def Out (lo hi : Nat) (A : Option Addr) (n : Nat) : Prop := ∀ a : Addr, 0 < n → A = some a → a.block < lo ∨ hi ≤ a.block
theorem Out.mono {lo hi hi' : Nat} {A : Option Addr} {n : Nat} (h : Out lo hi A n) (hh : hi' ≤ hi) : Out lo hi' A n := fun a hl ha => by
  rcases h a hl ha with h | h
  · exact .inl h
  · exact .inr (Nat.le_trans hh h)
theorem RowL.row {w : World} {A : Option Addr} {L : List (Nat × Nat)} {c : Nat} (h : RowL w A L c) {lo hi g : Nat} (ho : Out lo hi A L.length) (h1 : lo ≤ g) (h2 : g < hi) (cs : Array Value) : RowL (w.setRow g cs) A L c := by
  refine ⟨fun hl => ?_, h.2⟩
  obtain ⟨b, off, rfl, hlt, hc⟩ := h.1 hl
  have hb := ho _ hl rfl
  simp only at hb
  have hcell : ∀ o, (w.setRow g cs).cell? ⟨b, o, none⟩ = w.cell? ⟨b, o, none⟩ := fun o => cell_setRow_other w g cs ⟨b, o, none⟩ (by simp only; omega)
  exact ⟨b, off, rfl, by rw [size_setRow]; exact hlt, fun i hi => ⟨by rw [hcell]; exact (hc i hi).1, by rw [hcell]; exact (hc i hi).2⟩⟩
theorem Mem.row' {w : World} {S : Nat} {A : Option Addr} {L : List (Nat × Nat)} {c : Nat} (h : Mem w S A L c) {lo hi g : Nat} (ho : Out lo hi A L.length) (h1 : lo ≤ g) (h2 : g < hi) (cs : Array Value) : Mem (w.setRow g cs) S A L c :=
  ⟨h.row.row ho h1 h2 cs, h.rl, h.ok, h.few⟩
theorem Mem.out {w : World} {S : Nat} {A : Option Addr} {L : List (Nat × Nat)} {c : Nat} (h : Mem w S A L c) (hi : Nat) : Out w.heap.size hi A L.length := fun a hl ha => by
  obtain ⟨b, off, rfl, hlt, _⟩ := h.row.1 hl
  injection ha with ha
  subst ha
  exact .inl hlt
theorem own_row_out {w : World} {base hi : Nat} {v : Value} {L : List (Nat × Nat)} (h : w.ownsRow base 68 2 v L.length (cellVs L)) (hb : hi ≤ base) : ∃ A c, v = .slice A L.length c ∧ RowL w A L c ∧ ∀ lo, Out lo hi A L.length := by
  obtain ⟨A, c, rfl, hr⟩ := own_row h
  refine ⟨A, c, rfl, hr, fun lo a hl ha => ?_⟩
  subst ha
  exact .inr (Nat.le_trans hb (h.lt a.block rfl).1)
/-- a store, or the document's set, makes memory of its own -/
theorem store_o {w : World} {S : Nat} {A : Option Addr} {L : List (Nat × Nat)} {c : Nat} (h : Mem w S A L c) {i s v : Nat} (v1 : v < 18446744073709551616) (hs : IsSize s) (hi : i % s = 0) (hS : i < S) (hf : L.length ≤ 35999) :
    Calls Tryd.prog 68 #[.agg #[.int .u64 (S : Int), .slice A L.length c], .int .u64 (i : Int), .int .i64 (s : Int), .int .u64 (v : Int)] w fun e w' =>
      ∃ A' c', e = .returned (.tuple #[.agg #[.int .u64 (S : Int), .slice A' (storeL L i s v).length c'], .int .i64 0]) ∧ Mem w' S A' (storeL L i s v) c' ∧ (∀ lo, Out lo w.heap.size A' (storeL L i s v).length) ∧ Ext w w' := by
  refine (store_c S A L c i s v (S / 8) h.rl (by have := h.ok.le; omega) v1 hs hi hS (by omega) w h.row).mono ?_
  rintro e w' ⟨u, rfl, hown, hE⟩
  obtain ⟨A', c', rfl, hr, ho⟩ := own_row_out hown (Nat.le_refl _)
  exact ⟨A', c', rfl, ⟨hr, storeL_is h.rl (by have := h.ok.mod8; omega) s v, h.ok, by have := storeL_len L i s v; omega⟩, ho, hE⟩
theorem store8_o {w : World} {S : Nat} {A : Option Addr} {L : List (Nat × Nat)} {c : Nat} (h : Mem w S A L c) {i v : Nat} (v1 : v < 18446744073709551616) (hi : i % 8 = 0) (hS : i < S) (hf : L.length ≤ 35999) {K : List (Nat × Nat)} (hK : storeL L i 8 v = K) :
    Calls Tryd.prog 68 #[.agg #[.int .u64 (S : Int), .slice A L.length c], .int .u64 (i : Int), .int .i64 8, .int .u64 (v : Int)] w fun e w' =>
      ∃ A' c', e = .returned (.tuple #[.agg #[.int .u64 (S : Int), .slice A' K.length c'], .int .i64 0]) ∧ Mem w' S A' K c' ∧ (∀ lo, Out lo w.heap.size A' K.length) ∧ Ext w w' := by
  subst hK
  exact store_o h (s := 8) v1 (.inr (.inr (.inr rfl))) hi hS hf
theorem rset_o {w : World} {S : Nat} {A : Option Addr} {L : List (Nat × Nat)} {c : Nat} (h : Mem w S A L c) {p v : Nat} (hp : p < S / 8) (v1 : v < 18446744073709551616) {K : List (Nat × Nat)} (hK : K = cutL L p (p + 1) (if v = 0 then [] else [(p, v)])) (hr : RL (S / 8) K) (hf : K.length ≤ 36000) :
    Calls Tryd.prog 49 #[.agg #[.int .u64 (S : Int), .slice A L.length c], .int .u64 (p : Int), .int .u64 (v : Int)] w fun e w' =>
      ∃ A' c', e = .returned (.agg #[.int .u64 (S : Int), .slice A' K.length c']) ∧ Mem w' S A' K c' ∧ (∀ lo, Out lo w.heap.size A' K.length) ∧ Ext w w' := by
  refine (rset_c S A L c p v (S / 8) (by have := h.ok.le; omega) v1 h.rl (by have := h.few; omega) K hK w h.row).mono ?_
  rintro e w' ⟨u, rfl, hown, hE⟩
  obtain ⟨A', c', rfl, hr', ho⟩ := own_row_out hown (Nat.le_refl _)
  exact ⟨A', c', rfl, ⟨hr', hr, h.ok, hf⟩, ho, hE⟩
end Go.Proofs.YticbjiddbjgikaaDoor
