/- Layer 18, as plain values: numbers that are right, new ones, one taken, one given back; rows of such deeds. No program. -/
import Derived.Test.YtngioemeplllhaaDoorAs
import Derived.Test.YtngioemeplllhaaDoorMtak
import Derived.Test.YtngioemeplllhaaDoorMall
namespace Go.Proofs.YtngioemeplllhaaDoor
set_option linter.unusedVariables false
set_option linter.unusedSimpArgs false

def anR (p : As) : Bool := decide (1 ≤ p.ma ∧ p.ma ≤ 16 ∧ p.fr < 2 ^ p.ma.toNat ∧ p.ow < 2 ^ p.ma.toNat)
def anZ : As := ⟨0, 0, 0⟩
def anY (y : Int) : Bool := decide (1 ≤ y ∧ y ≤ 16)
def anN (y : Int) : As := if anY y then ⟨y, 2 ^ y.toNat - 1, 0⟩ else anZ
def anNe (y : Int) : Int := if anY y then 0 else 1
def anT (p : As) : As := if p.fr = 0 then p else ⟨p.ma, takeF p.fr, bitN p.ow (lowN' p.fr) true⟩
def anX (p : As) : Nat := if p.fr = 0 then 0 else lowN' p.fr + 1
def anO (p : As) : Bool := if p.fr = 0 then false else p.ow.testBit (lowN' p.fr)
def anTe (p : As) : Int := if p.fr = 0 then 9 else 0
def anB (p : As) (n : Nat) : Bool := decide (1 ≤ n) && (decide ((n : Int) ≤ p.ma) && !p.fr.testBit (n - 1))
def anG (p : As) (n : Nat) : As := if anB p n then ⟨p.ma, bitN p.fr (n - 1) true, p.ow⟩ else p
def anGe (p : As) (n : Nat) : Int := if anB p n then 0 else 1
/-- of right numbers -/
structure AnOk (p : As) (m : Nat) : Prop where
  ma : p.ma = m
  m0 : 1 ≤ m
  m1 : m ≤ 16
  fr : p.fr < 2 ^ m
  ow : p.ow < 2 ^ m
theorem an_right {p : As} (h : anR p = true) : ∃ m, AnOk p m := by
  unfold anR at h
  simp only [decide_eq_true_eq] at h
  obtain ⟨h1, h2, h3, h4⟩ := h
  exact ⟨p.ma.toNat, by omega, by omega, by omega, h3, h4⟩
theorem AnOk.right {p : As} {m : Nat} (h : AnOk p m) : anR p = true := by
  unfold anR
  simp only [decide_eq_true_eq]
  rw [h.ma, Int.toNat_natCast]
  exact ⟨by have := h.m0; omega, by have := h.m1; omega, h.fr, h.ow⟩
theorem AnOk.le {p : As} {m : Nat} (h : AnOk p m) : m ≤ 64 := by have := h.m1; omega
theorem AnOk.f64 {p : As} {m : Nat} (h : AnOk p m) : p.fr < 18446744073709551616 := pow_le64 h.le h.fr
theorem AnOk.o64 {p : As} {m : Nat} (h : AnOk p m) : p.ow < 18446744073709551616 := pow_le64 h.le h.ow
theorem AnOk.ok {p : As} {m : Nat} (h : AnOk p m) : p.ok := ⟨⟨by rw [h.ma]; omega, by rw [h.ma]; have := h.m1; omega⟩, h.f64, h.o64⟩
theorem AnOk.top {p : As} {m : Nat} (h : AnOk p m) (h0 : p.fr ≠ 0) : lowN' p.fr < m := low_top h0 h.le h.fr
theorem AnOk.take {p : As} {m : Nat} (h : AnOk p m) : AnOk (anT p) m := by
  by_cases h0 : p.fr = 0
  · unfold anT; rw [if_pos h0]; exact h
  · unfold anT; rw [if_neg h0]; exact ⟨h.ma, h.m0, h.m1, take_top h0 h.le h.fr, bit_top h.le h.ow (h.top h0) _⟩
theorem AnOk.new {m : Nat} (m0 : 1 ≤ m) (m1 : m ≤ 16) : AnOk (anN m) m := by
  have hy : anY (m : Int) = true := by unfold anY; simp only [decide_eq_true_eq]; omega
  unfold anN
  rw [hy, if_pos rfl, Int.toNat_natCast]
  exact ⟨rfl, m0, m1, by have := Nat.two_pow_pos m; show 2 ^ m - 1 < 2 ^ m; omega, Nat.two_pow_pos m⟩
theorem an_giv {p : As} {m n : Nat} (h : AnOk p m) (hb : anB p n = true) : 1 ≤ n ∧ n ≤ m ∧ p.fr.testBit (n - 1) = false := by
  unfold anB at hb
  simp only [Bool.and_eq_true, decide_eq_true_eq, Bool.not_eq_true'] at hb
  have := h.ma
  exact ⟨hb.1, by omega, hb.2.2⟩
theorem AnOk.give {p : As} {m : Nat} (h : AnOk p m) (n : Nat) : AnOk (anG p n) m := by
  unfold anG
  cases hb : anB p n
  · exact h
  · obtain ⟨h1, h2, h3⟩ := an_giv h hb
    exact ⟨h.ma, h.m0, h.m1, bit_top h.le h.fr (by omega) _, h.ow⟩
theorem an_T0 {p : As} (h : p.fr = 0) : anT p = p ∧ anX p = 0 ∧ anO p = false ∧ anTe p = 9 := by
  unfold anT anX anO anTe; rw [if_pos h, if_pos h, if_pos h, if_pos h]; exact ⟨rfl, rfl, rfl, rfl⟩
theorem an_T1 {p : As} (h : p.fr ≠ 0) : anT p = ⟨p.ma, takeF p.fr, bitN p.ow (lowN' p.fr) true⟩ ∧ anX p = lowN' p.fr + 1 ∧ anO p = p.ow.testBit (lowN' p.fr) ∧ anTe p = 0 := by
  unfold anT anX anO anTe; rw [if_neg h, if_neg h, if_neg h, if_neg h]; exact ⟨rfl, rfl, rfl, rfl⟩
theorem an_G0 {p : As} {n : Nat} (h : anB p n = false) : anG p n = p ∧ anGe p n = 1 := by
  unfold anG anGe; rw [h]; exact ⟨rfl, rfl⟩
theorem an_G1 {p : As} {n : Nat} (h : anB p n = true) : anG p n = ⟨p.ma, bitN p.fr (n - 1) true, p.ow⟩ ∧ anGe p n = 0 := by
  unfold anG anGe; rw [h]; exact ⟨rfl, rfl⟩
theorem an_pop {p : As} {m : Nat} (h : AnOk p m) : popN p.fr 64 ≤ m := by
  have hc : popN p.fr 64 = popN p.fr (m + (64 - m)) := by rw [show m + (64 - m) = 64 by have := h.le; omega]
  rw [hc, popN_shift]
  have hz : p.fr >>> m = 0 := by rw [Nat.shiftRight_eq_div_pow]; exact Nat.div_eq_of_lt h.fr
  rw [hz, popN_zero]
  have := popN_le p.fr m
  omega
theorem an_popm {p : As} {m : Nat} (h : AnOk p m) : popN p.fr m = popN p.fr 64 := by
  have hc : popN p.fr 64 = popN p.fr (m + (64 - m)) := by rw [show m + (64 - m) = 64 by have := h.le; omega]
  rw [hc, popN_shift]
  have hz : p.fr >>> m = 0 := by rw [Nat.shiftRight_eq_div_pow]; exact Nat.div_eq_of_lt h.fr
  rw [hz, popN_zero]; omega

/-! what is taken and given back, from new ones on: of n numbers those of tk are out, those of ow were -/
structure AnSt (n : Nat) (p : As) (tk ow : Nat → Bool) (out : Nat) : Prop where
  ok : AnOk p n
  t : TakSt n p.fr (fun j => tk (j + 1)) out
  o : ∀ j, j < n → p.ow.testBit j = ow (j + 1)
  k : ∀ j, j = 0 ∨ n < j → tk j = false
theorem an_new {n : Nat} (m0 : 1 ≤ n) (m1 : n ≤ 16) : AnSt n (anN n) (fun _ => false) (fun _ => false) 0 := by
  have h := AnOk.new m0 m1
  have hy : anY (n : Int) = true := by unfold anY; simp only [decide_eq_true_eq]; omega
  have e : anN n = ⟨n, 2 ^ n - 1, 0⟩ := by unfold anN; rw [hy, if_pos rfl, Int.toNat_natCast]
  refine ⟨h, ?_, ?_, fun _ _ => rfl⟩
  · rw [e]; exact tak_new (by omega)
  · rw [e]; intro j hj; exact Nat.zero_testBit j
theorem AnSt.zero {n : Nat} {p : As} {tk ow : Nat → Bool} {out : Nat} (h : AnSt n p tk ow out) (h0 : p.fr = 0) {j : Nat} (j0 : 1 ≤ j) (j1 : j ≤ n) : tk j = true := by
  have ht := h.t
  rw [h0] at ht
  have := ht.zero (j := j - 1) (by omega)
  simpa [show j - 1 + 1 = j by omega] using this
theorem AnSt.low {n : Nat} {p : As} {tk ow : Nat → Bool} {out : Nat} (h : AnSt n p tk ow out) (h0 : p.fr ≠ 0) :
    lowN' p.fr < n ∧ (∀ j, 1 ≤ j → j < lowN' p.fr + 1 → tk j = true) ∧ tk (lowN' p.fr + 1) = false ∧ p.ow.testBit (lowN' p.fr) = ow (lowN' p.fr + 1) ∧
      AnSt n (anT p) (fun j => if j = lowN' p.fr + 1 then true else tk j) (fun j => if j = lowN' p.fr + 1 then true else ow j) (out + 1) := by
  obtain ⟨t1, t2, t3, t4⟩ := h.t.low h0
  refine ⟨t1, fun j j0 j1 => ?_, t3, h.o _ t1, h.ok.take, ?_, ?_, fun j hj => ?_⟩
  · have := t2 (j - 1) (by omega)
    simpa [show j - 1 + 1 = j by omega] using this
  · rw [(an_T1 h0).1]
    have e : (fun j => if j = lowN' p.fr then true else tk (j + 1)) = (fun j => (fun j => if j = lowN' p.fr + 1 then true else tk j) (j + 1)) := by
      funext j
      by_cases e : j = lowN' p.fr
      · simp [e]
      · simp [e]
    rw [← e]
    exact t4
  · rw [(an_T1 h0).1]
    intro j hj
    show (bitN p.ow (lowN' p.fr) true).testBit j = _
    rw [tb_bitN h.ok.o64]
    by_cases e : j = lowN' p.fr
    · rw [if_pos ⟨e, by have := h.ok.le; omega⟩]; simp [e]
    · rw [if_neg (fun q => e q.1)]; simp only [show ¬ (j + 1 = lowN' p.fr + 1) by omega, if_false]; exact h.o j hj
  · simp only [show ¬ (j = lowN' p.fr + 1) by omega, if_false]; exact h.k j hj
theorem AnSt.is {n : Nat} {p : As} {tk ow : Nat → Bool} {out : Nat} (h : AnSt n p tk ow out) (k : Nat) : anB p k = tk k := by
  unfold anB
  rw [h.ok.ma]
  by_cases h1 : 1 ≤ k ∧ k ≤ n
  · have hb : p.fr.testBit (k - 1) = !tk (k - 1 + 1) := by
      have ht := h.t
      unfold TakSt at ht
      exact ht.2.2.2 (k - 1) (by omega)
    rw [hb, show k - 1 + 1 = k by omega]
    simp only [show 1 ≤ k from h1.1, show (k : Int) ≤ (n : Int) by omega, decide_true, Bool.true_and, Bool.not_not]
  · have hk := h.k k (by omega)
    rw [hk]
    by_cases h0 : 1 ≤ k
    · rw [decide_eq_false (show ¬ ((k : Int) ≤ (n : Int)) by omega)]; simp
    · rw [decide_eq_false h0]; simp
theorem AnSt.give {n : Nat} {p : As} {tk ow : Nat → Bool} {out : Nat} (h : AnSt n p tk ow out) {k : Nat} (hk : tk k = true) :
    1 ≤ out ∧ AnSt n (anG p k) (fun j => if j = k then false else tk j) ow (out - 1) := by
  have hb : anB p k = true := by rw [h.is, hk]
  obtain ⟨h1, h2, h3⟩ := an_giv h.ok hb
  obtain ⟨-, t2, t3⟩ := h.t.give (k := k - 1) (by omega) (by simpa [show k - 1 + 1 = k by omega] using hk)
  refine ⟨t2, h.ok.give k, ?_, ?_, fun j hj => ?_⟩
  · rw [(an_G1 hb).1]
    have e : (fun j => if j = k - 1 then false else tk (j + 1)) = (fun j => (fun j => if j = k then false else tk j) (j + 1)) := by
      funext j
      by_cases e : j = k - 1
      · simp [e, show k - 1 + 1 = k by omega]
      · simp [e, show ¬ (j + 1 = k) by omega]
    rw [← e]
    exact t3
  · rw [(an_G1 hb).1]; exact h.o
  · by_cases e : j = k
    · simp [e]
    · simp only [e, if_false]; exact h.k j hj
theorem AnSt.same {n : Nat} {p : As} {tk ow : Nat → Bool} {out : Nat} (h : AnSt n p tk ow out) : out ≤ n ∧ popN p.fr 64 = n - out := h.t.out_le

/-! all that are free taken, one behind the other, and given back -/
def owF (F O : Nat) : Nat → Nat
  | 0 => O
  | k + 1 => bitN (owF F O k) (tkL F k) true
def tkA (p : As) (k : Nat) : As := ⟨p.ma, tkF p.fr k, owF p.fr p.ow k⟩
def gvA (p : As) (k : Nat) : As := ⟨p.ma, gvF p.fr (popN p.fr 64) 0 k, owF p.fr p.ow (popN p.fr 64)⟩
theorem owF_lt {F O : Nat} (hO : O < 2 ^ 64) : ∀ k, owF F O k < 2 ^ 64
  | 0 => hO
  | k + 1 => bit_lt (owF_lt hO k) _ _
theorem owF_bit {F O : Nat} (hO : O < 2 ^ 64) (hF : F < 2 ^ 64) : ∀ k, k ≤ popN F 64 → ∀ b, (owF F O k).testBit b = true ↔ O.testBit b = true ∨ ∃ j, j < k ∧ tkL F j = b
  | 0, _, b => by simp [owF]
  | k + 1, h, b => by
    have ih := owF_bit hO hF k (by omega) b
    have hl := (tkL_bit hF (show k < popN F 64 by omega)).1
    simp only [owF]
    rw [tb_bitN (owF_lt hO k)]
    by_cases e : b = tkL F k
    · rw [if_pos ⟨e, hl⟩]
      exact ⟨fun _ => .inr ⟨k, by omega, e.symm⟩, fun _ => rfl⟩
    · rw [if_neg (fun q => e q.1), ih]
      constructor
      · rintro (h | ⟨j, h1, h2⟩)
        · exact .inl h
        · exact .inr ⟨j, by omega, h2⟩
      · rintro (h | ⟨j, h1, h2⟩)
        · exact .inl h
        · by_cases ej : j = k
          · subst ej; exact absurd h2.symm e
          · exact .inr ⟨j, by omega, h2⟩
theorem owF_end {F O : Nat} (hO : O < 2 ^ 64) (hF : F < 2 ^ 64) : owF F O (popN F 64) = O ||| F := by
  apply Nat.eq_of_testBit_eq
  intro b
  rw [Nat.testBit_or, Bool.eq_iff_iff, owF_bit hO hF _ (Nat.le_refl _), Bool.or_eq_true]
  constructor
  · rintro (h | ⟨j, h1, h2⟩)
    · exact .inl h
    · exact .inr (by rw [← h2]; exact tkL_F hF h1)
  · rintro (h | h)
    · exact .inl h
    · obtain ⟨j, h1, h2⟩ := tkL_all hF h
      exact .inr ⟨j, h1, h2⟩
theorem tkA_low (p : As) (k : Nat) : lowN' (tkA p k).fr = tkL p.fr k := rfl
theorem tkA_0 (p : As) : tkA p 0 = p := by unfold tkA; rfl
theorem tkA_next {p : As} {m k : Nat} (h : AnOk p m) (hk : k < popN p.fr 64) : (tkA p k).fr ≠ 0 ∧ anT (tkA p k) = tkA p (k + 1) ∧ anX (tkA p k) = tkL p.fr k + 1 ∧ anO (tkA p k) = p.ow.testBit (tkL p.fr k) ∧ anTe (tkA p k) = 0 := by
  have h0 : (tkA p k).fr ≠ 0 := tkF_ne h.f64 hk
  obtain ⟨e1, e2, e3, e4⟩ := an_T1 h0
  refine ⟨h0, by rw [e1]; rfl, by rw [e2]; rfl, ?_, e4⟩
  rw [e3]
  show (owF p.fr p.ow k).testBit (tkL p.fr k) = _
  rw [Bool.eq_iff_iff, owF_bit h.o64 h.f64 k (by omega)]
  constructor
  · rintro (h1 | ⟨j, h1, h2⟩)
    · exact h1
    · exact absurd h2 (tkL_ne h.f64 h1 hk)
  · exact .inl
theorem tkA_ok {p : As} {m : Nat} (h : AnOk p m) : ∀ k, k ≤ popN p.fr 64 → AnOk (tkA p k) m
  | 0, _ => by rw [tkA_0]; exact h
  | k + 1, hk => by
    have ih := (tkA_ok h k (by omega)).take
    rwa [(tkA_next h (show k < popN p.fr 64 by omega)).2.1] at ih
theorem tkA_pop {p : As} {m k : Nat} (h : AnOk p m) (hk : k ≤ popN p.fr 64) : popN (tkA p k).fr 64 = popN p.fr 64 - k := tkF_pop h.f64 k hk
theorem tkA_end {p : As} {m : Nat} (h : AnOk p m) : tkA p (popN p.fr 64) = gvA p 0 := by
  unfold tkA gvA
  rw [tkF_end h.f64]; rfl
theorem gvA_ok {p : As} {m : Nat} (h : AnOk p m) : ∀ k, k ≤ popN p.fr 64 → AnOk (gvA p k) m ∧ (k < popN p.fr 64 → anB (gvA p k) (tkL p.fr k + 1) = true ∧ anG (gvA p k) (tkL p.fr k + 1) = gvA p (k + 1))
  | k, hk => by
    have hok : AnOk (gvA p k) m := by
      induction k with
      | zero => rw [← tkA_end h]; exact tkA_ok h _ (Nat.le_refl _)
      | succ k ih =>
        have ih := ih (by omega)
        have hl : tkL p.fr k < m := by
          have := (tkA_ok h k (by omega)).top (tkA_next h (by omega)).1
          exact this
        refine ⟨h.ma, h.m0, h.m1, ?_, ih.ow⟩
        show gvF p.fr (popN p.fr 64) 0 (k + 1) < 2 ^ m
        simp only [gvF]
        refine bit_top h.le ih.fr ?_ _
        rw [Nat.add_zero, Nat.mod_eq_of_lt (by omega)]
        exact hl
    refine ⟨hok, fun hlt => ?_⟩
    have hl : tkL p.fr k < m := by
      have := (tkA_ok h k (by omega)).top (tkA_next h hlt).1
      exact this
    have hn := gvF_new (t := 0) h.f64 rfl hlt
    rw [Nat.add_zero, Nat.mod_eq_of_lt hlt] at hn
    have hb : anB (gvA p k) (tkL p.fr k + 1) = true := by
      unfold anB
      have e1 : ((tkL p.fr k + 1 : Nat) : Int) ≤ (gvA p k).ma := by rw [hok.ma]; omega
      have e2 : (gvA p k).fr.testBit (tkL p.fr k + 1 - 1) = false := by rw [Nat.add_sub_cancel]; exact hn
      rw [e2, decide_eq_true e1, decide_eq_true (Nat.le_add_left 1 _)]; rfl
    refine ⟨hb, ?_⟩
    rw [(an_G1 hb).1, Nat.add_sub_cancel]
    unfold gvA
    simp only [gvF]
    rw [Nat.add_zero, Nat.mod_eq_of_lt hlt]
theorem gvA_end {p : As} {m : Nat} (h : AnOk p m) : gvA p (popN p.fr 64) = ⟨p.ma, p.fr, p.ow ||| p.fr⟩ := by
  unfold gvA
  rw [gvF_end h.f64 rfl, owF_end h.o64 h.f64]
attribute [irreducible] anR anY anN anNe anT anX anO anTe anB anG anGe tkA gvA
end Go.Proofs.YtngioemeplllhaaDoor
