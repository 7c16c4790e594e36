/- Layer 19, as plain values: pages as they are told, of whatever base, index by index. No program. -/
import Derived.Test.YticbjiddbjgikaaDoorMtabc
namespace Go.Proofs.YticbjiddbjgikaaDoor
set_option linter.unusedVariables false
set_option linter.unusedSimpArgs false

/-! pages as they are told, of whatever base: by indexes -/
def pgK (L : List (Nat × Nat)) (n t b : Nat) : List Pg := (pgs L n t b).map pgO
def pgOne (L : List (Nat × Nat)) (n t b i : Nat) : List Pg := if pgB L t i n then [pgO (b + i * szN n, n, tE L t i)] else if goB L t i n then pgK L (n - 1) (tE L t i).pp (b + i * szN n) else []
def pgP (L : List (Nat × Nat)) (n t b k : Nat) : List Pg := (List.range k).flatMap fun i => pgOne L n t b i
theorem map_flat {α β γ : Type} (g : β → γ) (f : α → List β) : ∀ l : List α, (l.flatMap f).map g = l.flatMap fun i => (f i).map g
  | [] => rfl
  | a :: l => by rw [List.flatMap_cons, List.map_append, map_flat g f l, List.flatMap_cons]
theorem pgP_end (L : List (Nat × Nat)) (n t b : Nat) : pgP L n t b 512 = pgK L n t b := by
  unfold pgP pgK
  cases n with
  | zero =>
    rw [pgs, map_flat]
    refine flat_congr fun i _ => ?_
    unfold pgOne
    rw [go_zero]
    cases pgB L t i 0 <;> rfl
  | succ n =>
    rw [pgs, map_flat]
    refine flat_congr fun i _ => ?_
    unfold pgOne
    cases pgB L t i (n + 1)
    · cases goB L t i (n + 1) <;> rfl
    · rfl
theorem pgP_0 (L : List (Nat × Nat)) (n t b : Nat) : pgP L n t b 0 = [] := rfl
theorem pgP_next (L : List (Nat × Nat)) (n t b k : Nat) : pgP L n t b (k + 1) = pgP L n t b k ++ pgOne L n t b k := by
  unfold pgP
  rw [List.range_succ, List.flatMap_append, List.flatMap_cons, List.flatMap_nil, List.append_nil]
theorem pgP_pre (L : List (Nat × Nat)) (n t b : Nat) : ∀ d k : Nat, ∃ r, pgP L n t b (k + d) = pgP L n t b k ++ r
  | 0, k => ⟨[], by simp⟩
  | d + 1, k => by
    obtain ⟨r, h⟩ := pgP_pre L n t b d k
    exact ⟨r ++ pgOne L n t b (k + d), by rw [← Nat.add_assoc, pgP_next, h, List.append_assoc]⟩
theorem pgP_le {L : List (Nat × Nat)} {n t b k : Nat} (hk : k ≤ 512) : (pgP L n t b k).length ≤ (pgK L n t b).length := by
  obtain ⟨r, h⟩ := pgP_pre L n t b (512 - k) k
  rw [show k + (512 - k) = 512 by omega, pgP_end] at h
  rw [h, List.length_append]; omega
theorem cntP_le (L : List (Nat × Nat)) (x : Nat × Nat) : cntP L x ≤ 512 := by
  have h : ∀ (f : Nat → Bool) (l : List Nat), (l.map fun i => (f i).toNat).sum ≤ l.length := by
    intro f l
    induction l with
    | nil => simp
    | cons a l ih =>
      rw [List.map_cons, List.sum_cons, List.length_cons]
      have : (f a).toNat ≤ 1 := by cases f a <;> simp
      omega
  have := h (fun i => pgB L x.1 i x.2) (List.range 512)
  rw [List.length_range] at this
  exact this
theorem pgK_few {S : Nat} {L : List (Nat × Nat)} {n t : Nat} (h : TreeOk S L n t) (b : Nat) : (pgK L n t b).length ≤ 32768 := by
  unfold pgK
  rw [List.length_map, pgs_len]
  have h2 : ∀ l : List (Nat × Nat), (l.map (cntP L)).sum ≤ 512 * l.length := by
    intro l
    induction l with
    | nil => simp
    | cons a l ih =>
      rw [List.map_cons, List.sum_cons, List.length_cons]
      have := cntP_le L a
      omega
  have := h2 (tabs L n t)
  have := h.le
  omega
theorem pgOne_bad {L : List (Nat × Nat)} {n t b i : Nat} (h : badB (tE L t i) (n : Int) = true) : pgOne L n t b i = [] := by
  unfold pgOne pgB goB; rw [h]; simp
theorem pgOne_leaf {L : List (Nat × Nat)} {n t b i : Nat} (h : badB (tE L t i) (n : Int) = false) (hl : leafB (tE L t i) = true) : pgOne L n t b i = [pgO (b + i * szN n, n, tE L t i)] := by
  unfold pgOne pgB; rw [h, hl]; rfl
theorem go_of {L : List (Nat × Nat)} {n t i : Nat} (h : badB (tE L t i) (n : Int) = false) (hl : leafB (tE L t i) = false) : goB L t i n = true := by
  unfold goB; rw [h, link_of h, hl]; rfl
theorem pgOne_go {L : List (Nat × Nat)} {n t b i : Nat} (h : badB (tE L t i) (n : Int) = false) (hl : leafB (tE L t i) = false) : pgOne L n t b i = pgK L (n - 1) (tE L t i).pp (b + i * szN n) := by
  have hg := go_of h hl
  unfold pgOne
  rw [hg]
  unfold pgB
  rw [hl]; rfl
theorem pgP_few {S : Nat} {L : List (Nat × Nat)} {n t k : Nat} (h : TreeOk S L n t) (b : Nat) (hk : k ≤ 512) : (pgP L n t b k).length ≤ 32768 := Nat.le_trans (pgP_le hk) (pgK_few h b)
/-- where an index' page begins -/
structure BaseIn (n b i : Nat) : Prop where
  lt : b + i * szN n + szN n ≤ szN 3
  dv : szN n ∣ b + i * szN n
  d4 : 4096 ∣ b + i * szN n
theorem base_in {n b i : Nat} (hb : szN (n + 1) ∣ b) (hl : b + szN (n + 1) ≤ szN 3) (hi : i < 512) : BaseIn n b i := by
  have h1 := blk_le (n := n) (b := b) hi
  have h2 : szN n ∣ b := Nat.dvd_trans (szN_dvd (Nat.le_succ n)) hb
  have h3 : szN n ∣ b + i * szN n := Nat.dvd_add h2 (Nat.dvd_mul_left _ _)
  refine ⟨by omega, h3, Nat.dvd_trans ?_ h3⟩
  exact szN_dvd (Nat.zero_le n)
theorem base_0 {n : Nat} (hn : n ≤ 2) : szN (n + 1) ∣ 0 ∧ 0 + szN (n + 1) ≤ szN 3 := by
  refine ⟨Nat.dvd_zero _, ?_⟩
  rw [Nat.zero_add]
  exact Nat.le_of_dvd (szN_pos 3) (szN_dvd (by omega))
attribute [irreducible] pgK pgOne pgP
end Go.Proofs.YticbjiddbjgikaaDoor
