/- Layer 19, as plain values: whether a tree is right, table by table; pages as they are told, and walks to canonical addresses. No program. -/
import Derived.Test.YticbjiddbjgikaaDoorGmtab
import Derived.Test.YticbjiddbjgikaaDoorPg
import Derived.Test.YticbjiddbjgikaaDoorSpt
namespace Go.Proofs.YticbjiddbjgikaaDoor
set_option linter.unusedVariables false
set_option linter.unusedSimpArgs false

/-! whether a tree is right, behind tables that were met -/
def frs (L : List (Nat × Nat)) (n t : Nat) : List Nat := (tabs L n t).map (·.1)
def frI (L : List (Nat × Nat)) (n t k : Nat) : List Nat := t :: (List.range k).flatMap fun i => if goB L t i n then frs L (n - 1) (tE L t i).pp else []
def okR (S : Nat) (M F : List Nat) : Prop := (M ++ F).Nodup ∧ (∀ x ∈ F, x < S / 4096) ∧ (M ++ F).length ≤ 64
instance (S : Nat) (M F : List Nat) : Decidable (okR S M F) := by unfold okR; infer_instance
def rightM (S : Nat) (L : List (Nat × Nat)) (n t : Nat) (M : List Nat) : Bool := decide (okR S M (frs L n t))
theorem frs_frI (L : List (Nat × Nat)) (n t : Nat) : frs L n t = frI L n t 512 := by
  unfold frs frI
  cases n with
  | zero =>
    rw [tabs, List.map_cons, List.map_nil]
    refine congrArg (List.cons t) ?_
    symm
    rw [List.flatMap_eq_nil_iff]
    intro i _
    rw [go_zero]; rfl
  | succ n =>
    rw [tabs, List.map_cons, List.map_flatMap]
    refine congrArg (List.cons t) (flat_congr fun i _ => ?_)
    by_cases hg : goB L t i (n + 1) = true
    · rw [if_pos hg, if_pos hg]; rfl
    · rw [if_neg hg, if_neg hg]; rfl
theorem frI_0 (L : List (Nat × Nat)) (n t : Nat) : frI L n t 0 = [t] := rfl
theorem frI_skip {L : List (Nat × Nat)} {n t k : Nat} (h : goB L t k n = false) : frI L n t (k + 1) = frI L n t k := by
  unfold frI
  rw [List.range_succ, List.flatMap_append, List.flatMap_cons, h]
  simp
theorem frI_go {L : List (Nat × Nat)} {n t k : Nat} (h : goB L t k n = true) : frI L n t (k + 1) = frI L n t k ++ frs L (n - 1) (tE L t k).pp := by
  unfold frI
  rw [List.range_succ, List.flatMap_append, List.flatMap_cons, h]
  simp
theorem frI_pre (L : List (Nat × Nat)) (n t : Nat) : ∀ d k : Nat, ∃ r, frI L n t (k + d) = frI L n t k ++ r
  | 0, k => ⟨[], by rw [List.append_nil]; rfl⟩
  | d + 1, k => by
    obtain ⟨r, e⟩ := frI_pre L n t d k
    cases hg : goB L t (k + d) n
    · exact ⟨r, by rw [show k + (d + 1) = k + d + 1 from rfl, frI_skip hg, e]⟩
    · exact ⟨r ++ frs L (n - 1) (tE L t (k + d)).pp, by rw [show k + (d + 1) = k + d + 1 from rfl, frI_go hg, e, List.append_assoc]⟩
theorem okR_pre {S : Nat} {M F G : List Nat} (h : okR S M (F ++ G)) : okR S M F ∧ okR S (M ++ F) G := by
  obtain ⟨h1, h2, h3⟩ := h
  rw [← List.append_assoc] at h1 h3
  refine ⟨⟨(List.nodup_append.1 h1).1, fun x hx => h2 x (List.mem_append_left _ hx), ?_⟩, h1, fun x hx => h2 x (List.mem_append_right _ hx), h3⟩
  rw [List.length_append] at h3; omega
theorem okR_join {S : Nat} {M F G : List Nat} (h : okR S M F) (k : okR S (M ++ F) G) : okR S M (F ++ G) := by
  obtain ⟨h1, h2, h3⟩ := h
  obtain ⟨k1, k2, k3⟩ := k
  rw [List.append_assoc] at k1 k3
  exact ⟨k1, fun x hx => (List.mem_append.1 hx).elim (h2 x) (k2 x), k3⟩
/-- the top: it isn't below Size, or too many were met, or it was -/
theorem rightM_top {S : Nat} {L : List (Nat × Nat)} {n t : Nat} {M : List Nat} (h : ¬ (t < S / 4096 ∧ M.length < 64 ∧ t ∉ M)) : rightM S L n t M = false := by
  unfold rightM
  rw [decide_eq_false_iff_not]
  rintro ⟨h1, h2, h3⟩
  obtain ⟨r, e⟩ := tabs_head L n t
  have ef : frs L n t = t :: r.map (·.1) := by unfold frs; rw [e]; rfl
  rw [ef] at h1 h2 h3
  refine h ⟨h2 t List.mem_cons_self, ?_, fun hm => ?_⟩
  · rw [List.length_append, List.length_cons] at h3; omega
  · exact (List.nodup_append.1 h1).2.2 t hm t List.mem_cons_self rfl
theorem okR_top {S t : Nat} {M : List Nat} (hM : M.Nodup) (h1 : t < S / 4096) (h2 : M.length < 64) (h3 : t ∉ M) : okR S M [t] := by
  refine ⟨?_, fun x hx => by rw [List.mem_singleton.1 hx]; exact h1, by rw [List.length_append, List.length_singleton]; omega⟩
  rw [List.nodup_append]
  exact ⟨hM, by simp, fun a ha b hb e => h3 (by rw [List.mem_singleton.1 hb] at e; rwa [← e])⟩
/-- a link: its tree is right behind what was met till then; else the whole isn't -/
theorem right_step {S : Nat} {L : List (Nat × Nat)} {n t k : Nat} {M : List Nat} (h : okR S M (frI L n t k)) (hg : goB L t k n = true) (hr : rightM S L (n - 1) (tE L t k).pp (M ++ frI L n t k) = true) : okR S M (frI L n t (k + 1)) := by
  rw [frI_go hg]
  exact okR_join h (of_decide_eq_true hr)
theorem right_fail {S : Nat} {L : List (Nat × Nat)} {n t k : Nat} {M : List Nat} (hk : k < 512) (hg : goB L t k n = true) (hr : rightM S L (n - 1) (tE L t k).pp (M ++ frI L n t k) = false) : rightM S L n t M = false := by
  unfold rightM
  rw [decide_eq_false_iff_not]
  intro h
  rw [frs_frI] at h
  obtain ⟨r, e⟩ := frI_pre L n t (512 - (k + 1)) (k + 1)
  rw [show k + 1 + (512 - (k + 1)) = 512 by omega, frI_go hg, List.append_assoc] at e
  rw [e] at h
  have h2 := (okR_pre (okR_pre h).2).1
  exact of_decide_eq_false hr h2
theorem right_done {S : Nat} {L : List (Nat × Nat)} {n t : Nat} {M : List Nat} (h : okR S M (frI L n t 512)) : rightM S L n t M = true := by
  unfold rightM
  rw [frs_frI]
  exact decide_eq_true h
theorem right_tree {S : Nat} {L : List (Nat × Nat)} {n t : Nat} : rightM S L n t [] = true ↔ TreeOk S L n t := by
  unfold rightM
  rw [decide_eq_true_iff]
  unfold okR frs
  rw [List.nil_append]
  constructor
  · rintro ⟨h1, h2, h3⟩
    exact ⟨fun x hx => h2 x.1 (List.mem_map.2 ⟨x, hx, rfl⟩), h1, by rwa [List.length_map] at h3⟩
  · rintro ⟨h1, h2, h3⟩
    exact ⟨h2, fun x hx => by obtain ⟨y, hy, e⟩ := List.mem_map.1 hx; rw [← e]; exact h1 y hy, by rwa [List.length_map]⟩

/-! pages as they are told, of the base 0 -/
def vaN (v : Nat) : Nat := if v < 274877906944 then v else v + 18446743523953737728
def pgO (x : Nat × Nat × Pt) : Pg := ⟨vaN x.1, 4096 * x.2.2.pp, (x.2.1 : Int), permP x.2.2, x.2.2.d⟩
theorem sz_vals : szN 0 = 4096 ∧ szN 1 = 2097152 ∧ szN 2 = 1073741824 ∧ szN 3 = 549755813888 := by decide
theorem va_of {v : Nat} (h : v < szN 3) (hd : 4096 ∣ v) : (ofI (numI (v : Int))) = (vaN v : Int) := by
  rw [sz_vals.2.2.2] at h
  unfold ofI numI vaN
  obtain ⟨c, rfl⟩ := hd
  have e : ((4096 * c : Nat) : Int) / 4096 % 134217728 = (c : Int) := by omega
  rw [e]
  by_cases h1 : 4096 * c < 274877906944
  · rw [if_pos h1, if_pos (by omega)]; omega
  · rw [if_neg h1, if_neg (by omega)]; omega
/-- what a page that is told is, of a tree of the level 2 -/
structure PgT (S : Nat) (L : List (Nat × Nat)) (t : Nat) (x : Pg) (last : Nat) : Prop where
  lv : 0 ≤ x.lv ∧ x.lv ≤ 2
  va : x.va < 18446744073709551616
  las : (last : Int) = (x.va : Int) + sizI x.lv - 1
  las64 : last < 18446744073709551616
  fit : fitB (x.va : Int) x.lv = true
  look : ∃ k p, (lookN S L t x.va = ⟨0, ⟨x.lv, k, p⟩⟩) ∧ (lookN S L t last = ⟨0, ⟨x.lv, k, p⟩⟩) ∧ x.pa = 4096 * p.pp ∧ permP p = x.pm ∧ p.d = x.st ∧ p.pp < 17592186044416
attribute [irreducible] rightM frs frI vaN pgO

end Go.Proofs.YticbjiddbjgikaaDoor
