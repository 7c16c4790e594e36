/- Layer 19, as plain values: what a walk through a tree, table by table, meets: the spots, in order (unL); the frames and the pages of a tree out of these. No program. -/
import Derived.Test.YticbjiddbjgikaaDoorMtabd
import Derived.Test.YticbjiddbjgikaaDoorSpt
namespace Go.Proofs.YticbjiddbjgikaaDoor
set_option linter.unusedVariables false
set_option linter.unusedSimpArgs false

/-- a table's entries whose words are not 0, below an index -/
def entP (L : List (Nat × Nat)) (t k : Nat) : List (Nat × Pt) := ((List.range k).filter fun i => wordL L (512 * t + i) != 0).map fun i => (i, tE L t i)
theorem entP_0 (L : List (Nat × Nat)) (t : Nat) : entP L t 0 = [] := rfl
theorem entP_yes {L : List (Nat × Nat)} {t k : Nat} (h : wordL L (512 * t + k) ≠ 0) : entP L t (k + 1) = entP L t k ++ [(k, tE L t k)] := by
  unfold entP
  rw [List.range_succ, List.filter_append, List.map_append]
  simp [h]
theorem entP_no {L : List (Nat × Nat)} {t k : Nat} (h : wordL L (512 * t + k) = 0) : entP L t (k + 1) = entP L t k := by
  unfold entP
  rw [List.range_succ, List.filter_append, List.map_append]
  simp [h]
theorem entP_pre (L : List (Nat × Nat)) (t : Nat) : ∀ d k : Nat, ∃ r, entP L t (k + d) = entP L t k ++ r
  | 0, k => ⟨[], by rw [List.append_nil]; rfl⟩
  | d + 1, k => by
    obtain ⟨r, e⟩ := entP_pre L t d k
    by_cases h : wordL L (512 * t + (k + d)) = 0
    · exact ⟨r, by rw [show k + (d + 1) = k + d + 1 from rfl, entP_no h, e]⟩
    · exact ⟨r ++ [(k + d, tE L t (k + d))], by rw [show k + (d + 1) = k + d + 1 from rfl, entP_yes h, e, List.append_assoc]⟩
theorem entP_mem {L : List (Nat × Nat)} {t k : Nat} {x : Nat × Pt} (h : x ∈ entP L t k) : x.1 < k ∧ x.2 = tE L t x.1 ∧ wordL L (512 * t + x.1) ≠ 0 := by
  unfold entP at h
  obtain ⟨i, hi, rfl⟩ := List.mem_map.1 h
  obtain ⟨h1, h2⟩ := List.mem_filter.1 hi
  exact ⟨List.mem_range.1 h1, rfl, by simpa using h2⟩
theorem nul_bad {L : List (Nat × Nat)} {t i : Nat} (h : wordL L (512 * t + i) = 0) (n : Int) : badB (tE L t i) n = true := by
  unfold tE
  rw [h]
  unfold badB getP
  simp
/-- the spots of one entry: none, it alone, or it and what is under it -/
def unE (n t b : Nat) (sub : Nat → Nat → List (Nat × Spt)) (x : Nat × Pt) : List (Nat × Spt) :=
  if badB x.2 (n : Int) then [] else (b + x.1 * szN n, ⟨t, (n : Int), x.2⟩) :: (if linkB x.2 then sub x.2.pp (b + x.1 * szN n) else [])
/-- the spots of a tree -/
def unL (L : List (Nat × Nat)) : Nat → Nat → Nat → List (Nat × Spt)
  | 0, t, b => (entP L t 512).flatMap fun x => unE 0 t b (fun _ _ => []) x
  | n + 1, t, b => (entP L t 512).flatMap fun x => unE (n + 1) t b (fun u c => unL L n u c) x
theorem not_low {p : Pt} (h : badB p ((0 : Nat) : Int) = false) : linkB p = false := by
  have h2 := not_leaf_low h
  rw [link_of h, h2]; rfl
theorem lnk_nl {p : Pt} (h : linkB p = true) : leafB p = false := by
  unfold linkB at h
  unfold leafB
  revert h
  cases p.v <;> cases p.r <;> cases p.x <;> simp
/-- what is so of each spot -/
structure UnIn (S : Nat) (L : List (Nat × Nat)) (y : Nat × Spt) : Prop where
  lt : y.1 < szN 3
  d4 : 4096 ∣ y.1
  tb : y.2.tb < S / 4096
  lv : ∃ k : Nat, k ≤ 2 ∧ y.2.lv = (k : Int)
  pt : ∃ i, i < 512 ∧ y.2.pt = tE L y.2.tb i
attribute [irreducible] entP unL unE

end Go.Proofs.YticbjiddbjgikaaDoor
