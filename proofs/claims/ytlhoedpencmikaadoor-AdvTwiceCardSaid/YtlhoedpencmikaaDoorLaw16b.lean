/- Layer 16's laws: what they share (harts that calls answer are in order; a hart without sets). -/
import Derived.Test.YtlhoedpencmikaaDoorLaw16a
import Derived.Test.YtlhoedpencmikaaDoorGchart
import Derived.Test.YtlhoedpencmikaaDoorGax
import Derived.Test.YtlhoedpencmikaaDoorMhartg
import Derived.Test.YtlhoedpencmikaaDoorGagg
namespace Go.Proofs.YtlhoedpencmikaaDoor
open Go.ChangeShapes Go.WideShapes Go.ChangeAt Go.RowKit
set_option linter.unusedVariables false
set_option linter.unusedSimpArgs false
set_option maxRecDepth 10000

theorem may_ok {e : En} (h : mayE e = true) : e.ok := by
  unfold mayE at h
  unfold En.ok Pm.ok
  split at h
  · rw [decide_eq_true_iff] at h
    exact ⟨by omega, by omega, by omega, by omega, trivial⟩
  · rw [decide_eq_true_iff] at h
    subst h
    unfold e0
    simp
theorem rt_ok {L : List St} (h : rightT L = true) {i : Nat} (hi : i < L.length) : (sT L i).ok :=
  ⟨⟨may_ok (rt_may h hi (w := 0) (by decide)), may_ok (rt_may h hi (w := 1) (by decide)), may_ok (rt_may h hi (w := 2) (by decide)), may_ok (rt_may h hi (w := 3) (by decide))⟩, by have := right_t (rt_s h hi); omega⟩
theorem acc_vi (S : Nat) (M : List (Nat × Nat)) (h : Hr) (k a s : Nat) : (accH S M h k a s).vi = h.vi ∨ (accH S M h k a s).vi = -1 := by
  unfold accH
  split
  · exact .inl rfl
  · unfold hH
    split
    · split
      · exact .inl rfl
      · exact .inr rfl
    · exact .inl rfl
theorem acc_ok {S : Nat} {M : List (Nat × Nat)} {h : Hr} {k a : Nat} (hr : rightH h = true) (hok : h.ok) (hM : RL (S / 8) M) (h8 : S % 8 = 0) (ha : a < 18446744073709551616) (s : Nat) : (accH S M h k a s).ok := by
  obtain ⟨e1, e2, e3, e4, e5, e6, -⟩ := acc_right (k := k) hr hM h8 ha s 0
  have hv := acc_vi S M h k a s
  obtain ⟨h1, h2, h3, -⟩ := hok
  refine ⟨by rw [e2]; exact h1, by rw [e3]; exact h2, ?_, fun i hi => rt_ok (right_split e1).1 hi⟩
  rcases hv with e | e <;> rw [e]
  · exact h3
  · decide
theorem bare_eq (h : Hr) : bareH h = { h with L := [] } := by unfold bareH; rfl
theorem bare_L (h : Hr) : (bareH h).L = [] := by rw [bare_eq]
theorem bare_right {h : Hr} (hr : rightH h = true) : rightH (bareH h) = true := by
  obtain ⟨-, h2, h3⟩ := right_split hr
  exact right_join (by rw [bare_L]; exact rt_rep (n := 0) (by decide)) (by rw [bare_eq]; exact h2) (by rw [bare_eq]; exact h3)
theorem bare_ok {h : Hr} (hok : h.ok) : (bareH h).ok := by
  obtain ⟨h1, h2, h3, -⟩ := hok
  refine ⟨by rw [bare_eq]; exact h1, by rw [bare_eq]; exact h2, by rw [bare_eq]; exact h3, fun i hi => ?_⟩
  rw [bare_L] at hi
  exact absurd hi (by simp)
theorem bare_row (w : World) (h : Hr) : RowV KS w none (bareH h).L 0 := by rw [bare_L]; exact RowV.nil w
theorem rng_pre {w : World} {b o : Nat} {xs ys : List Value} (h : w.rangeAt b o (xs ++ ys)) : w.rangeAt b o xs := fun j v hj => h j v (by
  have hl : j < xs.length := (List.getElem?_eq_some_iff.1 hj).1
  rw [List.getElem?_append_left hl]; exact hj)
theorem rng_ws {w : World} {b o : Nat} {s : St} (h : w.rangeAt b o (stC s).toList) : w.rangeAt b o (wsC s.ws).toList := by
  rw [stC_eq, Array.toList_append] at h
  exact rng_pre h
theorem sm_on {p : Sp} (h : smB p = true) : p.md = 0 ∨ p.md = 8 := by
  unfold smB at h
  by_cases h0 : p.md = 0
  · exact .inl h0
  · rw [if_neg h0] at h
    simp only [Bool.and_eq_true, decide_eq_true_iff] at h
    exact .inr h.1.1
theorem ftC_0 (f : Ft) : (ftC f)[0]? = some (.bool f.b) := by rw [ftC_eq]; rfl
theorem ftC_1 (f : Ft) : (ftC f)[1]? = some (.int .i64 f.c) := by rw [ftC_eq]; rfl
theorem ftC_2 (f : Ft) : (ftC f)[2]? = some (.int .u64 (f.a : Int)) := by rw [ftC_eq]; rfl
end Go.Proofs.YtlhoedpencmikaaDoor
