/- Who may do what (package perm), as plain functions on permissions and ways, and what follows of them. -/
import Derived.Test.YtcllbidhjggjiaaDoorGst
import Derived.Test.YtcllbidhjggjiaaDoorGagg
import Derived.WalkKit
import Derived.ProofKit
import Derived.OpenShut
namespace Go.Proofs.YtcllbidhjggjiaaDoor
set_option linter.unusedVariables false
set_option linter.unusedSimpArgs false

/-- a way that is one -/
def wyIs (w : Wy) : Bool := decide (0 ≤ w.kd) && (decide (w.kd < 3) && (decide (0 ≤ w.pv) && decide (w.pv ≤ 1)))
/-- the page is open to the privilege -/
def pmAd (p : Pm) (w : Wy) : Bool := if w.pv = 0 then p.u else !p.u || (!decide (w.kd = 0) && w.su)
/-- what the kind asks -/
def pmAsk (p : Pm) (w : Wy) : Bool := if w.kd = 0 then p.x else if w.kd = 1 then p.r || p.x && w.mx else p.w
/-- a page of p permits w -/
def pmAl (p : Pm) (w : Wy) : Bool := pmAd p w && pmAsk p w
/-- permissions that may be a page's -/
def pmMay (p : Pm) : Bool := p.r || p.x && !p.w
/-- p are less than q -/
def pmLess (p q : Pm) : Bool := q.r && !p.r || (q.w && !p.w || (q.x && !p.x || (q.u != p.u)))
/-- permissions out of a number -/
def nmP (n : Nat) : Pm := ⟨decide (n % 2 = 1), decide (n / 2 % 2 = 1), decide (n / 4 % 2 = 1), decide (n / 8 % 2 = 1)⟩
/-- a way out of a number -/
def nmW (n : Nat) : Wy := ⟨((n % 3 : Nat) : Int), ((n / 3 % 2 : Nat) : Int), decide (n / 6 % 2 = 1), decide (n / 12 % 2 = 1)⟩

/-- the twelve kinds and privileges, and a bit beside each -/
theorem wy_cases {w : Wy} (h : wyIs w = true) : (w.kd = 0 ∨ w.kd = 1 ∨ w.kd = 2) ∧ (w.pv = 0 ∨ w.pv = 1) := by
  simp [wyIs] at h; omega
theorem wy_of {w : Wy} (h : (w.kd = 0 ∨ w.kd = 1 ∨ w.kd = 2) ∧ (w.pv = 0 ∨ w.pv = 1)) : wyIs w = true := by
  simp [wyIs]; omega
theorem nmW_is (n : Nat) : wyIs (nmW n) = true := by
  apply wy_of; simp [nmW]; omega
theorem less_iff (p q : Pm) : pmLess p q = false ↔ (q.r = true → p.r = true) ∧ (q.w = true → p.w = true) ∧ (q.x = true → p.x = true) ∧ q.u = p.u := by
  obtain ⟨r, w1, x, u⟩ := p
  obtain ⟨r', w', x', u'⟩ := q
  simp only [pmLess, Bool.or_eq_false_iff]
  refine and_congr ?_ (and_congr ?_ (and_congr ?_ ?_))
  · cases r <;> cases r' <;> simp
  · cases w1 <;> cases w' <;> simp
  · cases x <;> cases x' <;> simp
  · cases u <;> cases u' <;> simp
/-- what isn't less than others permits all that they do -/
theorem less_al {p q : Pm} {w : Wy} (h : pmLess p q = false) (ha : pmAl q w = true) : pmAl p w = true := by
  obtain ⟨hr, hw, hx, hu⟩ := (less_iff p q).1 h
  clear h
  simp only [pmAl, pmAd, pmAsk, hu, Bool.and_eq_true] at ha ⊢
  refine ⟨ha.1, ?_⟩
  replace ha := ha.2
  revert ha
  split
  · exact hx
  · split
    · simp only [Bool.or_eq_true, Bool.and_eq_true]
      rintro (h | ⟨h, h'⟩)
      · exact Or.inl (hr h)
      · exact Or.inr ⟨hx h, h'⟩
    · exact hw
theorem more_al {p : Pm} {w : Wy} (ha : pmAl p w = true) : pmAl p ⟨w.kd, w.pv, true, true⟩ = true := by
  obtain ⟨r, w1, x, u⟩ := p
  obtain ⟨k, v, s, m⟩ := w
  simp only [pmAl, pmAd, pmAsk] at *
  revert ha
  by_cases h0 : v = 0 <;> by_cases h1 : k = 0 <;> by_cases h2 : k = 1 <;> simp only [h0, h1, h2, if_true, if_false, decide_true, decide_false] <;> cases r <;> cases w1 <;> cases x <;> cases u <;> cases s <;> cases m <;> simp
theorem fetch_al {p : Pm} {w : Wy} (h : wyIs w = true) (h0 : w.kd = 0) (ha : pmAl p w = true) : pmAl p ⟨w.kd, 1 - w.pv, w.su, w.mx⟩ = false := by
  have hc := (wy_cases h).2
  obtain ⟨r, w1, x, u⟩ := p
  obtain ⟨k, v, s, m⟩ := w
  simp only [pmAl, pmAd, pmAsk] at *
  subst h0
  rcases hc with rfl | rfl <;> revert ha <;> simp <;> cases x <;> cases u <;> simp
theorem less_self (p : Pm) : pmLess p p = false := by
  obtain ⟨r, w, x, u⟩ := p
  cases r <;> cases w <;> cases x <;> cases u <;> rfl
theorem less_trans {p q r : Pm} (h1 : pmLess p q = false) (h2 : pmLess q r = false) : pmLess p r = false := by
  obtain ⟨a, b, c, d⟩ := (less_iff p q).1 h1
  obtain ⟨a', b', c', d'⟩ := (less_iff q r).1 h2
  exact (less_iff p r).2 ⟨fun h => a (a' h), fun h => b (b' h), fun h => c (c' h), d'.trans d⟩
theorem less_anti {p q : Pm} (h1 : pmLess p q = false) (h2 : pmLess q p = false) : p = q := by
  obtain ⟨a, b, c, d⟩ := p
  obtain ⟨a', b', c', d'⟩ := q
  revert h1 h2
  simp only [pmLess]
  cases a <;> cases b <;> cases c <;> cases d <;> cases a' <;> cases b' <;> cases c' <;> cases d' <;> simp
/-- who isn't the supervisor is let in just where U is set; SUM -/
theorem user_u {p : Pm} {w : Wy} (h0 : w.pv = 0) (ha : pmAl p w = true) : p.u = true := by
  simp only [pmAl, pmAd, h0, if_true] at ha
  revert ha; cases p.u <;> simp
theorem sum_al {p : Pm} {w : Wy} (b : Bool) (h : w.pv = 0 ∨ p.u = false) : pmAl p ⟨w.kd, w.pv, b, w.mx⟩ = pmAl p w := by
  obtain ⟨k, v, s, m⟩ := w
  rcases h with h | h
  · simp only at h
    simp only [pmAl, pmAd, pmAsk, h, if_true]
  · simp only [pmAl, pmAd, pmAsk, h]
    by_cases hv : v = 0 <;> simp [hv]
theorem mxr_al {p : Pm} {w : Wy} (b : Bool) (h : w.kd ≠ 1) : pmAl p ⟨w.kd, w.pv, w.su, b⟩ = pmAl p w := by
  obtain ⟨k, v, s, m⟩ := w
  simp only at h
  simp only [pmAl, pmAd, pmAsk, h, if_false]
theorem store_w {p : Pm} {w : Wy} (h : w.kd = 2) (ha : pmAl p w = true) : p.w = true := by
  simp [pmAl, pmAsk, h] at ha; exact ha.2
attribute [irreducible] wyIs pmAd pmAsk pmAl pmMay pmLess
end Go.Proofs.YtcllbidhjggjiaaDoor
/- Package perm, and the document's answers (atlasref08): what each function answers, in whatever world, leaving all that was there. -/
namespace Go.Proofs.YtcllbidhjggjiaaDoor
open Go.ChangeShapes Go.WideShapes Go.ChangeAt Go.RowKit
set_option linter.unusedVariables false
set_option linter.unusedSimpArgs false

theorem may_lit (r w x u : Bool) : pmMay ⟨r, w, x, u⟩ = (r || x && !w) := by unfold pmMay; rfl
theorem less_lit (r w x u r' w' x' u' : Bool) : pmLess ⟨r, w, x, u⟩ ⟨r', w', x', u'⟩ = (r' && !r || (w' && !w || (x' && !x || (u' != u)))) := by unfold pmLess; rfl
theorem is_lit (k v : Int) (s m : Bool) : wyIs ⟨k, v, s, m⟩ = (decide (0 ≤ k) && (decide (k < 3) && (decide (0 ≤ v) && decide (v ≤ 1)))) := by unfold wyIs; rfl
end Go.Proofs.YtcllbidhjggjiaaDoor
/- perm.Allows: what is permitted. -/
namespace Go.Proofs.YtcllbidhjggjiaaDoor
open Go.ChangeShapes Go.WideShapes Go.ChangeAt Go.RowKit
set_option linter.unusedVariables false
set_option linter.unusedSimpArgs false
set_option maxRecDepth 10000

end Go.Proofs.YtcllbidhjggjiaaDoor
/- The document's answers for package perm (atlasref08). -/
namespace Go.Proofs.YtcllbidhjggjiaaDoor
open Go.ChangeShapes Go.WideShapes Go.ChangeAt Go.RowKit
set_option linter.unusedVariables false
set_option linter.unusedSimpArgs false

theorem nmP_cells (n : Nat) : pmC (nmP n) = #[.bool ((n : Int) % 2 == 1), .bool ((n : Int) / 2 % 2 == 1), .bool ((n : Int) / 4 % 2 == 1), .bool ((n : Int) / 8 % 2 == 1)] := by
  have e : ∀ a b : Nat, ((a : Int) / (b : Int) % 2 == 1) = decide (a / b % 2 = 1) := fun a b => by
    rw [Bool.eq_iff_iff, beq_iff_eq, decide_eq_true_iff]; omega
  have e1 : ((n : Int) % 2 == 1) = decide (n % 2 = 1) := by rw [Bool.eq_iff_iff, beq_iff_eq, decide_eq_true_iff]; omega
  unfold nmP
  rw [pmC_def, e1, ← e n 2, ← e n 4, ← e n 8]; rfl
theorem nmW_cells (n : Nat) : wyC (nmW n) = #[.int .i64 ((n : Int) % 3), .int .i64 ((n : Int) / 3 % 2), .bool ((n : Int) / 6 % 2 == 1), .bool ((n : Int) / 12 % 2 == 1)] := by
  have e : ∀ a b : Nat, ((a : Int) / (b : Int) % 2 == 1) = decide (a / b % 2 = 1) := fun a b => by
    rw [Bool.eq_iff_iff, beq_iff_eq, decide_eq_true_iff]; omega
  have e1 : ((n % 3 : Nat) : Int) = (n : Int) % 3 := by omega
  have e2 : ((n / 3 % 2 : Nat) : Int) = (n : Int) / 3 % 2 := by omega
  unfold nmW
  rw [wyC_def, e1, e2, ← e n 6, ← e n 12]; rfl
end Go.Proofs.YtcllbidhjggjiaaDoor
