/- Package perm, and the document's answers (atlasref08): what each function answers, in whatever world, leaving all that was there. -/
import Derived.Test.YthplkhkclhpobaaDoorMeight
import Derived.Test.YthplkhkclhpobaaDoorGagg
import Derived.WalkKit
import Derived.ProofKit
import Derived.OpenShut
namespace Go.Proofs.YthplkhkclhpobaaDoor
open Go.ChangeShapes Go.WideShapes Go.ChangeAt Go.RowKit
set_option linter.unusedVariables false
set_option linter.unusedSimpArgs false

theorem may_lit (r w x u : Bool) : pmMay ⟨r, w, x, u⟩ = (r || x && !w) := by unfold pmMay; rfl
theorem less_lit (r w x u r' w' x' u' : Bool) : pmLess ⟨r, w, x, u⟩ ⟨r', w', x', u'⟩ = (r' && !r || (w' && !w || (x' && !x || (u' != u)))) := by unfold pmLess; rfl
theorem asks1_c (p : Pm) (w : World) :
    Calls Tryd.prog 76 #[.agg (pmC p)] w fun e w' => e = .returned (.bool p.x) ∧ Ext w w' := by
  have HE := Lib.hid ((Ext.refl w).alloc (.cells (pmC p) 51))
  rw [pmC_eq] at HE ⊢
  go_enter Tryd.func76, Tryd.ntmps76
  go_wp2
  go_ret
  exact ⟨rfl, HE.out⟩
theorem asks3_c (p : Pm) (w : World) :
    Calls Tryd.prog 78 #[.agg (pmC p)] w fun e w' => e = .returned (.bool p.w) ∧ Ext w w' := by
  have HE := Lib.hid ((Ext.refl w).alloc (.cells (pmC p) 51))
  rw [pmC_eq] at HE ⊢
  go_enter Tryd.func78, Tryd.ntmps78
  go_wp2
  go_ret
  exact ⟨rfl, HE.out⟩
theorem asks2_c (p : Pm) (g : Nat) (m : Bool) (w : World) (hm : w.cell? ⟨g, 0, none⟩ = some (.bool m)) :
    Calls Tryd.prog 77 #[.agg (pmC p), .pointer (some ⟨g, 0, none⟩)] w fun e w' => e = .returned (.bool (p.r || p.x && m)) ∧ Ext w w' := by
  have HE := Lib.hid ((Ext.refl w).alloc (.cells (pmC p) 51))
  have hm1 := ext_cell HE.out hm
  obtain ⟨r, y, x, u⟩ := p
  rw [pmC_def] at HE hm1 ⊢
  cases r <;> cases x <;> (go_enter Tryd.func77, Tryd.ntmps77; go_wp2; go_ret; exact ⟨rfl, HE.out⟩)
theorem is_lit (k v : Int) (s m : Bool) : wyIs ⟨k, v, s, m⟩ = (decide (0 ≤ k) && (decide (k < 3) && (decide (0 ≤ v) && decide (v ≤ 1)))) := by unfold wyIs; rfl
set_option maxHeartbeats 1000000 in
theorem is8_c (y : Wy) (w : World) :
    Calls Tryd.prog 64 #[.agg (wyC y)] w fun e w' => e = .returned (.bool (wyIs y)) ∧ Ext w w' := by
  have HE := Lib.hid ((Ext.refl w).alloc (.cells (wyC y) 39))
  obtain ⟨k, v, s, m⟩ := y
  rw [wyC_def] at HE ⊢
  rw [is_lit]
  by_cases h0 : 0 ≤ k <;> by_cases h1 : k < 3 <;> by_cases h2 : 0 ≤ v <;> by_cases h3 : v ≤ 1 <;> (first | (exfalso; omega) | (go_enter Tryd.func64, Tryd.ntmps64; go_wp2; go_ret; exact ⟨by simp [h0, h1, h2, h3], HE.out⟩))
set_option maxHeartbeats 1000000 in
theorem ris8_c (y : Wy) (w : World) :
    Calls Tryd.prog 15 #[.agg (wyC y)] w fun e w' => e = .returned (.bool (wyIs y)) ∧ Ext w w' := by
  have HE := Lib.hid ((Ext.refl w).alloc (.cells (wyC y) 39))
  obtain ⟨k, v, s, m⟩ := y
  have hi : wyIs ⟨k, v, s, m⟩ = ((k == 0 || (k == 1 || k == 2)) && (v == 0 || v == 1)) := by
    rw [is_lit, Bool.eq_iff_iff]; simp; omega
  rw [wyC_def] at HE ⊢
  rw [hi]
  clear hi
  rcases e0 : (k == 0) with _ | _ <;> rcases e1 : (k == 1) with _ | _ <;> rcases e2 : (k == 2) with _ | _ <;> rcases e3 : (v == 0) with _ | _ <;> (go_enter Tryd.func15, Tryd.ntmps15; go_wp2; go_ret; exact ⟨by simp_all, HE.out⟩)
end Go.Proofs.YthplkhkclhpobaaDoor
