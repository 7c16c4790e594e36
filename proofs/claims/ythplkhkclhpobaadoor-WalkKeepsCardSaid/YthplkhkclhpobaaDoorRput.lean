/- The document's answers for layer 6: Put, Bad. -/
import Derived.Test.YthplkhkclhpobaaDoorGpte
namespace Go.Proofs.YthplkhkclhpobaaDoor
open Go.ChangeShapes Go.WideShapes Go.ChangeAt Go.RowKit
set_option linter.unusedVariables false
set_option linter.unusedSimpArgs false

def rowC (f : Nat → Bool) : Array Value := #[.bool (f 0), .bool (f 1), .bool (f 2), .bool (f 3), .bool (f 4), .bool (f 5), .bool (f 6), .bool (f 7)]
theorem rowC_at (f : Nat → Bool) {k : Nat} (h : k < 8) : (rowC f)[k]? = some (.bool (f k)) := by
  match k, h with
  | 0, _ | 1, _ | 2, _ | 3, _ | 4, _ | 5, _ | 6, _ | 7, _ => rfl
theorem lv0 (p : Nat) : (!decide (p % manyN 0 = 0)) = false := by rw [show manyN 0 = 1 from rfl, Nat.mod_one]; rfl
theorem lv1 (p : Nat) : (!decide (p % manyN 1 = 0)) = decide ((0 : Int) < (p : Int) % 512) := by
  rw [show manyN 1 = 512 from rfl, Bool.eq_iff_iff, Bool.not_eq_true', decide_eq_false_iff_not, decide_eq_true_iff]; omega
theorem lv2 (p : Nat) : (!decide (p % manyN 2 = 0)) = decide ((0 : Int) < (p : Int) % 262144) := by
  rw [show manyN 2 = 262144 from rfl, Bool.eq_iff_iff, Bool.not_eq_true', decide_eq_false_iff_not, decide_eq_true_iff]; omega
theorem bad_eq' (p : Pt) (l : Int) : badB p l = ((!p.v) || (p.w && !p.r) || !decide (p.hi = 0) || (if p.r || p.x then !decide (p.pp % manyN l = 0) else (l == 0) || p.a || p.d || p.u)) := by unfold badB; rfl
set_option maxRecDepth 100000 in
set_option maxHeartbeats 2000000 in
theorem rbad_c (p : Pt) (l : Int) (l0 : 0 ≤ l) (l2 : l ≤ 2) (w : World) :
    Calls Tryd.prog 62 #[.agg (ptC p), .int .i64 l] w fun e w' => e = .returned (.bool (badB p l)) ∧ Ext w w' := by
  have HE := Lib.hid ((Ext.refl w).alloc (.cells (ptC p) 29))
  have H := Lib.hid (bad_eq' p l)
  rw [ptC_eq] at HE ⊢
  cases hv : p.v
  case false =>
    rw [hv] at HE H
    go_enter Tryd.func62, Tryd.ntmps62
    go_wp2
    go_ret
    exact ⟨by rw [H.out]; rfl, HE.out⟩
  cases hw : p.w <;> cases hr : p.r <;> cases hh : decide (0 < p.hi)
  all_goals
    have hh2 : (!decide (p.hi = 0)) = decide (0 < p.hi) := by rw [Bool.eq_iff_iff]; simp; omega
    rw [hh2, hh] at H
    clear hh2
    rw [hv, hw, hr] at HE H
    try
      go_enter Tryd.func62, Tryd.ntmps62
      go_wp2
      go_ret
      exact ⟨by rw [H.out]; rfl, HE.out⟩
      done
  · cases hx : p.x
    · rw [hx] at HE H
      cases h0 : (l == 0) <;> cases ha : p.a <;> cases hd : p.d
      all_goals
        rw [h0, ha, hd] at H
        rw [ha, hd] at HE
        go_enter Tryd.func62, Tryd.ntmps62
        go_wp2
        go_ret
        exact ⟨by rw [H.out]; rfl, HE.out⟩
    · rw [hx] at HE H
      rcases level_lt l0 l2 with rfl | rfl | rfl
      all_goals
        go_enter Tryd.func62, Tryd.ntmps62
        go_wp2
        go_ret
        exact ⟨congrArg (fun b => Ending.returned (.bool b)) (H.out.trans (by (first | rw [lv0] | rw [lv1] | rw [lv2]); rfl)).symm, HE.out⟩
  all_goals
    rcases level_lt l0 l2 with rfl | rfl | rfl
    all_goals
      go_enter Tryd.func62, Tryd.ntmps62
      go_wp2
      go_ret
      exact ⟨congrArg (fun b => Ending.returned (.bool b)) (H.out.trans (by (first | rw [lv0] | rw [lv1] | rw [lv2]); rfl)).symm, HE.out⟩
end Go.Proofs.YthplkhkclhpobaaDoor
