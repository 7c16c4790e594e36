/- The document's answers for layer 6 (package atlasref06): the same entries and numbers. -/
import Derived.Test.YtcllbidhjggjiaaDoorGpte
namespace Go.Proofs.YtcllbidhjggjiaaDoor
open Go.ChangeShapes Go.WideShapes Go.ChangeAt Go.RowKit
set_option linter.unusedVariables false
set_option linter.unusedSimpArgs false

theorem rmake_c (f : Nat) (m : Pm) (g : Bool) (w : World) :
    Calls Tryd.prog 35 #[.int .u64 (f : Int), .agg (pmC m), .bool g] w fun e w' => e = .returned (.agg (ptC (makeP f m g))) ∧ Ext w w' := by
  rw [pmC_eq, makeP_eq]
  go_enter Tryd.func35, Tryd.ntmps35
  go_wp2
  (try simp only [Exit.inBlock, Exit.then]); refine bodyPost_ret (results_cell_row rfl _ _ _ _ _ _ _ rfl ((blk_at (by simp))) Tryd.underlying53 rfl (by kernel_rfl)) rfl ?_
  exact ⟨rfl, ((Ext.refl w).alloc _).alloc _⟩
theorem rperm_c (p : Pt) (w : World) :
    Calls Tryd.prog 26 #[.agg (ptC p)] w fun e w' => e = .returned (.agg (pmC (permP p))) ∧ Ext w w' := by
  rw [ptC_eq, permP_eq]
  go_enter Tryd.func26, Tryd.ntmps26
  go_wp2
  refine bodyPost_ret (results_cell_row rfl _ _ _ _ _ _ _ rfl ((blk_at (by simp))) Tryd.underlying47 rfl (by kernel_rfl)) rfl ?_
  exact ⟨rfl, ((Ext.refl w).alloc _).alloc _⟩
theorem rmay_c (p : Pt) (w : World) :
    Calls Tryd.prog 27 #[.agg (ptC p)] w fun e w' => e = .returned (.bool (mayB p)) ∧ Ext w w' := by
  have HE := Lib.hid ((Ext.refl w).alloc (.cells (ptC p) 53))
  rw [ptC_eq] at HE ⊢
  have H : Hid (mayB p = (decide ((p.rs : Int) < 4) && decide ((p.pp : Int) < 17592186044416) && decide ((p.hi : Int) < 1024))) := Lib.hid (by
    unfold mayB
    rw [Bool.eq_iff_iff]; simp; omega)
  cases h3 : decide ((p.rs : Int) < 4) <;> cases h4 : decide ((p.pp : Int) < 17592186044416) <;> cases h5 : decide ((p.hi : Int) < 1024)
  all_goals
    rw [h3, h4, h5] at H
    go_enter Tryd.func27, Tryd.ntmps27
    go_wp2
    go_ret
    exact ⟨by rw [H.out]; rfl, HE.out⟩
theorem rleaf_c (p : Pt) (w : World) :
    Calls Tryd.prog 54 #[.agg (ptC p)] w fun e w' => e = .returned (.bool (leafB p)) ∧ Ext w w' := by
  have HE := Lib.hid ((Ext.refl w).alloc (.cells (ptC p) 53))
  rw [ptC_eq] at HE ⊢
  have H : Hid (leafB p = (p.v && (p.r || p.x))) := Lib.hid (by unfold leafB; rfl)
  cases hv : p.v <;> cases hr : p.r
  all_goals
    rw [hv, hr] at HE H
    go_enter Tryd.func54, Tryd.ntmps54
    go_wp2
    go_ret
    exact ⟨by rw [H.out]; rfl, HE.out⟩
theorem link_leaf (p : Pt) : linkB p = (p.v && !leafB p) := by
  unfold linkB leafB; cases p.v <;> cases p.r <;> cases p.x <;> rfl
theorem rlink_c (p : Pt) (w : World) :
    Calls Tryd.prog 28 #[.agg (ptC p)] w fun e w' => e = .returned (.bool (linkB p)) ∧ Ext w w' := by
  have HE := Lib.hid ((Ext.refl w).alloc (.cells (ptC p) 53))
  have hleaf := rleaf_c p
  rw [ptC_eq] at HE hleaf ⊢
  have H := Lib.hid (link_leaf p)
  cases hv : p.v
  · rw [hv] at HE H
    clear hleaf
    go_enter Tryd.func28, Tryd.ntmps28
    go_wp2
    go_ret
    exact ⟨by rw [H.out]; rfl, HE.out⟩
  · rw [hv] at HE H hleaf
    go_enter Tryd.func28, Tryd.ntmps28
    go_wp2_with fail; refine (hleaf _).mono ?_; rintro e w1 ⟨rfl, hE⟩; replace HE := Lib.hid (HE.out.trans hE)
    clear hE hleaf
    go_wp2
    go_ret
    exact ⟨by rw [H.out]; rfl, HE.out⟩
theorem getP_eq2 {x : Nat} (hx : x < 18446744073709551616) : ptC (getP x) = #[.bool (bitB x 0), .bool (bitB x 1), .bool (bitB x 2), .bool (bitB x 3), .bool (bitB x 4), .bool (bitB x 5), .bool (bitB x 6), .bool (bitB x 7), .int .u64 ((x : Int) / 256 % 4), .int .u64 ((x : Int) / 1024 % 17592186044416), .int .u64 ((x : Int) / 18014398509481984)] := by
  rw [getP_eq hx]
  have g0 : getI (x : Int) 8 2 = ((x / 256 % 4 : Nat) : Int) := (getI_nat x 8 2).trans (by rw [get8])
  have g1 : getI (x : Int) 10 44 = ((x / 1024 % 17592186044416 : Nat) : Int) := (getI_nat x 10 44).trans (by rw [get10])
  have g2 : getI (x : Int) 54 10 = ((x / 18014398509481984 : Nat) : Int) := (getI_nat x 54 10).trans (by rw [get54 hx])
  rw [g0, g1, g2]
  rfl
theorem rget_pte (x : Nat) (hx : x < 18446744073709551616) (w : World) :
    Calls Tryd.prog 80 #[.int .u64 (x : Int)] w fun e w' => e = .returned (.agg (ptC (getP x))) ∧ Ext w w' := by
  rw [getP_eq2 hx]
  go_enter Tryd.func80, Tryd.ntmps80
  go_wp2_with (go_at_call 39; refine (bit_c _ _ (by omega) (by omega) _).mono ?_; rintro e w' ⟨rfl, rfl⟩)
  refine bodyPost_ret (results_cell_row rfl _ _ _ _ _ _ _ rfl ((blk_at (by simp))) Tryd.underlying53 rfl (by kernel_rfl)) rfl ?_
  exact ⟨rfl, (Ext.refl w).alloc _⟩
end Go.Proofs.YtcllbidhjggjiaaDoor
/- The document's answers for layer 6: Put, Bad. -/
namespace Go.Proofs.YtcllbidhjggjiaaDoor
open Go.ChangeShapes Go.WideShapes Go.ChangeAt Go.RowKit
set_option linter.unusedVariables false
set_option linter.unusedSimpArgs false

def rowC (f : Nat → Bool) : Array Value := #[.bool (f 0), .bool (f 1), .bool (f 2), .bool (f 3), .bool (f 4), .bool (f 5), .bool (f 6), .bool (f 7)]
theorem rowC_at (f : Nat → Bool) {k : Nat} (h : k < 8) : (rowC f)[k]? = some (.bool (f k)) := by
  match k, h with
  | 0, _ | 1, _ | 2, _ | 3, _ | 4, _ | 5, _ | 6, _ | 7, _ => rfl
theorem lv0 (p : Nat) : (!decide (p % manyN 0 = 0)) = false := by rw [show manyN 0 = 1 from rfl, Nat.mod_one]; rfl
theorem lv1 (p : Nat) : (!decide (p % manyN 1 = 0)) = decide ((0 : Int) < (p : Int) % 512) := by
  rw [show manyN 1 = 512 from rfl, Bool.eq_iff_iff, Bool.not_eq_true', decide_eq_false_iff_not, decide_eq_true_iff]; omega
theorem lv2 (p : Nat) : (!decide (p % manyN 2 = 0)) = decide ((0 : Int) < (p : Int) % 262144) := by
  rw [show manyN 2 = 262144 from rfl, Bool.eq_iff_iff, Bool.not_eq_true', decide_eq_false_iff_not, decide_eq_true_iff]; omega
theorem bad_eq' (p : Pt) (l : Int) : badB p l = ((!p.v) || (p.w && !p.r) || !decide (p.hi = 0) || (if p.r || p.x then !decide (p.pp % manyN l = 0) else (l == 0) || p.a || p.d || p.u)) := by unfold badB; rfl
set_option maxRecDepth 100000 in
set_option maxHeartbeats 2000000 in
theorem rbad_c (p : Pt) (l : Int) (l0 : 0 ≤ l) (l2 : l ≤ 2) (w : World) :
    Calls Tryd.prog 36 #[.agg (ptC p), .int .i64 l] w fun e w' => e = .returned (.bool (badB p l)) ∧ Ext w w' := by
  have HE := Lib.hid ((Ext.refl w).alloc (.cells (ptC p) 53))
  have H := Lib.hid (bad_eq' p l)
  rw [ptC_eq] at HE ⊢
  cases hv : p.v
  case false =>
    rw [hv] at HE H
    go_enter Tryd.func36, Tryd.ntmps36
    go_wp2
    go_ret
    exact ⟨by rw [H.out]; rfl, HE.out⟩
  cases hw : p.w <;> cases hr : p.r <;> cases hh : decide (0 < p.hi)
  all_goals
    have hh2 : (!decide (p.hi = 0)) = decide (0 < p.hi) := by rw [Bool.eq_iff_iff]; simp; omega
    rw [hh2, hh] at H
    clear hh2
    rw [hv, hw, hr] at HE H
    try
      go_enter Tryd.func36, Tryd.ntmps36
      go_wp2
      go_ret
      exact ⟨by rw [H.out]; rfl, HE.out⟩
      done
  · cases hx : p.x
    · rw [hx] at HE H
      cases h0 : (l == 0) <;> cases ha : p.a <;> cases hd : p.d
      all_goals
        rw [h0, ha, hd] at H
        rw [ha, hd] at HE
        go_enter Tryd.func36, Tryd.ntmps36
        go_wp2
        go_ret
        exact ⟨by rw [H.out]; rfl, HE.out⟩
    · rw [hx] at HE H
      rcases level_lt l0 l2 with rfl | rfl | rfl
      all_goals
        go_enter Tryd.func36, Tryd.ntmps36
        go_wp2
        go_ret
        exact ⟨congrArg (fun b => Ending.returned (.bool b)) (H.out.trans (by (first | rw [lv0] | rw [lv1] | rw [lv2]); rfl)).symm, HE.out⟩
  all_goals
    rcases level_lt l0 l2 with rfl | rfl | rfl
    all_goals
      go_enter Tryd.func36, Tryd.ntmps36
      go_wp2
      go_ret
      exact ⟨congrArg (fun b => Ending.returned (.bool b)) (H.out.trans (by (first | rw [lv0] | rw [lv1] | rw [lv2]); rfl)).symm, HE.out⟩
end Go.Proofs.YtcllbidhjggjiaaDoor
