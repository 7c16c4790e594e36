/- The document's answers for layer 6 (package atlasref06): the same entries and numbers. -/
import Derived.Test.YtlhoedpencmikaaGreatDoorGpte
namespace Go.Proofs.YtlhoedpencmikaaGreatDoor
open Go.ChangeShapes Go.WideShapes Go.ChangeAt Go.RowKit
set_option linter.unusedVariables false
set_option linter.unusedSimpArgs false

theorem rperm_c (p : Pt) (w : World) :
    Calls Tryz.prog 38 #[.agg (ptC p)] w fun e w' => e = .returned (.agg (pmC (permP p))) ∧ Ext w w' := by
  rw [ptC_eq, permP_eq]
  go_enter Tryz.func38, Tryz.ntmps38
  go_wp2
  refine bodyPost_ret (results_cell_row rfl _ _ _ _ _ _ _ rfl ((blk_at (by simp))) Tryz.underlying64 rfl (by kernel_rfl)) rfl ?_
  exact ⟨rfl, ((Ext.refl w).alloc _).alloc _⟩
theorem rleaf_c (p : Pt) (w : World) :
    Calls Tryz.prog 146 #[.agg (ptC p)] w fun e w' => e = .returned (.bool (leafB p)) ∧ Ext w w' := by
  have HE := Lib.hid ((Ext.refl w).alloc (.cells (ptC p) 73))
  rw [ptC_eq] at HE ⊢
  have H : Hid (leafB p = (p.v && (p.r || p.x))) := Lib.hid (by unfold leafB; rfl)
  cases hv : p.v <;> cases hr : p.r
  all_goals
    rw [hv, hr] at HE H
    go_enter Tryz.func146, Tryz.ntmps146
    go_wp2
    go_ret
    exact ⟨by rw [H.out]; rfl, HE.out⟩
theorem link_leaf (p : Pt) : linkB p = (p.v && !leafB p) := by
  unfold linkB leafB; cases p.v <;> cases p.r <;> cases p.x <;> rfl
theorem rlink_c (p : Pt) (w : World) :
    Calls Tryz.prog 109 #[.agg (ptC p)] w fun e w' => e = .returned (.bool (linkB p)) ∧ Ext w w' := by
  have HE := Lib.hid ((Ext.refl w).alloc (.cells (ptC p) 73))
  have hleaf := rleaf_c p
  rw [ptC_eq] at HE hleaf ⊢
  have H := Lib.hid (link_leaf p)
  cases hv : p.v
  · rw [hv] at HE H
    clear hleaf
    go_enter Tryz.func109, Tryz.ntmps109
    go_wp2
    go_ret
    exact ⟨by rw [H.out]; rfl, HE.out⟩
  · rw [hv] at HE H hleaf
    go_enter Tryz.func109, Tryz.ntmps109
    go_wp2_with fail; refine (hleaf _).mono ?_; rintro e w1 ⟨rfl, hE⟩; replace HE := Lib.hid (HE.out.trans hE)
    clear hE hleaf
    go_wp2
    go_ret
    exact ⟨by rw [H.out]; rfl, HE.out⟩
theorem getP_eq2 {x : Nat} (hx : x < 18446744073709551616) : ptC (getP x) = #[.bool (bitB x 0), .bool (bitB x 1), .bool (bitB x 2), .bool (bitB x 3), .bool (bitB x 4), .bool (bitB x 5), .bool (bitB x 6), .bool (bitB x 7), .int .u64 ((x : Int) / 256 % 4), .int .u64 ((x : Int) / 1024 % 17592186044416), .int .u64 ((x : Int) / 18014398509481984)] := by
  rw [getP_eq hx]
  have g0 : getI (x : Int) 8 2 = ((x / 256 % 4 : Nat) : Int) := (getI_nat x 8 2).trans (by rw [get8])
  have g1 : getI (x : Int) 10 44 = ((x / 1024 % 17592186044416 : Nat) : Int) := (getI_nat x 10 44).trans (by rw [get10])
  have g2 : getI (x : Int) 54 10 = ((x / 18014398509481984 : Nat) : Int) := (getI_nat x 54 10).trans (by rw [get54 hx])
  rw [g0, g1, g2]
  rfl
theorem rget_pte (x : Nat) (hx : x < 18446744073709551616) (w : World) :
    Calls Tryz.prog 107 #[.int .u64 (x : Int)] w fun e w' => e = .returned (.agg (ptC (getP x))) ∧ Ext w w' := by
  rw [getP_eq2 hx]
  go_enter Tryz.func107, Tryz.ntmps107
  go_wp2_with (go_at_call 115; refine (bit_c _ _ (by omega) (by omega) _).mono ?_; rintro e w' ⟨rfl, rfl⟩)
  refine bodyPost_ret (results_cell_row rfl _ _ _ _ _ _ _ rfl ((blk_at (by simp))) Tryz.underlying73 rfl (by kernel_rfl)) rfl ?_
  exact ⟨rfl, (Ext.refl w).alloc _⟩
end Go.Proofs.YtlhoedpencmikaaGreatDoor
/- The document's answers for layer 6: Put, Bad. -/
namespace Go.Proofs.YtlhoedpencmikaaGreatDoor
open Go.ChangeShapes Go.WideShapes Go.ChangeAt Go.RowKit
set_option linter.unusedVariables false
set_option linter.unusedSimpArgs false

theorem lv0 (p : Nat) : (!decide (p % manyN 0 = 0)) = false := by rw [show manyN 0 = 1 from rfl, Nat.mod_one]; rfl
theorem lv1 (p : Nat) : (!decide (p % manyN 1 = 0)) = decide ((0 : Int) < (p : Int) % 512) := by
  rw [show manyN 1 = 512 from rfl, Bool.eq_iff_iff, Bool.not_eq_true', decide_eq_false_iff_not, decide_eq_true_iff]; omega
theorem lv2 (p : Nat) : (!decide (p % manyN 2 = 0)) = decide ((0 : Int) < (p : Int) % 262144) := by
  rw [show manyN 2 = 262144 from rfl, Bool.eq_iff_iff, Bool.not_eq_true', decide_eq_false_iff_not, decide_eq_true_iff]; omega
theorem bad_eq' (p : Pt) (l : Int) : badB p l = ((!p.v) || (p.w && !p.r) || !decide (p.hi = 0) || (if p.r || p.x then !decide (p.pp % manyN l = 0) else (l == 0) || p.a || p.d || p.u)) := by unfold badB; rfl
set_option maxRecDepth 100000 in
set_option maxHeartbeats 2000000 in
theorem rbad_c (p : Pt) (l : Int) (l0 : 0 ≤ l) (l2 : l ≤ 2) (w : World) :
    Calls Tryz.prog 108 #[.agg (ptC p), .int .i64 l] w fun e w' => e = .returned (.bool (badB p l)) ∧ Ext w w' := by
  have HE := Lib.hid ((Ext.refl w).alloc (.cells (ptC p) 73))
  have H := Lib.hid (bad_eq' p l)
  rw [ptC_eq] at HE ⊢
  cases hv : p.v
  case false =>
    rw [hv] at HE H
    go_enter Tryz.func108, Tryz.ntmps108
    go_wp2
    go_ret
    exact ⟨by rw [H.out]; rfl, HE.out⟩
  cases hw : p.w <;> cases hr : p.r <;> cases hh : decide (0 < p.hi)
  all_goals
    have hh2 : (!decide (p.hi = 0)) = decide (0 < p.hi) := by rw [Bool.eq_iff_iff]; simp; omega
    rw [hh2, hh] at H
    clear hh2
    rw [hv, hw, hr] at HE H
    try
      go_enter Tryz.func108, Tryz.ntmps108
      go_wp2
      go_ret
      exact ⟨by rw [H.out]; rfl, HE.out⟩
      done
  · cases hx : p.x
    · rw [hx] at HE H
      cases h0 : (l == 0) <;> cases ha : p.a <;> cases hd : p.d
      all_goals
        rw [h0, ha, hd] at H
        rw [ha, hd] at HE
        go_enter Tryz.func108, Tryz.ntmps108
        go_wp2
        go_ret
        exact ⟨by rw [H.out]; rfl, HE.out⟩
    · rw [hx] at HE H
      rcases level_lt l0 l2 with rfl | rfl | rfl
      all_goals
        go_enter Tryz.func108, Tryz.ntmps108
        go_wp2
        go_ret
        exact ⟨congrArg (fun b => Ending.returned (.bool b)) (H.out.trans (by (first | rw [lv0] | rw [lv1] | rw [lv2]); rfl)).symm, HE.out⟩
  all_goals
    rcases level_lt l0 l2 with rfl | rfl | rfl
    all_goals
      go_enter Tryz.func108, Tryz.ntmps108
      go_wp2
      go_ret
      exact ⟨congrArg (fun b => Ending.returned (.bool b)) (H.out.trans (by (first | rw [lv0] | rw [lv1] | rw [lv2]); rfl)).symm, HE.out⟩
end Go.Proofs.YtlhoedpencmikaaGreatDoor
