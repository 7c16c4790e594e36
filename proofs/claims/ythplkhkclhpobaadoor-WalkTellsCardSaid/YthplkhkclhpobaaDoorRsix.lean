/- The document's answers for layer 6 (package atlasref06): the same entries and numbers. -/
import Derived.Test.YthplkhkclhpobaaDoorGpte
namespace Go.Proofs.YthplkhkclhpobaaDoor
open Go.ChangeShapes Go.WideShapes Go.ChangeAt Go.RowKit
set_option linter.unusedVariables false
set_option linter.unusedSimpArgs false

theorem rperm_c (p : Pt) (w : World) :
    Calls Tryd.prog 24 #[.agg (ptC p)] w fun e w' => e = .returned (.agg (pmC (permP p))) ∧ Ext w w' := by
  rw [ptC_eq, permP_eq]
  go_enter Tryd.func24, Tryd.ntmps24
  go_wp2
  (try simp only [Exit.inBlock, Exit.then]); refine bodyPost_ret (results_cell_row rfl _ _ _ _ _ _ _ rfl ((blk_at (by simp))) Tryd.underlying51 rfl (by kernel_rfl)) rfl ?_
  exact ⟨rfl, ((Ext.refl w).alloc _).alloc _⟩
theorem rleaf_c (p : Pt) (w : World) :
    Calls Tryd.prog 75 #[.agg (ptC p)] w fun e w' => e = .returned (.bool (leafB p)) ∧ Ext w w' := by
  have HE := Lib.hid ((Ext.refl w).alloc (.cells (ptC p) 29))
  rw [ptC_eq] at HE ⊢
  have H : Hid (leafB p = (p.v && (p.r || p.x))) := Lib.hid (by unfold leafB; rfl)
  cases hv : p.v <;> cases hr : p.r
  all_goals
    rw [hv, hr] at HE H
    go_enter Tryd.func75, Tryd.ntmps75
    go_wp2
    go_ret
    exact ⟨by rw [H.out]; rfl, HE.out⟩
theorem link_leaf (p : Pt) : linkB p = (p.v && !leafB p) := by
  unfold linkB leafB; cases p.v <;> cases p.r <;> cases p.x <;> rfl
theorem rlink_c (p : Pt) (w : World) :
    Calls Tryd.prog 63 #[.agg (ptC p)] w fun e w' => e = .returned (.bool (linkB p)) ∧ Ext w w' := by
  have HE := Lib.hid ((Ext.refl w).alloc (.cells (ptC p) 29))
  have hleaf := rleaf_c p
  rw [ptC_eq] at HE hleaf ⊢
  have H := Lib.hid (link_leaf p)
  cases hv : p.v
  · rw [hv] at HE H
    clear hleaf
    go_enter Tryd.func63, Tryd.ntmps63
    go_wp2
    go_ret
    exact ⟨by rw [H.out]; rfl, HE.out⟩
  · rw [hv] at HE H hleaf
    go_enter Tryd.func63, Tryd.ntmps63
    go_wp2_with fail; refine (hleaf _).mono ?_; rintro e w1 ⟨rfl, hE⟩; replace HE := Lib.hid (HE.out.trans hE)
    clear hE hleaf
    go_wp2
    go_ret
    exact ⟨by rw [H.out]; rfl, HE.out⟩
theorem getP_eq2 {x : Nat} (hx : x < 18446744073709551616) : ptC (getP x) = #[.bool (bitB x 0), .bool (bitB x 1), .bool (bitB x 2), .bool (bitB x 3), .bool (bitB x 4), .bool (bitB x 5), .bool (bitB x 6), .bool (bitB x 7), .int .u64 ((x : Int) / 256 % 4), .int .u64 ((x : Int) / 1024 % 17592186044416), .int .u64 ((x : Int) / 18014398509481984)] := by
  rw [getP_eq hx]
  have g0 : getI (x : Int) 8 2 = ((x / 256 % 4 : Nat) : Int) := (getI_nat x 8 2).trans (by rw [get8])
  have g1 : getI (x : Int) 10 44 = ((x / 1024 % 17592186044416 : Nat) : Int) := (getI_nat x 10 44).trans (by rw [get10])
  have g2 : getI (x : Int) 54 10 = ((x / 18014398509481984 : Nat) : Int) := (getI_nat x 54 10).trans (by rw [get54 hx])
  rw [g0, g1, g2]
  rfl
theorem rget_pte (x : Nat) (hx : x < 18446744073709551616) (w : World) :
    Calls Tryd.prog 61 #[.int .u64 (x : Int)] w fun e w' => e = .returned (.agg (ptC (getP x))) ∧ Ext w w' := by
  rw [getP_eq2 hx]
  go_enter Tryd.func61, Tryd.ntmps61
  go_wp2_with (go_at_call 74; refine (bit_c _ _ (by omega) (by omega) _).mono ?_; rintro e w' ⟨rfl, rfl⟩)
  (try simp only [Exit.inBlock, Exit.then]); refine bodyPost_ret (results_cell_row rfl _ _ _ _ _ _ _ rfl ((blk_at (by simp))) Tryd.underlying29 rfl (by kernel_rfl)) rfl ?_
  exact ⟨rfl, (Ext.refl w).alloc _⟩
end Go.Proofs.YthplkhkclhpobaaDoor
