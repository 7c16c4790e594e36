/- Package entry: Of, trimmed, May. -/
import Derived.Test.YtlimipjfdecbfaaDoorCtwel
namespace Go.Proofs.YtlimipjfdecbfaaDoor
open Go.ChangeShapes Go.WideShapes Go.ChangeAt Go.RowKit
set_option linter.unusedVariables false
set_option linter.unusedSimpArgs false
set_option maxRecDepth 10000

theorem lfC_7 (l : Lf) : (lfC l)[7]? = some (.bool l.pt.g) := by simp only [lfC_eq, ptC_eq]; rfl
theorem lfC_9 (l : Lf) : (lfC l)[9]? = some (.bool l.pt.d) := by simp only [lfC_eq, ptC_eq]; rfl
theorem lfC_11 (l : Lf) : (lfC l)[11]? = some (.int .u64 (l.pt.pp : Int)) := by simp only [lfC_eq, ptC_eq]; rfl
theorem nb_cast (a l : Int) : nbI a l = (((nbI a l).toNat : Nat) : Int) := by have := nb_lt a l; omega
theorem ofE_build (l : Lf) (a n : Nat) : Tryd.prog.built 28 [(0, .bool true), (1, .int .u64 (n : Int)), (2, .bool l.pt.g), (3, .int .i64 l.lv), (4, .int .u64 (((nbI a l.lv).toNat : Nat) : Int)), (5, .int .u64 (l.pt.pp : Int)), (6, .agg (pmC (permP l.pt))), (7, .bool l.pt.d)] = some (enC (ofE l a n)) := by
  unfold ofE
  exact en_build ⟨true, n, l.pt.g, l.lv, (nbI a l.lv).toNat, l.pt.pp, permP l.pt, l.pt.d⟩
def enN (p : En) (x : Nat) : En := { p with n := x }
def enVp (p : En) (x : Nat) : En := { p with vp := x }
def enPp (p : En) (x : Nat) : En := { p with pp := x }
theorem set_enN (p : En) (x : Nat) {y : Int} (h : y = (x : Int)) : (enC p).setIfInBounds 1 (.int .u64 y) = enC (enN p x) := by rw [h]; exact enC_set_n p x
theorem set_enVp (p : En) (x : Nat) {y : Int} (h : y = (x : Int)) : (enC p).setIfInBounds 4 (.int .u64 y) = enC (enVp p x) := by rw [h]; exact enC_set_vp p x
theorem set_enPp (p : En) (x : Nat) {y : Int} (h : y = (x : Int)) : (enC p).setIfInBounds 5 (.int .u64 y) = enC (enPp p x) := by rw [h]; exact enC_set_pp p x
theorem enN_at (p : En) (x : Nat) : (enN p x).l = p.l ∧ (enN p x).vp = p.vp ∧ (enN p x).pp = p.pp := ⟨rfl, rfl, rfl⟩
theorem enVp_at (p : En) (x : Nat) : (enVp p x).l = p.l ∧ (enVp p x).pp = p.pp := ⟨rfl, rfl⟩
theorem enPp_at (p : En) (x : Nat) : (enPp p x).l = p.l ∧ (enPp p x).pp = x := ⟨rfl, rfl⟩
theorem upE_eq (e : En) (n v p q : Nat) : enPp (enPp (enVp (enN e n) v) p) q = upE e n v q := by unfold upE enPp enVp enN; rfl
attribute [irreducible] enN enVp enPp
theorem e0_cells : enC e0 = #[.bool false, .int .u64 0, .bool false, .int .i64 0, .int .u64 0, .int .u64 0, .bool false, .bool false, .bool false, .bool false, .bool false] := by unfold e0; rw [enC_def, pmC_def]; rfl
theorem e0_build : Tryd.prog.built 28 [] = some (enC e0) := by rw [e0_cells]; kernel_rfl

end Go.Proofs.YtlimipjfdecbfaaDoor
