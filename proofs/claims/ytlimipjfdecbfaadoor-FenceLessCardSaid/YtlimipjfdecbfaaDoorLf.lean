/- A leaf (api.Leaf): as values, held against one another, stored and loaded whole and by parts. Written by mkstruct2.py. -/
import Derived.Test.YtlimipjfdecbfaaDoorMid
import Derived.Test.YtlimipjfdecbfaaDoorPt
namespace Go.Proofs.YtlimipjfdecbfaaDoor
open Go.ChangeShapes Go.WideShapes Go.ChangeAt Go.RowKit Go.Joins Go.Deep
set_option linter.unusedVariables false
set_option linter.unusedSimpArgs false
set_option maxRecDepth 10000

structure Lf where
  lv : Int
  at' : Nat
  pt : Pt
deriving DecidableEq
def Lf.ok (p : Lf) : Prop := (-9223372036854775808 ≤ p.lv ∧ p.lv ≤ 9223372036854775807) ∧ p.at' < 18446744073709551616 ∧ p.pt.ok
def lfC (p : Lf) : Array Value := #[.int .i64 p.lv, .int .u64 (p.at' : Int)] ++ ptC p.pt
theorem lfC_def (lv : Int) (at' : Nat) (pt : Pt) : lfC ⟨lv, at', pt⟩ = #[.int .i64 lv, .int .u64 (at' : Int)] ++ ptC pt := rfl
theorem lfC_eq (p : Lf) : lfC p = #[.int .i64 p.lv, .int .u64 (p.at' : Int)] ++ ptC p.pt := rfl
theorem lfC_size (p : Lf) : (lfC p).size = 13 := by simp only [lfC_eq, ptC_eq]; rfl
theorem lfC_one (p : Lf) : (lfC p).all (·.oneCell') = true := by simp only [lfC_eq, ptC_eq]; simp [Value.oneCell']
theorem lfC_lv (p : Lf) : (lfC p)[0]? = some (.int .i64 p.lv) := by simp only [lfC_eq, ptC_eq]; rfl
theorem lfC_set_lv (p : Lf) (x : Int) : (lfC p).setIfInBounds 0 (.int .i64 x) = lfC { p with lv := x } := by simp only [lfC_eq, ptC_eq]; rfl
theorem lfC_at' (p : Lf) : (lfC p)[1]? = some (.int .u64 (p.at' : Int)) := by simp only [lfC_eq, ptC_eq]; rfl
theorem lfC_set_at' (p : Lf) (x : Nat) : (lfC p).setIfInBounds 1 (.int .u64 (x : Int)) = lfC { p with at' := x } := by simp only [lfC_eq, ptC_eq]; rfl
theorem lfC_pt (p : Lf) : (lfC p).extract 2 (2 + (ptC p.pt).size) = ptC p.pt := by rw [ptC_size]; simp only [lfC_eq, ptC_eq]; kernel_rfl
theorem lfC_set_pt (p : Lf) (q : Pt) : putAt (lfC p) 2 (ptC q).toList = lfC { p with pt := q } := by simp only [lfC_eq, ptC_eq]; kernel_rfl
theorem Blk.lf_lv {w : World} {g : Nat} {t : TypeId} {p : Lf} (h : Blk w g t (lfC p)) : w.cell? ⟨g, 0, none⟩ = some (.int .i64 p.lv) := (h.cell 0).trans (lfC_lv p)
theorem Blk.lf_at' {w : World} {g : Nat} {t : TypeId} {p : Lf} (h : Blk w g t (lfC p)) : w.cell? ⟨g, 1, none⟩ = some (.int .u64 (p.at' : Int)) := (h.cell 1).trans (lfC_at' p)
theorem Blk.lf_pt {w : World} {g : Nat} {t : TypeId} {p : Lf} (h : Blk w g t (lfC p)) : w.rangeAt g 2 (ptC p.pt).toList := h.part 2 (lfC_pt p)
attribute [irreducible] lfC

end Go.Proofs.YtlimipjfdecbfaaDoor
