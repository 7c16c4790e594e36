/- Both laid tables (va's sizes, plru's touches), of a row's condition. -/
import Derived.Test.YtdbflmceomnmlaaDoorCthir
import Derived.Test.YtdbflmceomnmlaaDoorRows
namespace Go.Proofs.YtdbflmceomnmlaaDoor
theorem lays_of_laid {W : World} (h : laidMetH Tryd.prog [("atlas/plru.touches", Rows.laid_atlas_plru_touches), ("atlas/va.sizes", Rows.laid_atlas_va_sizes)] W) : Lays W := by
  have h1 : laidMet Tryd.prog [("atlas/plru.touches", Rows.laid_atlas_plru_touches), ("atlas/va.sizes", Rows.laid_atlas_va_sizes)] W := h
  have hv := laid_at h1 (g := 1) (name := "atlas/va.sizes") (d := Rows.laid_atlas_va_sizes) (by simp) (t := 98) 4 (by kernel_rfl) (by kernel_rfl) (by kernel_rfl) (by simp [Rows.laid_atlas_va_sizes, flatD, flatDs])
  have e : (flatD (Rows.laid_atlas_va_sizes : DataW Unit)).toArray = #[.int .u64 4096, .int .u64 2097152, .int .u64 1073741824] := by simp [Rows.laid_atlas_va_sizes, flatD, flatDs]
  rw [e] at hv
  exact ⟨⟨hv.cell 0, hv.cell 1, hv.cell 2⟩,
    laid_at h1 (g := 0) (name := "atlas/plru.touches") (d := Rows.laid_atlas_plru_touches) (by simp) (t := 95) 4 (by kernel_rfl) (by kernel_rfl) (by kernel_rfl) (by simp [Rows.laid_atlas_plru_touches, flatD, flatDs])⟩
end Go.Proofs.YtdbflmceomnmlaaDoor
