/- All three laid tables (va's sizes, plru's touches, cause's causes), of a row's condition. -/
import Derived.Test.YtlhoedpencmikaaDoorGchart
import Derived.Test.YtlhoedpencmikaaDoorRows
namespace Go.Proofs.YtlhoedpencmikaaDoor
theorem layh_of_laid {W : World} (h : laidMetH Tryd.prog [("atlas/cause.causes", Rows.laid_atlas_cause_causes), ("atlas/plru.touches", Rows.laid_atlas_plru_touches), ("atlas/va.sizes", Rows.laid_atlas_va_sizes)] W) : Layh W := by
  have h1 : laidMet Tryd.prog [("atlas/cause.causes", Rows.laid_atlas_cause_causes), ("atlas/plru.touches", Rows.laid_atlas_plru_touches), ("atlas/va.sizes", Rows.laid_atlas_va_sizes)] W := h
  have hv := laid_at h1 (g := 1) (name := "atlas/va.sizes") (d := Rows.laid_atlas_va_sizes) (by simp) (t := 134) 4 (by kernel_rfl) (by kernel_rfl) (by kernel_rfl) (by simp [Rows.laid_atlas_va_sizes, flatD, flatDs])
  have e : (flatD (Rows.laid_atlas_va_sizes : DataW Unit)).toArray = #[.int .u64 4096, .int .u64 2097152, .int .u64 1073741824] := by simp [Rows.laid_atlas_va_sizes, flatD, flatDs]
  rw [e] at hv
  have hs : Siz W := ⟨hv.cell 0, hv.cell 1, hv.cell 2⟩
  exact ⟨⟨hs, laid_at h1 (g := 2) (name := "atlas/plru.touches") (d := Rows.laid_atlas_plru_touches) (by simp) (t := 139) 4 (by kernel_rfl) (by kernel_rfl) (by kernel_rfl) (by simp [Rows.laid_atlas_plru_touches, flatD, flatDs])⟩,
    ⟨hs, laid_at h1 (name := "atlas/cause.causes") (d := Rows.laid_atlas_cause_causes) (by simp) (t := 133) 4 (by kernel_rfl) (by kernel_rfl) (by kernel_rfl) (by simp [Rows.laid_atlas_cause_causes, flatD, flatDs]), trivial⟩⟩
end Go.Proofs.YtlhoedpencmikaaDoor
