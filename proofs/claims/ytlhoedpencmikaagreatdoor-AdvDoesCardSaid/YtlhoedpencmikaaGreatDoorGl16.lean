/- All three laid tables (va's sizes, plru's touches, cause's causes), of a row's condition. -/
import Derived.Test.YtlhoedpencmikaaGreatDoorGchart
import Derived.Test.YtlhoedpencmikaaGreatDoorRows
import Derived.Test.YtlhoedpencmikaaGreatDoorLaw16a
import Derived.Test.YtlhoedpencmikaaGreatDoorGax
import Derived.Test.YtlhoedpencmikaaGreatDoorMhartg
import Derived.Test.YtlhoedpencmikaaGreatDoorGagg
namespace Go.Proofs.YtlhoedpencmikaaGreatDoor
theorem layh_of_laid {W : World} (h : laidMetH Tryz.prog [("atlas/cause.causes", Rows.laid_atlas_cause_causes), ("atlas/plru.touches", Rows.laid_atlas_plru_touches), ("atlas/va.sizes", Rows.laid_atlas_va_sizes)] W) : Layh W := by
  have h1 : laidMet Tryz.prog [("atlas/cause.causes", Rows.laid_atlas_cause_causes), ("atlas/plru.touches", Rows.laid_atlas_plru_touches), ("atlas/va.sizes", Rows.laid_atlas_va_sizes)] W := h
  have hv := laid_at h1 (g := 1) (name := "atlas/va.sizes") (d := Rows.laid_atlas_va_sizes) (by simp) (t := 183) 4 (by kernel_rfl) (by kernel_rfl) (by kernel_rfl) (by simp [Rows.laid_atlas_va_sizes, flatD, flatDs])
  have e : (flatD (Rows.laid_atlas_va_sizes : DataW Unit)).toArray = #[.int .u64 4096, .int .u64 2097152, .int .u64 1073741824] := by simp [Rows.laid_atlas_va_sizes, flatD, flatDs]
  rw [e] at hv
  have hs : Siz W := ⟨hv.cell 0, hv.cell 1, hv.cell 2⟩
  exact ⟨⟨hs, laid_at h1 (g := 2) (name := "atlas/plru.touches") (d := Rows.laid_atlas_plru_touches) (by simp) (t := 188) 4 (by kernel_rfl) (by kernel_rfl) (by kernel_rfl) (by simp [Rows.laid_atlas_plru_touches, flatD, flatDs])⟩,
    ⟨hs, laid_at h1 (name := "atlas/cause.causes") (d := Rows.laid_atlas_cause_causes) (by simp) (t := 178) 4 (by kernel_rfl) (by kernel_rfl) (by kernel_rfl) (by simp [Rows.laid_atlas_cause_causes, flatD, flatDs]), trivial⟩⟩
end Go.Proofs.YtlhoedpencmikaaGreatDoor
/- Layer 16's laws: what they share (harts that calls answer are in order; a hart without sets). -/
namespace Go.Proofs.YtlhoedpencmikaaGreatDoor
open Go.ChangeShapes Go.WideShapes Go.ChangeAt Go.RowKit
set_option linter.unusedVariables false
set_option linter.unusedSimpArgs false
set_option maxRecDepth 10000

theorem may_ok {e : En} (h : mayE e = true) : e.ok := by
  unfold mayE at h
  unfold En.ok Pm.ok
  split at h
  · rw [decide_eq_true_iff] at h
    exact ⟨by omega, by omega, by omega, by omega, trivial⟩
  · rw [decide_eq_true_iff] at h
    subst h
    unfold e0
    simp
theorem rt_ok {L : List St} (h : rightT L = true) {i : Nat} (hi : i < L.length) : (sT L i).ok :=
  ⟨⟨may_ok (rt_may h hi (w := 0) (by decide)), may_ok (rt_may h hi (w := 1) (by decide)), may_ok (rt_may h hi (w := 2) (by decide)), may_ok (rt_may h hi (w := 3) (by decide))⟩, by have := right_t (rt_s h hi); omega⟩
theorem sm_on {p : Sp} (h : smB p = true) : p.md = 0 ∨ p.md = 8 := by
  unfold smB at h
  by_cases h0 : p.md = 0
  · exact .inl h0
  · rw [if_neg h0] at h
    simp only [Bool.and_eq_true, decide_eq_true_iff] at h
    exact .inr h.1.1
/-- three boxes made and stored into, in a row -/
theorem nh3 (w : World) (H Mc R : Array Value) : Blk (((w.alloc (.cells #[.slice none 0 0, .int .u64 0, .int .u64 0, .int .u64 0, .int .i64 0, .bool false, .bool false, .int .i64 0] 29)).alloc (.cells #[.int .u64 0, .slice none 0 0] 32)).alloc (.cells #[.int .u64 0, .bool false, .int .i64 0, .int .u64 0] 56)) w.heap.size 29 #[.slice none 0 0, .int .u64 0, .int .u64 0, .int .u64 0, .int .i64 0, .bool false, .bool false, .int .i64 0] ∧ Blk ((((w.alloc (.cells #[.slice none 0 0, .int .u64 0, .int .u64 0, .int .u64 0, .int .i64 0, .bool false, .bool false, .int .i64 0] 29)).alloc (.cells #[.int .u64 0, .slice none 0 0] 32)).alloc (.cells #[.int .u64 0, .bool false, .int .i64 0, .int .u64 0] 56)).setRow w.heap.size H) (w.heap.size + 1) 32 #[.int .u64 0, .slice none 0 0] ∧ Blk (((((w.alloc (.cells #[.slice none 0 0, .int .u64 0, .int .u64 0, .int .u64 0, .int .i64 0, .bool false, .bool false, .int .i64 0] 29)).alloc (.cells #[.int .u64 0, .slice none 0 0] 32)).alloc (.cells #[.int .u64 0, .bool false, .int .i64 0, .int .u64 0] 56)).setRow w.heap.size H).setRow (w.heap.size + 1) Mc) (w.heap.size + 1 + 1) 56 #[.int .u64 0, .bool false, .int .i64 0, .int .u64 0] ∧
    Ext w ((((((w.alloc (.cells #[.slice none 0 0, .int .u64 0, .int .u64 0, .int .u64 0, .int .i64 0, .bool false, .bool false, .int .i64 0] 29)).alloc (.cells #[.int .u64 0, .slice none 0 0] 32)).alloc (.cells #[.int .u64 0, .bool false, .int .i64 0, .int .u64 0] 56)).setRow w.heap.size H).setRow (w.heap.size + 1) Mc).setRow (w.heap.size + 1 + 1) R) ∧ Blk ((((((w.alloc (.cells #[.slice none 0 0, .int .u64 0, .int .u64 0, .int .u64 0, .int .i64 0, .bool false, .bool false, .int .i64 0] 29)).alloc (.cells #[.int .u64 0, .slice none 0 0] 32)).alloc (.cells #[.int .u64 0, .bool false, .int .i64 0, .int .u64 0] 56)).setRow w.heap.size H).setRow (w.heap.size + 1) Mc).setRow (w.heap.size + 1 + 1) R) w.heap.size 29 H ∧ Blk ((((((w.alloc (.cells #[.slice none 0 0, .int .u64 0, .int .u64 0, .int .u64 0, .int .i64 0, .bool false, .bool false, .int .i64 0] 29)).alloc (.cells #[.int .u64 0, .slice none 0 0] 32)).alloc (.cells #[.int .u64 0, .bool false, .int .i64 0, .int .u64 0] 56)).setRow w.heap.size H).setRow (w.heap.size + 1) Mc).setRow (w.heap.size + 1 + 1) R) (w.heap.size + 1) 32 Mc ∧ Blk ((((((w.alloc (.cells #[.slice none 0 0, .int .u64 0, .int .u64 0, .int .u64 0, .int .i64 0, .bool false, .bool false, .int .i64 0] 29)).alloc (.cells #[.int .u64 0, .slice none 0 0] 32)).alloc (.cells #[.int .u64 0, .bool false, .int .i64 0, .int .u64 0] 56)).setRow w.heap.size H).setRow (w.heap.size + 1) Mc).setRow (w.heap.size + 1 + 1) R) (w.heap.size + 1 + 1) 56 R := by
  have zz1 : Blk (((w.alloc (.cells #[.slice none 0 0, .int .u64 0, .int .u64 0, .int .u64 0, .int .i64 0, .bool false, .bool false, .int .i64 0] 29)).alloc (.cells #[.int .u64 0, .slice none 0 0] 32)).alloc (.cells #[.int .u64 0, .bool false, .int .i64 0, .int .u64 0] 56)) w.heap.size 29 #[.slice none 0 0, .int .u64 0, .int .u64 0, .int .u64 0, .int .i64 0, .bool false, .bool false, .int .i64 0] := ((Blk.new _ _ _).alloc _).alloc _
  have zz2 : Blk ((((w.alloc (.cells #[.slice none 0 0, .int .u64 0, .int .u64 0, .int .u64 0, .int .i64 0, .bool false, .bool false, .int .i64 0] 29)).alloc (.cells #[.int .u64 0, .slice none 0 0] 32)).alloc (.cells #[.int .u64 0, .bool false, .int .i64 0, .int .u64 0] 56)).setRow w.heap.size H) (w.heap.size + 1) 32 #[.int .u64 0, .slice none 0 0] := Blk.apart ((blk_at (by simp)).alloc _) (by omega) _
  have zz3 : Blk (((((w.alloc (.cells #[.slice none 0 0, .int .u64 0, .int .u64 0, .int .u64 0, .int .i64 0, .bool false, .bool false, .int .i64 0] 29)).alloc (.cells #[.int .u64 0, .slice none 0 0] 32)).alloc (.cells #[.int .u64 0, .bool false, .int .i64 0, .int .u64 0] 56)).setRow w.heap.size H).setRow (w.heap.size + 1) Mc) (w.heap.size + 1 + 1) 56 #[.int .u64 0, .bool false, .int .i64 0, .int .u64 0] := Blk.apart (Blk.apart (blk_at (by simp)) (by omega) _) (by omega) _
  exact ⟨zz1, zz2, zz3, ((((((Ext.refl w).alloc _).alloc _).alloc _).row (Nat.le_refl _) _).row (by omega) _).row (by omega) _, ((zz1.row _).apart (by omega) _).apart (by omega) _, (zz2.row _).apart (by omega) _, zz3.row _⟩
end Go.Proofs.YtlhoedpencmikaaGreatDoor
