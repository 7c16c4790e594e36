/- Package va: what each function answers. The sizes lie in the package's variable. -/
import Derived.Test.YtlhoedpencmikaaDoorGone
import Derived.Test.YtlhoedpencmikaaDoorMfive
import Derived.Test.YtlhoedpencmikaaDoorGagg
import Derived.Below
import Derived.Lib.LaidTab
namespace Go.Proofs.YtlhoedpencmikaaDoor
open Go.ChangeShapes Go.WideShapes Go.ChangeAt Go.RowKit
set_option linter.unusedVariables false
set_option maxRecDepth 10000
set_option linter.unusedSimpArgs false

/-- a call that leaves the world leaves it as it was, but for what is new -/
theorem calls_ext {P : Program} {f : Nat} {args : Array Value} {w : World} {e0 : Ending} (h : Calls P f args w fun e w' => e = e0 ∧ w = w') : Calls P f args w fun e w' => e = e0 ∧ Ext w w' :=
  h.mono fun _ _ h => ⟨h.1, h.2 ▸ Ext.refl _⟩
/-- the sizes lie in their variable -/
def Siz (w : World) : Prop := w.cell? ⟨1, 0, none⟩ = some (.int .u64 4096) ∧ w.cell? ⟨1, 1, none⟩ = some (.int .u64 2097152) ∧ w.cell? ⟨1, 2, none⟩ = some (.int .u64 1073741824)
theorem Siz.ext {w w' : World} (h : Siz w) (hE : Ext w w') : Siz w' := ⟨ext_cell hE h.1, ext_cell hE h.2.1, ext_cell hE h.2.2⟩
theorem siz_of_laid {W : World} (h : laidMetH Tryd.prog [("atlas/va.sizes", Rows.laid_atlas_va_sizes)] W) : Siz W := by
  have h1 : laidMet Tryd.prog [("atlas/va.sizes", Lib.tabData .u64 [4096, 2097152, 1073741824])] W := by
    have h2 : laidMet Tryd.prog [("atlas/va.sizes", Rows.laid_atlas_va_sizes)] W := h
    exact h2
  have h3 := Lib.tabIs_of_head (g := 1) (t := 134) (e := 25) (n := 3) (by kernel_rfl) (by kernel_rfl) Tryd.underlying134 Tryd.underlying25 (by kernel_rfl) (by kernel_rfl) h1
  exact ⟨h3.cell (g := 1) (by kernel_rfl) 0 (by decide), h3.cell (g := 1) (by kernel_rfl) 1 (by decide), h3.cell (g := 1) (by kernel_rfl) 2 (by decide)⟩

theorem size_0 (w : World) (hT : Siz w) :
    Calls Tryd.prog 71 #[.int .i64 0] w fun e w' => e = .returned (.int .u64 4096) ∧ w = w' := by
  have hc := hT.1
  clear hT
  go_enter Tryd.func71, Tryd.ntmps71
  go_wp2
  go_ret
  exact ⟨rfl, rfl⟩
theorem size_1 (w : World) (hT : Siz w) :
    Calls Tryd.prog 71 #[.int .i64 1] w fun e w' => e = .returned (.int .u64 2097152) ∧ w = w' := by
  have hc := hT.2.1
  clear hT
  go_enter Tryd.func71, Tryd.ntmps71
  go_wp2
  go_ret
  exact ⟨rfl, rfl⟩
theorem size_2 (w : World) (hT : Siz w) :
    Calls Tryd.prog 71 #[.int .i64 2] w fun e w' => e = .returned (.int .u64 1073741824) ∧ w = w' := by
  have hc := hT.2.2
  clear hT
  go_enter Tryd.func71, Tryd.ntmps71
  go_wp2
  go_ret
  exact ⟨rfl, rfl⟩
theorem size5_c (l : Int) (l0 : 0 ≤ l) (l2 : l ≤ 2) (w : World) (hT : Siz w) :
    Calls Tryd.prog 71 #[.int .i64 l] w fun e w' => e = .returned (.int .u64 (sizI l)) ∧ w = w' := by
  rcases level_lt l0 l2 with rfl | rfl | rfl
  · rw [siz0]; exact size_0 w hT
  · rw [siz1]; exact size_1 w hT
  · rw [siz2]; exact size_2 w hT
theorem is5_c (a : Int) (a0 : 0 ≤ a) (a1 : a < 18446744073709551616) (w : World) :
    Calls Tryd.prog 40 #[.int .u64 a] w fun e w' => e = .returned (.bool (vaB a)) ∧ w = w' := by
  have H := Lib.hid (is_eq a0 a1)
  go_enter Tryd.func40, Tryd.ntmps40
  go_wp2_with (go_at_call 66; refine (sign_c _ _ (by (omega)) (by (omega)) (by omega) (by omega) _).mono ?_; rintro e w' ⟨rfl, rfl⟩)
  go_ret
  exact ⟨congrArg (fun b => Ending.returned (.bool b)) H.out, rfl⟩
theorem index5_c (a l : Int) (a0 : 0 ≤ a) (a1 : a < 18446744073709551616) (l0 : 0 ≤ l) (l2 : l ≤ 2) (w : World) :
    Calls Tryd.prog 68 #[.int .u64 a, .int .i64 l] w fun e w' => e = .returned (.int .i64 (idxI a l)) ∧ w = w' := by
  have H := Lib.hid (idx_eq a0 l0 l2)
  have hb := idx_lt a l
  rw [← H.out] at hb
  obtain ⟨hb0, hb1⟩ := hb
  go_enter Tryd.func68, Tryd.ntmps68
  go_wp2_with (go_at_call 52; refine (get_c _ _ _ (by (omega)) (by (omega)) (by omega) (by omega) (by omega) (by omega) _).mono ?_; rintro e w' ⟨rfl, rfl⟩)
  go_ret
  exact ⟨congrArg (fun b => Ending.returned (.int .i64 b)) H.out, rfl⟩
theorem number5_c (a : Int) (a0 : 0 ≤ a) (a1 : a < 18446744073709551616) (w : World) :
    Calls Tryd.prog 61 #[.int .u64 a] w fun e w' => e = .returned (.int .u64 (numI a)) ∧ w = w' := by
  have H := Lib.hid (num_eq a0)
  go_enter Tryd.func61, Tryd.ntmps61
  go_wp2_with (go_at_call 52; refine (get_c _ _ _ (by (omega)) (by (omega)) (by omega) (by omega) (by omega) (by omega) _).mono ?_; rintro e w' ⟨rfl, rfl⟩)
  go_ret
  exact ⟨congrArg (fun b => Ending.returned (.int .u64 b)) H.out, rfl⟩
theorem off_ar {a l : Int} (a0 : 0 ≤ a) (a1 : a < 18446744073709551616) (l0 : 0 ≤ l) (l2 : l ≤ 2) : bits .and .u64 a (sizI l - 1) = offI a l := by
  unfold offI
  rcases level_lt l0 l2 with rfl | rfl | rfl
  · rw [siz0]; exact and_ar a0 a1 12 (by decide)
  · rw [siz1]; exact and_ar a0 a1 21 (by decide)
  · rw [siz2]; exact and_ar a0 a1 30 (by decide)
theorem siz_lt {l : Int} (l0 : 0 ≤ l) (l2 : l ≤ 2) : 4096 ≤ sizI l ∧ sizI l ≤ 1073741824 := by
  rcases level_lt l0 l2 with rfl | rfl | rfl
  · rw [siz0]; decide
  · rw [siz1]; decide
  · rw [siz2]; decide
theorem offset5_c (a l : Int) (a0 : 0 ≤ a) (a1 : a < 18446744073709551616) (l0 : 0 ≤ l) (l2 : l ≤ 2) (w : World) (hT : Siz w) :
    Calls Tryd.prog 84 #[.int .u64 a, .int .i64 l] w fun e w' => e = .returned (.int .u64 (offI a l)) ∧ w = w' := by
  have H := Lib.hid (off_ar a0 a1 l0 l2)
  obtain ⟨hs0, hs1⟩ := siz_lt l0 l2
  go_enter Tryd.func84, Tryd.ntmps84
  go_wp2_with (go_at_call 71; refine (size5_c _ (by omega) (by omega) _ (by assumption)).mono ?_; rintro e w' ⟨rfl, rfl⟩)
  go_ret
  exact ⟨congrArg (fun b => Ending.returned (.int .u64 b)) H.out, rfl⟩
theorem base5_c (a l : Int) (a0 : 0 ≤ a) (a1 : a < 18446744073709551616) (l0 : 0 ≤ l) (l2 : l ≤ 2) (w : World) (hT : Siz w) :
    Calls Tryd.prog 62 #[.int .u64 a, .int .i64 l] w fun e w' => e = .returned (.int .u64 (basI a l)) ∧ w = w' := by
  have h1 := bas_off a l
  obtain ⟨h2, h3⟩ := off_lt a l
  obtain ⟨h4, h5⟩ := bas_lt (l := l) a0
  have H : Hid (a - offI a l = basI a l) := Lib.hid (by omega)
  clear h1
  have h6 : offI a l ≤ a := by have := H.out; omega
  clear h5
  go_enter Tryd.func62, Tryd.ntmps62
  go_wp2_with (go_at_call 84; refine (offset5_c _ _ (by omega) (by omega) (by omega) (by omega) _ (by assumption)).mono ?_; rintro e w' ⟨rfl, rfl⟩)
  go_ret
  exact ⟨congrArg (fun b => Ending.returned (.int .u64 b)) H.out, rfl⟩
theorem fits_ar {a l : Int} : evenB a (sizI l) = (offI a l == 0) := by
  have := siz_pos l
  unfold evenB offI; rw [if_neg (by omega)]
theorem fitB_eq (a l : Int) : fitB a l = (vaB a && (offI a l == 0)) := by unfold fitB; rfl
end Go.Proofs.YtlhoedpencmikaaDoor
