/- Package va: what each function answers. The sizes lie in the package's variable. -/
import Derived.Test.YtlhoedpencmikaaGreatDoorGone
import Derived.Test.YtlhoedpencmikaaGreatDoorMfive
import Derived.Test.YtlhoedpencmikaaGreatDoorGagg
import Derived.Below
import Derived.Lib.LaidTab
namespace Go.Proofs.YtlhoedpencmikaaGreatDoor
open Go.ChangeShapes Go.WideShapes Go.ChangeAt Go.RowKit
set_option linter.unusedVariables false
set_option maxRecDepth 10000
set_option linter.unusedSimpArgs false

/-- a call that leaves the world leaves it as it was, but for what is new -/
theorem calls_ext {P : Program} {f : Nat} {args : Array Value} {w : World} {e0 : Ending} (h : Calls P f args w fun e w' => e = e0 ∧ w = w') : Calls P f args w fun e w' => e = e0 ∧ Ext w w' :=
  h.mono fun _ _ h => ⟨h.1, h.2 ▸ Ext.refl _⟩
/-- the sizes lie in their variable -/
def Siz (w : World) : Prop := w.cell? ⟨1, 0, none⟩ = some (.int .u64 4096) ∧ w.cell? ⟨1, 1, none⟩ = some (.int .u64 2097152) ∧ w.cell? ⟨1, 2, none⟩ = some (.int .u64 1073741824)
theorem Siz.ext {w w' : World} (h : Siz w) (hE : Ext w w') : Siz w' := ⟨ext_cell hE h.1, ext_cell hE h.2.1, ext_cell hE h.2.2⟩
theorem size_0 (w : World) (hT : Siz w) :
    Calls Tryz.prog 134 #[.int .i64 0] w fun e w' => e = .returned (.int .u64 4096) ∧ w = w' := by
  have hc := hT.1
  clear hT
  go_enter Tryz.func134, Tryz.ntmps134
  go_wp2
  go_ret
  exact ⟨rfl, rfl⟩
theorem size_1 (w : World) (hT : Siz w) :
    Calls Tryz.prog 134 #[.int .i64 1] w fun e w' => e = .returned (.int .u64 2097152) ∧ w = w' := by
  have hc := hT.2.1
  clear hT
  go_enter Tryz.func134, Tryz.ntmps134
  go_wp2
  go_ret
  exact ⟨rfl, rfl⟩
theorem size_2 (w : World) (hT : Siz w) :
    Calls Tryz.prog 134 #[.int .i64 2] w fun e w' => e = .returned (.int .u64 1073741824) ∧ w = w' := by
  have hc := hT.2.2
  clear hT
  go_enter Tryz.func134, Tryz.ntmps134
  go_wp2
  go_ret
  exact ⟨rfl, rfl⟩
theorem size5_c (l : Int) (l0 : 0 ≤ l) (l2 : l ≤ 2) (w : World) (hT : Siz w) :
    Calls Tryz.prog 134 #[.int .i64 l] w fun e w' => e = .returned (.int .u64 (sizI l)) ∧ w = w' := by
  rcases level_lt l0 l2 with rfl | rfl | rfl
  · rw [siz0]; exact size_0 w hT
  · rw [siz1]; exact size_1 w hT
  · rw [siz2]; exact size_2 w hT
theorem is5_c (a : Int) (a0 : 0 ≤ a) (a1 : a < 18446744073709551616) (w : World) :
    Calls Tryz.prog 79 #[.int .u64 a] w fun e w' => e = .returned (.bool (vaB a)) ∧ w = w' := by
  have H := Lib.hid (is_eq a0 a1)
  go_enter Tryz.func79, Tryz.ntmps79
  go_wp2_with (go_at_call 124; refine (sign_c _ _ (by (omega)) (by (omega)) (by omega) (by omega) _).mono ?_; rintro e w' ⟨rfl, rfl⟩)
  go_ret
  exact ⟨congrArg (fun b => Ending.returned (.bool b)) H.out, rfl⟩
theorem index5_c (a l : Int) (a0 : 0 ≤ a) (a1 : a < 18446744073709551616) (l0 : 0 ≤ l) (l2 : l ≤ 2) (w : World) :
    Calls Tryz.prog 132 #[.int .u64 a, .int .i64 l] w fun e w' => e = .returned (.int .i64 (idxI a l)) ∧ w = w' := by
  have H := Lib.hid (idx_eq a0 l0 l2)
  have hb := idx_lt a l
  rw [← H.out] at hb
  obtain ⟨hb0, hb1⟩ := hb
  go_enter Tryz.func132, Tryz.ntmps132
  go_wp2_with (go_at_call 94; refine (get_c _ _ _ (by (omega)) (by (omega)) (by omega) (by omega) (by omega) (by omega) _).mono ?_; rintro e w' ⟨rfl, rfl⟩)
  go_ret
  exact ⟨congrArg (fun b => Ending.returned (.int .i64 b)) H.out, rfl⟩
theorem number5_c (a : Int) (a0 : 0 ≤ a) (a1 : a < 18446744073709551616) (w : World) :
    Calls Tryz.prog 103 #[.int .u64 a] w fun e w' => e = .returned (.int .u64 (numI a)) ∧ w = w' := by
  have H := Lib.hid (num_eq a0)
  go_enter Tryz.func103, Tryz.ntmps103
  go_wp2_with (go_at_call 94; refine (get_c _ _ _ (by (omega)) (by (omega)) (by omega) (by omega) (by omega) (by omega) _).mono ?_; rintro e w' ⟨rfl, rfl⟩)
  go_ret
  exact ⟨congrArg (fun b => Ending.returned (.int .u64 b)) H.out, rfl⟩
theorem of5_c (n : Int) (n0 : 0 ≤ n) (n1 : n < 18446744073709551616) (w : World) :
    Calls Tryz.prog 154 #[.int .u64 n] w fun e w' => e = .returned (.int .u64 (ofI n)) ∧ w = w' := by
  have H := Lib.hid (of_eq n0)
  go_enter Tryz.func154, Tryz.ntmps154
  go_wp2_with first | (go_at_call 92; refine (set_c _ _ _ _ (by (omega)) (by (omega)) (by (omega)) (by (omega)) (by omega) (by omega) (by omega) (by omega) _).mono ?_; rintro e w' ⟨rfl, rfl⟩) | (go_at_call 124; refine (sign_c _ _ (by (exact setI_ge _ _ _ _)) (by (exact setI_lt _ _ _ (by (omega)) (by omega))) (by omega) (by omega) _).mono ?_; rintro e w' ⟨rfl, rfl⟩)
  go_ret
  exact ⟨congrArg (fun b => Ending.returned (.int .u64 b)) H.out, rfl⟩
theorem off_ar {a l : Int} (a0 : 0 ≤ a) (a1 : a < 18446744073709551616) (l0 : 0 ≤ l) (l2 : l ≤ 2) : bits .and .u64 a (sizI l - 1) = offI a l := by
  unfold offI
  rcases level_lt l0 l2 with rfl | rfl | rfl
  · rw [siz0]; exact and_ar a0 a1 12 (by decide)
  · rw [siz1]; exact and_ar a0 a1 21 (by decide)
  · rw [siz2]; exact and_ar a0 a1 30 (by decide)
theorem siz_lt {l : Int} (l0 : 0 ≤ l) (l2 : l ≤ 2) : 4096 ≤ sizI l ∧ sizI l ≤ 1073741824 := by
  rcases level_lt l0 l2 with rfl | rfl | rfl
  · rw [siz0]; decide
  · rw [siz1]; decide
  · rw [siz2]; decide
theorem offset5_c (a l : Int) (a0 : 0 ≤ a) (a1 : a < 18446744073709551616) (l0 : 0 ≤ l) (l2 : l ≤ 2) (w : World) (hT : Siz w) :
    Calls Tryz.prog 145 #[.int .u64 a, .int .i64 l] w fun e w' => e = .returned (.int .u64 (offI a l)) ∧ w = w' := by
  have H := Lib.hid (off_ar a0 a1 l0 l2)
  obtain ⟨hs0, hs1⟩ := siz_lt l0 l2
  go_enter Tryz.func145, Tryz.ntmps145
  go_wp2_with (go_at_call 134; refine (size5_c _ (by omega) (by omega) _ (by assumption)).mono ?_; rintro e w' ⟨rfl, rfl⟩)
  go_ret
  exact ⟨congrArg (fun b => Ending.returned (.int .u64 b)) H.out, rfl⟩
theorem base5_c (a l : Int) (a0 : 0 ≤ a) (a1 : a < 18446744073709551616) (l0 : 0 ≤ l) (l2 : l ≤ 2) (w : World) (hT : Siz w) :
    Calls Tryz.prog 104 #[.int .u64 a, .int .i64 l] w fun e w' => e = .returned (.int .u64 (basI a l)) ∧ w = w' := by
  have h1 := bas_off a l
  obtain ⟨h2, h3⟩ := off_lt a l
  obtain ⟨h4, h5⟩ := bas_lt (l := l) a0
  have H : Hid (a - offI a l = basI a l) := Lib.hid (by omega)
  clear h1
  have h6 : offI a l ≤ a := by have := H.out; omega
  clear h5
  go_enter Tryz.func104, Tryz.ntmps104
  go_wp2_with (go_at_call 145; refine (offset5_c _ _ (by omega) (by omega) (by omega) (by omega) _ (by assumption)).mono ?_; rintro e w' ⟨rfl, rfl⟩)
  go_ret
  exact ⟨congrArg (fun b => Ending.returned (.int .u64 b)) H.out, rfl⟩
end Go.Proofs.YtlhoedpencmikaaGreatDoor
