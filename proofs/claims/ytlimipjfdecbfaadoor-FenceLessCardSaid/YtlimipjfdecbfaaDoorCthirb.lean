/- Package set: Find, Use, Drop, place, Put. -/
import Derived.Test.YtlimipjfdecbfaaDoorCthir
namespace Go.Proofs.YtlimipjfdecbfaaDoor
open Go.ChangeShapes Go.WideShapes Go.ChangeAt Go.RowKit
set_option linter.unusedVariables false
set_option linter.unusedSimpArgs false
set_option maxRecDepth 10000

theorem hitE_eq (n a l : Int) (e : En) : hitE n a l e = ((e.l == l) && matE e n a) := by unfold hitE; rfl
theorem empty_eq (e : En) : emptyE e = !e.v := by unfold emptyE; rfl
theorem is13_c (v : Int) (w : World) :
    Calls Tryd.prog 54 #[.int .i64 v] w fun r w' => r = .returned (.bool (decide (0 ≤ v) && decide (v < 4))) ∧ w = w' := by
  cases h : decide (0 ≤ v)
  all_goals
    go_enter Tryd.func54, Tryd.ntmps54
    go_wp2
    go_ret
    exact ⟨by simp, rfl⟩
theorem drop13_c (s : St) (v : Nat) (hv : v < 4) (w : World) :
    Calls Tryd.prog 45 #[.agg (stC s), .int .i64 (v : Int)] w fun r w' => r = .returned (.agg (stC (s.put v e0))) ∧ Ext w w' := by
  have his := fun w => is13_c v w
  rw [show (decide (0 ≤ (v : Int)) && decide ((v : Int) < 4)) = true by simp; omega] at his
  have HS := stC_put s hv e0
  have HB : v * 11 + (enC e0).size ≤ (stC s).size := by rw [stC_size, enC_size]; omega
  obtain ⟨W0, hW⟩ : ∃ W0, W0 = (w.alloc (.cells (stC s) 46)).alloc (.cells #[.bool false, .int .u64 0, .bool false, .int .i64 0, .int .u64 0, .int .u64 0, .bool false, .bool false, .bool false, .bool false, .bool false, .bool false, .int .u64 0, .bool false, .int .i64 0, .int .u64 0, .int .u64 0, .bool false, .bool false, .bool false, .bool false, .bool false, .bool false, .int .u64 0, .bool false, .int .i64 0, .int .u64 0, .int .u64 0, .bool false, .bool false, .bool false, .bool false, .bool false, .bool false, .int .u64 0, .bool false, .int .i64 0, .int .u64 0, .int .u64 0, .bool false, .bool false, .bool false, .bool false, .bool false, .int .u8 0] 46) := ⟨_, rfl⟩
  have HE : Hid (Ext w W0) := Lib.hid (by rw [hW]; exact ((Ext.refl w).alloc _).alloc _)
  have h1 : Blk W0 w.heap.size 46 (stC s) := by rw [hW]; exact (Blk.new w _ _).alloc _
  have h2 : Blk W0 (w.heap.size + 1) 46 #[.bool false, .int .u64 0, .bool false, .int .i64 0, .int .u64 0, .int .u64 0, .bool false, .bool false, .bool false, .bool false, .bool false, .bool false, .int .u64 0, .bool false, .int .i64 0, .int .u64 0, .int .u64 0, .bool false, .bool false, .bool false, .bool false, .bool false, .bool false, .int .u64 0, .bool false, .int .i64 0, .int .u64 0, .int .u64 0, .bool false, .bool false, .bool false, .bool false, .bool false, .bool false, .int .u64 0, .bool false, .int .i64 0, .int .u64 0, .int .u64 0, .bool false, .bool false, .bool false, .bool false, .bool false, .int .u8 0] := by rw [hW]; exact blk_at (by simp)
  have HW := Lib.hid hW
  clear hW
  have hv0 : (v : Int) < 4 := by omega
  go_enter Tryd.func45, Tryd.ntmps45
  go_wp2_with fail
  rw [← HW.out]
  refine (his _).mono ?_
  rintro e w' ⟨rfl, rfl⟩
  clear his HW
  have h3 := h1.row (stC (s.put v e0))
  have h4 := h2.apart (show w.heap.size + 1 ≠ w.heap.size by omega) (stC (s.put v e0))
  go_wp2_with (first | (refine wpList_build_as (by rfl) rfl (e0_build) ?_) | (refine wpList_store_part rfl 28 _ _ rfl rfl rfl h1 (HB) (HS) (en_info _) (enC_one _) ?_) | (refine wpList_load_blk (by rfl) 46 _ rfl rfl h3 Tryd.underlying46 rfl (by kernel_rfl) ?_) | (refine wpList_store_row rfl 46 _ _ rfl _ (stC _) rfl rfl _ _ h4 (st_info _) (by simp [stC_size]) (stC_one _) ?_))
  (try simp only [Exit.inBlock, Exit.then]); (try rw [Exit.noGoto_ret]); refine bodyPost_ret (results_cell_row rfl _ _ _ _ _ _ _ rfl ((h4.row _)) Tryd.underlying46 rfl (st_info _)) rfl ?_
  exact ⟨rfl, (HE.out.row (Nat.le_refl _) _).row (by omega) _⟩
end Go.Proofs.YtlimipjfdecbfaaDoor
