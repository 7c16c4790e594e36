/- Causes as numbers: of nine places the numbers, the sorts, the kinds and the names. No program. -/
import Derived.Test.YtlhoedpencmikaaGreatDoorProg
import Derived.Lib.Hide
import Derived.Test.YtlhoedpencmikaaGreatDoorGst
import Derived.Test.YtlhoedpencmikaaGreatDoorGagg
import Derived.Test.YtlhoedpencmikaaGreatDoorLaid
namespace Go.Proofs.YtlhoedpencmikaaGreatDoor
set_option linter.unusedVariables false
set_option linter.unusedSimpArgs false

/-- the cause of a place: three times its sort (from 0), and its kind -/
def cauI (q : Nat) : Int := [0, 4, 6, 1, 5, 7, 12, 13, 15].getD q 0
theorem cau_val : cauI 0 = 0 ∧ cauI 1 = 4 ∧ cauI 2 = 6 ∧ cauI 3 = 1 ∧ cauI 4 = 5 ∧ cauI 5 = 7 ∧ cauI 6 = 12 ∧ cauI 7 = 13 ∧ cauI 8 = 15 := ⟨rfl, rfl, rfl, rfl, rfl, rfl, rfl, rfl, rfl⟩
theorem nine {q : Nat} (h : q < 9) : q = 0 ∨ q = 1 ∨ q = 2 ∨ q = 3 ∨ q = 4 ∨ q = 5 ∨ q = 6 ∨ q = 7 ∨ q = 8 := by omega
attribute [irreducible] cauI

end Go.Proofs.YtlhoedpencmikaaGreatDoor
/- Package cause: what each function answers. The tables lie in the package's variables. -/
namespace Go.Proofs.YtlhoedpencmikaaGreatDoor
open Go.ChangeShapes Go.WideShapes Go.ChangeAt Go.RowKit
set_option linter.unusedVariables false
set_option linter.unusedSimpArgs false
set_option maxRecDepth 10000

def cauC : Array Value := #[.int .i64 0, .int .i64 4, .int .i64 6, .int .i64 1, .int .i64 5, .int .i64 7, .int .i64 12, .int .i64 13, .int .i64 15]
/-- the table lies in its variable (a seat that has no other one of the package's) -/
def Tabs (w : World) : Prop := Vr w 0 cauC ∧ True
theorem Tabs.ext {w w' : World} (h : Tabs w) (hE : Ext w w') : Tabs w' := ⟨h.1.ext hE, trivial⟩

theorem fault9_l (s k : Nat) (hs : s < 3) (hk : k < 3) (a : Nat) (w : World) (hT : Tabs w) :
    Calls Tryz.prog 123 #[.int .i64 (s : Int), .int .i64 (k : Int), .int .u64 (a : Int)] w fun e w' => e = .returned (.agg #[.bool true, .int .i64 (cauI (3 * s + k)), .int .u64 (a : Int)]) ∧ Ext w w' := by
  obtain ⟨v0, v1, v2, v3, v4, v5, v6, v7, v8⟩ := cau_val
  have hc : w.cell? ⟨0, 3 * s + k, none⟩ = cauC[3 * s + k]? := hT.1.cell _
  clear hT
  rcases (by omega : s = 0 ∨ s = 1 ∨ s = 2) with rfl | rfl | rfl <;> rcases (by omega : k = 0 ∨ k = 1 ∨ k = 2) with rfl | rfl | rfl
  all_goals
    simp only [Nat.reduceMul, Nat.reduceAdd, cauC] at hc ⊢
    simp only [List.getElem?_toArray, List.getElem?_cons_succ, List.getElem?_cons_zero] at hc
    simp only [v0, v1, v2, v3, v4, v5, v6, v7, v8]
    clear v0 v1 v2 v3 v4 v5 v6 v7 v8
    have hl := block_lt_of_cell hc
    simp only at hl
    go_enter Tryz.func123, Tryz.ntmps123
    go_wp2
    refine bodyPost_ret (results_cell_row rfl _ _ _ _ _ _ _ rfl ((blk_at (by simp))) Tryz.underlying54 rfl (by kernel_rfl)) rfl ?_
    exact ⟨rfl, (Ext.refl w).alloc _⟩
theorem fault9_c (s k : Nat) (hs : s < 3) (hk : k < 3) (a : Nat) (w : World) (hT : Tabs w) :
    Calls Tryz.prog 123 #[.int .i64 (s : Int), .int .i64 (k : Int), .int .u64 (a : Int)] w fun e w' => e = .returned (.agg (ftC ⟨true, cauI (3 * s + k), a⟩)) ∧ Ext w w' := by
  rw [ftC_def]; exact fault9_l s k hs hk a w hT
theorem odd9_c (k : Nat) (hk : k < 3) (a : Nat) (w : World) (hT : Tabs w) :
    Calls Tryz.prog 78 #[.int .i64 (k : Int), .int .u64 (a : Int)] w fun e w' => e = .returned (.agg (ftC ⟨true, cauI k, a⟩)) ∧ Ext w w' := by
  have hf := fun w => fault9_c 0 k (by omega) hk a w
  rw [show 3 * 0 + k = k by omega] at hf
  have HT := Lib.hid (hT.ext ((Ext.refl w).alloc (.cells #[.bool false, .int .i64 0, .int .u64 0] 54)))
  clear hT hk
  go_enter Tryz.func78, Tryz.ntmps78
  go_wp2_with fail
  refine (hf _ HT.out).mono ?_
  rintro e w1 ⟨rfl, hE⟩
  have hb := blk_one hE
  have HE := Lib.hid (ext_one hE)
  clear hE HT hf
  go_wp2_with (refine wpList_store_row rfl 54 _ _ rfl _ (ftC _) rfl rfl _ _ hb (ft_info _) (by simp [ftC_size]) (ftC_one _) ?_)
  refine bodyPost_ret (results_cell_row rfl _ _ _ _ _ _ _ rfl ((hb.row _)) Tryz.underlying54 rfl (by kernel_rfl)) rfl ?_
  exact ⟨rfl, HE.out.row (Nat.le_refl _) _⟩
theorem access9_c (k : Nat) (hk : k < 3) (a : Nat) (w : World) (hT : Tabs w) :
    Calls Tryz.prog 84 #[.int .i64 (k : Int), .int .u64 (a : Int)] w fun e w' => e = .returned (.agg (ftC ⟨true, cauI (3 + k), a⟩)) ∧ Ext w w' := by
  have hf := fun w => fault9_c 1 k (by omega) hk a w
  rw [show 3 * 1 + k = 3 + k by omega] at hf
  have HT := Lib.hid (hT.ext ((Ext.refl w).alloc (.cells #[.bool false, .int .i64 0, .int .u64 0] 54)))
  clear hT hk
  go_enter Tryz.func84, Tryz.ntmps84
  go_wp2_with fail
  refine (hf _ HT.out).mono ?_
  rintro e w1 ⟨rfl, hE⟩
  have hb := blk_one hE
  have HE := Lib.hid (ext_one hE)
  clear hE HT hf
  go_wp2_with (refine wpList_store_row rfl 54 _ _ rfl _ (ftC _) rfl rfl _ _ hb (ft_info _) (by simp [ftC_size]) (ftC_one _) ?_)
  refine bodyPost_ret (results_cell_row rfl _ _ _ _ _ _ _ rfl ((hb.row _)) Tryz.underlying54 rfl (by kernel_rfl)) rfl ?_
  exact ⟨rfl, HE.out.row (Nat.le_refl _) _⟩
theorem page9_c (k : Nat) (hk : k < 3) (a : Nat) (w : World) (hT : Tabs w) :
    Calls Tryz.prog 80 #[.int .i64 (k : Int), .int .u64 (a : Int)] w fun e w' => e = .returned (.agg (ftC ⟨true, cauI (6 + k), a⟩)) ∧ Ext w w' := by
  have hf := fun w => fault9_c 2 k (by omega) hk a w
  rw [show 3 * 2 + k = 6 + k by omega] at hf
  have HT := Lib.hid (hT.ext ((Ext.refl w).alloc (.cells #[.bool false, .int .i64 0, .int .u64 0] 54)))
  clear hT hk
  go_enter Tryz.func80, Tryz.ntmps80
  go_wp2_with fail
  refine (hf _ HT.out).mono ?_
  rintro e w1 ⟨rfl, hE⟩
  have hb := blk_one hE
  have HE := Lib.hid (ext_one hE)
  clear hE HT hf
  go_wp2_with (refine wpList_store_row rfl 54 _ _ rfl _ (ftC _) rfl rfl _ _ hb (ft_info _) (by simp [ftC_size]) (ftC_one _) ?_)
  refine bodyPost_ret (results_cell_row rfl _ _ _ _ _ _ _ rfl ((hb.row _)) Tryz.underlying54 rfl (by kernel_rfl)) rfl ?_
  exact ⟨rfl, HE.out.row (Nat.le_refl _) _⟩
end Go.Proofs.YtlhoedpencmikaaGreatDoor
/- Package cause: sorts and names. -/
namespace Go.Proofs.YtlhoedpencmikaaGreatDoor
open Go.ChangeShapes Go.WideShapes Go.ChangeAt Go.RowKit
set_option linter.unusedVariables false
set_option linter.unusedSimpArgs false

end Go.Proofs.YtlhoedpencmikaaGreatDoor
/- The document's answers for causes (atlasref09). -/
namespace Go.Proofs.YtlhoedpencmikaaGreatDoor
open Go.ChangeShapes Go.WideShapes Go.ChangeAt Go.RowKit
set_option linter.unusedVariables false
set_option linter.unusedSimpArgs false

theorem rnum9_c (s k : Nat) (hs : s < 3) (hk : k < 3) (w : World) :
    Calls Tryz.prog 105 #[.int .i64 ((s + 1 : Nat) : Int), .int .i64 (k : Int)] w fun e w' => e = .returned (.int .i64 (cauI (3 * s + k))) ∧ Ext w w' := by
  obtain ⟨v0, v1, v2, v3, v4, v5, v6, v7, v8⟩ := cau_val
  rcases (by omega : s = 0 ∨ s = 1 ∨ s = 2) with rfl | rfl | rfl <;> rcases (by omega : k = 0 ∨ k = 1 ∨ k = 2) with rfl | rfl | rfl
  all_goals
    simp only [Nat.reduceMul, Nat.reduceAdd]
    simp only [v0, v1, v2, v3, v4, v5, v6, v7, v8]
    clear v0 v1 v2 v3 v4 v5 v6 v7 v8
    go_enter Tryz.func105, Tryz.ntmps105
    go_wp2
    go_ret
    exact ⟨rfl, (Ext.refl w).alloc _⟩
theorem rfault9_c (s k : Nat) (hs : s < 3) (hk : k < 3) (a : Nat) (w : World) :
    Calls Tryz.prog 61 #[.int .i64 ((s + 1 : Nat) : Int), .int .i64 (k : Int), .int .u64 (a : Int)] w fun e w' => e = .returned (.agg (ftC ⟨true, cauI (3 * s + k), a⟩)) ∧ Ext w w' := by
  have hf := rnum9_c s k hs hk
  rw [ftC_def]
  generalize cauI (3 * s + k) = c at hf ⊢
  clear hs hk
  generalize ((s + 1 : Nat) : Int) = s1 at hf ⊢
  go_enter Tryz.func61, Tryz.ntmps61
  go_wp2_with fail
  refine (hf _).mono ?_
  rintro e w1 ⟨rfl, hE⟩
  have hb := blk_one hE
  have HE := Lib.hid (ext_one hE)
  clear hE hf
  go_wp2_with (refine wpList_store_row rfl 54 _ _ rfl _ _ rfl rfl _ _ hb (by kernel_rfl) (by rfl) (by simp [Value.oneCell']) ?_)
  refine bodyPost_ret (results_cell_row rfl _ _ _ _ _ _ _ rfl ((hb.row _)) Tryz.underlying54 rfl (by kernel_rfl)) rfl ?_
  exact ⟨rfl, HE.out.row (Nat.le_refl _) _⟩
end Go.Proofs.YtlhoedpencmikaaGreatDoor
