/- Package cause: what each function answers. The tables lie in the package's variables. -/
import Derived.Test.YthplkhkclhpobaaDoorGst
import Derived.Test.YthplkhkclhpobaaDoorGagg
import Derived.Test.YthplkhkclhpobaaDoorLaid
import Derived.Test.YthplkhkclhpobaaDoorMnine
namespace Go.Proofs.YthplkhkclhpobaaDoor
open Go.ChangeShapes Go.WideShapes Go.ChangeAt Go.RowKit
set_option linter.unusedVariables false
set_option linter.unusedSimpArgs false
set_option maxRecDepth 10000

def cauC : Array Value := #[.int .i64 0, .int .i64 4, .int .i64 6, .int .i64 1, .int .i64 5, .int .i64 7, .int .i64 12, .int .i64 13, .int .i64 15]
def sorC : Array Value := #[.string ⟨#[111, 100, 100]⟩, .string ⟨#[97, 99, 99, 101, 115, 115]⟩, .string ⟨#[112, 97, 103, 101]⟩]
def kinC : Array Value := #[.string ⟨#[102, 101, 116, 99, 104]⟩, .string ⟨#[108, 111, 97, 100]⟩, .string ⟨#[115, 116, 111, 114, 101]⟩]
/-- the table lies in its variable (a seat that has no other one of the package's) -/
def Tabs (w : World) : Prop := Vr w 0 cauC ∧ True
theorem Tabs.ext {w w' : World} (h : Tabs w) (hE : Ext w w') : Tabs w' := ⟨h.1.ext hE, trivial⟩

theorem fault9_l (s k : Nat) (hs : s < 3) (hk : k < 3) (a : Nat) (w : World) (hT : Tabs w) :
    Calls Tryd.prog 49 #[.int .i64 (s : Int), .int .i64 (k : Int), .int .u64 (a : Int)] w fun e w' => e = .returned (.agg #[.bool true, .int .i64 (cauI (3 * s + k)), .int .u64 (a : Int)]) ∧ Ext w w' := by
  obtain ⟨v0, v1, v2, v3, v4, v5, v6, v7, v8⟩ := cau_val
  have hc : w.cell? ⟨0, 3 * s + k, none⟩ = cauC[3 * s + k]? := hT.1.cell _
  clear hT
  rcases (by omega : s = 0 ∨ s = 1 ∨ s = 2) with rfl | rfl | rfl <;> rcases (by omega : k = 0 ∨ k = 1 ∨ k = 2) with rfl | rfl | rfl
  all_goals
    simp only [Nat.reduceMul, Nat.reduceAdd, cauC] at hc ⊢
    simp only [List.getElem?_toArray, List.getElem?_cons_succ, List.getElem?_cons_zero] at hc
    simp only [v0, v1, v2, v3, v4, v5, v6, v7, v8]
    clear v0 v1 v2 v3 v4 v5 v6 v7 v8
    have hl := block_lt_of_cell hc
    simp only at hl
    go_enter Tryd.func49, Tryd.ntmps49
    go_wp2
    (try simp only [Exit.inBlock, Exit.then]); refine bodyPost_ret (results_cell_row rfl _ _ _ _ _ _ _ rfl ((blk_at (by simp))) Tryd.underlying33 rfl (by kernel_rfl)) rfl ?_
    exact ⟨rfl, (Ext.refl w).alloc _⟩
theorem fault9_c (s k : Nat) (hs : s < 3) (hk : k < 3) (a : Nat) (w : World) (hT : Tabs w) :
    Calls Tryd.prog 49 #[.int .i64 (s : Int), .int .i64 (k : Int), .int .u64 (a : Int)] w fun e w' => e = .returned (.agg (ftC ⟨true, cauI (3 * s + k), a⟩)) ∧ Ext w w' := by
  rw [ftC_def]; exact fault9_l s k hs hk a w hT
theorem access9_c (k : Nat) (hk : k < 3) (a : Nat) (w : World) (hT : Tabs w) :
    Calls Tryd.prog 34 #[.int .i64 (k : Int), .int .u64 (a : Int)] w fun e w' => e = .returned (.agg (ftC ⟨true, cauI (3 + k), a⟩)) ∧ Ext w w' := by
  have hf := fun w => fault9_c 1 k (by omega) hk a w
  rw [show 3 * 1 + k = 3 + k by omega] at hf
  have HT := Lib.hid (hT.ext ((Ext.refl w).alloc (.cells #[.bool false, .int .i64 0, .int .u64 0] 33)))
  clear hT hk
  go_enter Tryd.func34, Tryd.ntmps34
  go_wp2_with fail
  refine (hf _ HT.out).mono ?_
  rintro e w1 ⟨rfl, hE⟩
  have hb := blk_one hE
  have HE := Lib.hid (ext_one hE)
  clear hE HT hf
  go_wp2_with (refine wpList_store_row rfl 33 _ _ rfl _ (ftC _) rfl rfl _ _ hb (ft_info _) (by simp [ftC_size]) (ftC_one _) ?_)
  (try simp only [Exit.inBlock, Exit.then]); refine bodyPost_ret (results_cell_row rfl _ _ _ _ _ _ _ rfl ((hb.row _)) Tryd.underlying33 rfl (by kernel_rfl)) rfl ?_
  exact ⟨rfl, HE.out.row (Nat.le_refl _) _⟩
theorem page9_c (k : Nat) (hk : k < 3) (a : Nat) (w : World) (hT : Tabs w) :
    Calls Tryd.prog 30 #[.int .i64 (k : Int), .int .u64 (a : Int)] w fun e w' => e = .returned (.agg (ftC ⟨true, cauI (6 + k), a⟩)) ∧ Ext w w' := by
  have hf := fun w => fault9_c 2 k (by omega) hk a w
  rw [show 3 * 2 + k = 6 + k by omega] at hf
  have HT := Lib.hid (hT.ext ((Ext.refl w).alloc (.cells #[.bool false, .int .i64 0, .int .u64 0] 33)))
  clear hT hk
  go_enter Tryd.func30, Tryd.ntmps30
  go_wp2_with fail
  refine (hf _ HT.out).mono ?_
  rintro e w1 ⟨rfl, hE⟩
  have hb := blk_one hE
  have HE := Lib.hid (ext_one hE)
  clear hE HT hf
  go_wp2_with (refine wpList_store_row rfl 33 _ _ rfl _ (ftC _) rfl rfl _ _ hb (ft_info _) (by simp [ftC_size]) (ftC_one _) ?_)
  (try simp only [Exit.inBlock, Exit.then]); refine bodyPost_ret (results_cell_row rfl _ _ _ _ _ _ _ rfl ((hb.row _)) Tryd.underlying33 rfl (by kernel_rfl)) rfl ?_
  exact ⟨rfl, HE.out.row (Nat.le_refl _) _⟩
end Go.Proofs.YthplkhkclhpobaaDoor
