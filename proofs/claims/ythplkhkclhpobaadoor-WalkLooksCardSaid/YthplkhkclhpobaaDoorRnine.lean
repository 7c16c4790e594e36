/- The document's answers for causes (atlasref09). -/
import Derived.Test.YthplkhkclhpobaaDoorCnine
namespace Go.Proofs.YthplkhkclhpobaaDoor
open Go.ChangeShapes Go.WideShapes Go.ChangeAt Go.RowKit
set_option linter.unusedVariables false
set_option linter.unusedSimpArgs false

theorem rnum9_c (s k : Nat) (hs : s < 3) (hk : k < 3) (w : World) :
    Calls Tryd.prog 59 #[.int .i64 ((s + 1 : Nat) : Int), .int .i64 (k : Int)] w fun e w' => e = .returned (.int .i64 (cauI (3 * s + k))) ∧ Ext w w' := by
  obtain ⟨v0, v1, v2, v3, v4, v5, v6, v7, v8⟩ := cau_val
  rcases (by omega : s = 0 ∨ s = 1 ∨ s = 2) with rfl | rfl | rfl <;> rcases (by omega : k = 0 ∨ k = 1 ∨ k = 2) with rfl | rfl | rfl
  all_goals
    simp only [Nat.reduceMul, Nat.reduceAdd]
    simp only [v0, v1, v2, v3, v4, v5, v6, v7, v8]
    clear v0 v1 v2 v3 v4 v5 v6 v7 v8
    go_enter Tryd.func59, Tryd.ntmps59
    go_wp2
    go_ret
    exact ⟨rfl, (Ext.refl w).alloc _⟩
theorem rfault9_c (s k : Nat) (hs : s < 3) (hk : k < 3) (a : Nat) (w : World) :
    Calls Tryd.prog 37 #[.int .i64 ((s + 1 : Nat) : Int), .int .i64 (k : Int), .int .u64 (a : Int)] w fun e w' => e = .returned (.agg (ftC ⟨true, cauI (3 * s + k), a⟩)) ∧ Ext w w' := by
  have hf := rnum9_c s k hs hk
  rw [ftC_def]
  generalize cauI (3 * s + k) = c at hf ⊢
  clear hs hk
  generalize ((s + 1 : Nat) : Int) = s1 at hf ⊢
  go_enter Tryd.func37, Tryd.ntmps37
  go_wp2_with fail
  refine (hf _).mono ?_
  rintro e w1 ⟨rfl, hE⟩
  have hb := blk_one hE
  have HE := Lib.hid (ext_one hE)
  clear hE hf
  go_wp2_with (refine wpList_store_row rfl 33 _ _ rfl _ _ rfl rfl _ _ hb (by kernel_rfl) (by rfl) (by simp [Value.oneCell']) ?_)
  (try simp only [Exit.inBlock, Exit.then]); refine bodyPost_ret (results_cell_row rfl _ _ _ _ _ _ _ rfl ((hb.row _)) Tryd.underlying33 rfl (by kernel_rfl)) rfl ?_
  exact ⟨rfl, HE.out.row (Nat.le_refl _) _⟩
end Go.Proofs.YthplkhkclhpobaaDoor
