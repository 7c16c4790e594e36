/- Package plru, and the document's trees (atlasref11): what each function answers. What a touch does lies in the package's variable. -/
import Derived.Test.YtdbflmceomnmlaaDoorRows
import Derived.Test.YtdbflmceomnmlaaDoorLaid
import Derived.Test.YtdbflmceomnmlaaDoorMelev
import Derived.Test.YtdbflmceomnmlaaDoorGrow
import Derived.ChangeOld
import Derived.WalkKit
import Derived.ProofKit
import Derived.OpenShut
namespace Go.Proofs.YtdbflmceomnmlaaDoor
open Go.ChangeShapes Go.WideShapes Go.ChangeAt Go.RowKit
set_option linter.unusedVariables false
set_option linter.unusedSimpArgs false
set_option maxRecDepth 10000

def touC : Array Value := #[.int .u8 3, .int .u8 3, .int .u8 3, .int .u8 1, .int .u8 5, .int .u8 4, .int .u8 5, .int .u8 0]
/-- the table lies in its variable -/
def Tous (w : World) : Prop := Vr w 0 touC
theorem Tous.ext {w w' : World} (h : Tous w) (hE : Ext w w') : Tous w' := Vr.ext h hE
theorem tous_of_laid {W : World} (h : laidMetH Tryd.prog [("atlas/plru.touches", Rows.laid_atlas_plru_touches)] W) : Tous W := by
  have h1 : laidMet Tryd.prog [("atlas/plru.touches", Rows.laid_atlas_plru_touches)] W := h
  exact laid_at h1 (name := "atlas/plru.touches") (d := Rows.laid_atlas_plru_touches) (by simp) (t := 95) 4 (by kernel_rfl) (by kernel_rfl) (by kernel_rfl) (by simp [Rows.laid_atlas_plru_touches, flatD, flatDs])
theorem is11_c (t : Nat) (w : World) :
    Calls Tryd.prog 51 #[.int .u8 (t : Int)] w fun e w' => e = .returned (.bool (decide ((t : Int) < 8))) ∧ w' = w := by
  go_enter Tryd.func51, Tryd.ntmps51
  go_wp2
  go_ret
  exact ⟨rfl, rfl⟩
theorem vic_c (t : Nat) (h : t < 8) (w : World) :
    Calls Tryd.prog 72 #[.int .u8 (t : Int)] w fun e w' => e = .returned (.int .i64 ((viN t : Nat) : Int)) ∧ w' = w := by
  obtain ⟨v0, v1, v2, v3, v4, v5, v6, v7⟩ := vi_tab
  rcases eight h with rfl | rfl | rfl | rfl | rfl | rfl | rfl | rfl
  all_goals
    simp only [v0, v1, v2, v3, v4, v5, v6, v7]
    clear v0 v1 v2 v3 v4 v5 v6 v7 h
    go_enter Tryd.func72, Tryd.ntmps72
    go_wp2
    go_ret
    exact ⟨rfl, rfl⟩
theorem rvic_c (t : Nat) (h : t < 8) (w : World) :
    Calls Tryd.prog 65 #[.int .u8 (t : Int)] w fun e w' => e = .returned (.int .i64 ((viN t : Nat) : Int)) ∧ w' = w := by
  obtain ⟨v0, v1, v2, v3, v4, v5, v6, v7⟩ := vi_tab
  rcases eight h with rfl | rfl | rfl | rfl | rfl | rfl | rfl | rfl
  all_goals
    simp only [v0, v1, v2, v3, v4, v5, v6, v7]
    clear v0 v1 v2 v3 v4 v5 v6 v7 h
    go_enter Tryd.func65, Tryd.ntmps65
    go_wp2
    go_ret
    exact ⟨rfl, rfl⟩
set_option maxHeartbeats 2000000 in
theorem tou_c (t v : Nat) (h : t < 8) (hv : v < 4) (w : World) (hT : Tous w) :
    Calls Tryd.prog 61 #[.int .u8 (t : Int), .int .i64 (v : Int)] w fun e w' => e = .returned (.int .u8 ((toN t v : Nat) : Int)) ∧ Ext w w' := by
  have c0 : w.cell? ⟨0, 2 * v, none⟩ = touC[2 * v]? := hT.cell _
  have c1 : w.cell? ⟨0, 2 * v + 1, none⟩ = touC[2 * v + 1]? := hT.cell _
  clear hT
  rcases four hv with rfl | rfl | rfl | rfl
  · obtain ⟨v0, v1, v2, v3, v4, v5, v6, v7⟩ := to_tab0
    rcases eight h with rfl | rfl | rfl | rfl | rfl | rfl | rfl | rfl
    all_goals
      simp only [Nat.reduceMul, Nat.reduceAdd, touC] at c0 c1
      simp only [List.getElem?_toArray, List.getElem?_cons_succ, List.getElem?_cons_zero] at c0 c1
      simp only [v0, v1, v2, v3, v4, v5, v6, v7]
      clear v0 v1 v2 v3 v4 v5 v6 v7 h hv
      have hl := block_lt_of_cell c0
      simp only at hl
      go_enter Tryd.func61, Tryd.ntmps61
      go_wp2
      go_ret
      exact ⟨rfl, (Ext.refl w).alloc _⟩
  · obtain ⟨v0, v1, v2, v3, v4, v5, v6, v7⟩ := to_tab1
    rcases eight h with rfl | rfl | rfl | rfl | rfl | rfl | rfl | rfl
    all_goals
      simp only [Nat.reduceMul, Nat.reduceAdd, touC] at c0 c1
      simp only [List.getElem?_toArray, List.getElem?_cons_succ, List.getElem?_cons_zero] at c0 c1
      simp only [v0, v1, v2, v3, v4, v5, v6, v7]
      clear v0 v1 v2 v3 v4 v5 v6 v7 h hv
      have hl := block_lt_of_cell c0
      simp only at hl
      go_enter Tryd.func61, Tryd.ntmps61
      go_wp2
      go_ret
      exact ⟨rfl, (Ext.refl w).alloc _⟩
  · obtain ⟨v0, v1, v2, v3, v4, v5, v6, v7⟩ := to_tab2
    rcases eight h with rfl | rfl | rfl | rfl | rfl | rfl | rfl | rfl
    all_goals
      simp only [Nat.reduceMul, Nat.reduceAdd, touC] at c0 c1
      simp only [List.getElem?_toArray, List.getElem?_cons_succ, List.getElem?_cons_zero] at c0 c1
      simp only [v0, v1, v2, v3, v4, v5, v6, v7]
      clear v0 v1 v2 v3 v4 v5 v6 v7 h hv
      have hl := block_lt_of_cell c0
      simp only at hl
      go_enter Tryd.func61, Tryd.ntmps61
      go_wp2
      go_ret
      exact ⟨rfl, (Ext.refl w).alloc _⟩
  · obtain ⟨v0, v1, v2, v3, v4, v5, v6, v7⟩ := to_tab3
    rcases eight h with rfl | rfl | rfl | rfl | rfl | rfl | rfl | rfl
    all_goals
      simp only [Nat.reduceMul, Nat.reduceAdd, touC] at c0 c1
      simp only [List.getElem?_toArray, List.getElem?_cons_succ, List.getElem?_cons_zero] at c0 c1
      simp only [v0, v1, v2, v3, v4, v5, v6, v7]
      clear v0 v1 v2 v3 v4 v5 v6 v7 h hv
      have hl := block_lt_of_cell c0
      simp only at hl
      go_enter Tryd.func61, Tryd.ntmps61
      go_wp2
      go_ret
      exact ⟨rfl, (Ext.refl w).alloc _⟩
set_option maxHeartbeats 2000000 in
theorem rtou_c (t v : Nat) (h : t < 8) (hv : v < 4) (w : World) :
    Calls Tryd.prog 62 #[.int .u8 (t : Int), .int .i64 (v : Int)] w fun e w' => e = .returned (.int .u8 ((toN t v : Nat) : Int)) ∧ w' = w := by
  rcases four hv with rfl | rfl | rfl | rfl
  · obtain ⟨v0, v1, v2, v3, v4, v5, v6, v7⟩ := to_tab0
    rcases eight h with rfl | rfl | rfl | rfl | rfl | rfl | rfl | rfl
    all_goals
      simp only [v0, v1, v2, v3, v4, v5, v6, v7]
      clear v0 v1 v2 v3 v4 v5 v6 v7 h hv
      go_enter Tryd.func62, Tryd.ntmps62
      go_wp2
      go_ret
      exact ⟨rfl, rfl⟩
  · obtain ⟨v0, v1, v2, v3, v4, v5, v6, v7⟩ := to_tab1
    rcases eight h with rfl | rfl | rfl | rfl | rfl | rfl | rfl | rfl
    all_goals
      simp only [v0, v1, v2, v3, v4, v5, v6, v7]
      clear v0 v1 v2 v3 v4 v5 v6 v7 h hv
      go_enter Tryd.func62, Tryd.ntmps62
      go_wp2
      go_ret
      exact ⟨rfl, rfl⟩
  · obtain ⟨v0, v1, v2, v3, v4, v5, v6, v7⟩ := to_tab2
    rcases eight h with rfl | rfl | rfl | rfl | rfl | rfl | rfl | rfl
    all_goals
      simp only [v0, v1, v2, v3, v4, v5, v6, v7]
      clear v0 v1 v2 v3 v4 v5 v6 v7 h hv
      go_enter Tryd.func62, Tryd.ntmps62
      go_wp2
      go_ret
      exact ⟨rfl, rfl⟩
  · obtain ⟨v0, v1, v2, v3, v4, v5, v6, v7⟩ := to_tab3
    rcases eight h with rfl | rfl | rfl | rfl | rfl | rfl | rfl | rfl
    all_goals
      simp only [v0, v1, v2, v3, v4, v5, v6, v7]
      clear v0 v1 v2 v3 v4 v5 v6 v7 h hv
      go_enter Tryd.func62, Tryd.ntmps62
      go_wp2
      go_ret
      exact ⟨rfl, rfl⟩
end Go.Proofs.YtdbflmceomnmlaaDoor
