/- The document's answers for layer 12 (package atlasref12), and a leaf's address: the same as package entry's. -/
import Derived.Test.YtlhoedpencmikaaDoorGtwel
import Derived.Test.YtlhoedpencmikaaDoorRfive
import Derived.Test.YtlhoedpencmikaaDoorGrsix
namespace Go.Proofs.YtlhoedpencmikaaDoor
open Go.ChangeShapes Go.WideShapes Go.ChangeAt Go.RowKit
set_option linter.unusedVariables false
set_option linter.unusedSimpArgs false
set_option maxRecDepth 10000

theorem rpages_l (l s p : Int) (hs : (s = 4096 ∧ p = 1) ∨ (s = 2097152 ∧ p = 512) ∨ (s = 1073741824 ∧ p = 262144)) (hz : ∀ w, Calls Tryd.prog 85 #[.int .i64 l] w fun e w' => e = .returned (.int .u64 s) ∧ w = w') (w : World) :
    Calls Tryd.prog 65 #[.int .i64 l] w fun e w' => e = .returned (.int .u64 p) ∧ w = w' := by
  rcases hs with ⟨rfl, rfl⟩ | ⟨rfl, rfl⟩ | ⟨rfl, rfl⟩
  all_goals
    go_enter Tryd.func65, Tryd.ntmps65
    go_wp2_with (go_at_call 85; refine (hz _).mono ?_; rintro e w' ⟨rfl, rfl⟩)
    go_ret
    exact ⟨rfl, rfl⟩
theorem siz_pag {l : Int} (l0 : 0 ≤ l) (l2 : l ≤ 2) : (sizI l = 4096 ∧ pagI l = 1) ∨ (sizI l = 2097152 ∧ pagI l = 512) ∨ (sizI l = 1073741824 ∧ pagI l = 262144) := by
  rcases level_lt l0 l2 with rfl | rfl | rfl
  · exact .inl ⟨siz0, pag0⟩
  · exact .inr (.inl ⟨siz1, pag1⟩)
  · exact .inr (.inr ⟨siz2, pag2⟩)
theorem rpages_c (l : Int) (l0 : 0 ≤ l) (l2 : l ≤ 2) (w : World) :
    Calls Tryd.prog 65 #[.int .i64 l] w fun e w' => e = .returned (.int .u64 (pagI l)) ∧ w = w' :=
  rpages_l l (sizI l) (pagI l) (siz_pag l0 l2) (fun w => rsize5_c l l0 l2 w) w
theorem pag_three {l : Int} (l0 : 0 ≤ l) (l2 : l ≤ 2) : pagI l = 1 ∨ pagI l = 512 ∨ pagI l = 262144 := by
  rcases siz_pag l0 l2 with ⟨_, h⟩ | ⟨_, h⟩ | ⟨_, h⟩ <;> simp [h]

/-! Covers, Matches, Physical, Over -/
end Go.Proofs.YtlhoedpencmikaaDoor
/- The document's answers for layer 12: Of, May; a leaf whose Ppn may be of its level. -/
namespace Go.Proofs.YtlhoedpencmikaaDoor
open Go.ChangeShapes Go.WideShapes Go.ChangeAt Go.RowKit
set_option linter.unusedVariables false
set_option linter.unusedSimpArgs false
set_option maxRecDepth 10000

theorem leafE_eq (l : Lf) : leafE l = (decide (0 ≤ l.lv) && (decide (l.lv ≤ 2) && (decide ((l.pt.pp : Int) < 17592186044416) && ((l.pt.pp : Int) % pagI l.lv == 0)))) := by
  unfold leafE
  rw [Bool.eq_iff_iff]
  simp only [decide_eq_true_iff, Bool.and_eq_true, beq_iff_eq]
  constructor <;> (rintro ⟨h1, h2, h3, h4⟩; exact ⟨h1, h2, by omega, h4⟩)
theorem mayE_n {e : En} (hv : e.v = false) : mayE e = decide (e = e0) := by unfold mayE; rw [if_neg (by simp [hv])]
theorem mayE_x {e : En} (hv : e.v = true) (h : ¬ (0 ≤ e.l ∧ e.l ≤ 2)) : mayE e = false := by
  unfold mayE
  rw [if_pos hv, decide_eq_false_iff_not]
  exact fun k => h ⟨k.1, k.2.1⟩
theorem mayE_y {e : En} (hv : e.v = true) (l0 : 0 ≤ e.l) (l2 : e.l ≤ 2) : mayE e = (decide ((e.vp : Int) < 134217728) && (decide ((e.pp : Int) < 17592186044416) && (decide ((e.n : Int) < 65536) && (((e.vp : Int) % pagI e.l == 0) && ((e.pp : Int) % pagI e.l == 0))))) := by
  unfold mayE
  rw [if_pos hv, Bool.eq_iff_iff]
  simp only [decide_eq_true_iff, Bool.and_eq_true, beq_iff_eq]
  constructor
  · rintro ⟨h1, h2, h3, h4, h5, h6, h7⟩; exact ⟨by omega, by omega, by omega, h6, h7⟩
  · rintro ⟨h3, h4, h5, h6, h7⟩; exact ⟨l0, l2, by omega, by omega, by omega, h6, h7⟩
set_option maxHeartbeats 4000000 in
theorem rmay_y (e : En) (hv : e.v = true) (lv p : Int) (hl : e.l = lv) (hlv : lv = 0 ∨ lv = 1 ∨ lv = 2) (hp : p = 1 ∨ p = 512 ∨ p = 262144) (hpg : ∀ w, Calls Tryd.prog 65 #[.int .i64 lv] w fun e w' => e = .returned (.int .u64 p) ∧ w = w') (w : World) :
    Calls Tryd.prog 64 #[.agg (enC e)] w fun r w' => r = .returned (.bool (decide ((e.vp : Int) < 134217728) && (decide ((e.pp : Int) < 17592186044416) && (decide ((e.n : Int) < 65536) && (((e.vp : Int) % p == 0) && ((e.pp : Int) % p == 0)))))) ∧ Ext w w' := by
  have h1 := Blk.new w 52 (enC e)
  have HE := Lib.hid ((Ext.refl w).alloc (.cells (enC e) 52))
  have x0 := h1.en_v
  rw [hv] at x0
  have x3 := h1.en_l
  rw [hl] at x3
  have x1 := h1.en_n
  have x4 := h1.en_vp
  have x5 := h1.en_pp
  clear h1 hl hv
  cases b1 : decide ((e.vp : Int) < 134217728)
  · rcases hlv with rfl | rfl | rfl
    all_goals
      clear hp
      go_enter Tryd.func64, Tryd.ntmps64
      go_wp2_with (go_at_call 65; refine (hpg _).mono ?_; rintro e w' ⟨rfl, rfl⟩)
      go_ret
      exact ⟨rfl, HE.out⟩
  cases b2 : decide ((e.pp : Int) < 17592186044416)
  · rcases hlv with rfl | rfl | rfl
    all_goals
      clear hp
      go_enter Tryd.func64, Tryd.ntmps64
      go_wp2_with (go_at_call 65; refine (hpg _).mono ?_; rintro e w' ⟨rfl, rfl⟩)
      go_ret
      exact ⟨rfl, HE.out⟩
  cases b3 : decide ((e.n : Int) < 65536)
  · rcases hlv with rfl | rfl | rfl
    all_goals
      clear hp
      go_enter Tryd.func64, Tryd.ntmps64
      go_wp2_with (go_at_call 65; refine (hpg _).mono ?_; rintro e w' ⟨rfl, rfl⟩)
      go_ret
      exact ⟨rfl, HE.out⟩
  rcases hp with rfl | rfl | rfl
  · rw [Int.emod_one, Int.emod_one]
    rcases hlv with rfl | rfl | rfl
    all_goals
      go_enter Tryd.func64, Tryd.ntmps64
      go_wp2_with (go_at_call 65; refine (hpg _).mono ?_; rintro e w' ⟨rfl, rfl⟩)
      go_ret
      exact ⟨rfl, HE.out⟩
  · cases b4 : ((e.vp : Int) % 512 == 0)
    all_goals
      rcases hlv with rfl | rfl | rfl
      all_goals
        go_enter Tryd.func64, Tryd.ntmps64
        go_wp2_with (go_at_call 65; refine (hpg _).mono ?_; rintro e w' ⟨rfl, rfl⟩)
        go_ret
        exact ⟨rfl, HE.out⟩
  · cases b4 : ((e.vp : Int) % 262144 == 0)
    all_goals
      rcases hlv with rfl | rfl | rfl
      all_goals
        go_enter Tryd.func64, Tryd.ntmps64
        go_wp2_with (go_at_call 65; refine (hpg _).mono ?_; rintro e w' ⟨rfl, rfl⟩)
        go_ret
        exact ⟨rfl, HE.out⟩
theorem rmay12_c (e : En) (w : World) :
    Calls Tryd.prog 64 #[.agg (enC e)] w fun r w' => r = .returned (.bool (mayE e)) ∧ Ext w w' := by
  cases hv : e.v
  · rw [mayE_n hv]
    have h1 := Blk.new w 52 (enC e)
    have HE := Lib.hid ((Ext.refl w).alloc (.cells (enC e) 52))
    have x0 := h1.en_v
    rw [hv] at x0
    have heq : ∀ w, (binOp .eql 52 (.agg (enC e)) (.agg (enC e0))).run Tryd.prog w = .ok (.bool (decide (e = e0))) w := fun w => by rw [eql_en]
    generalize decide (e = e0) = B at heq ⊢
    clear hv
    go_enter Tryd.func64, Tryd.ntmps64
    go_wp2_with (first | (refine wpList_load_blk (by rfl) 52 _ rfl rfl (by first | exact h1) Tryd.underlying52 rfl (by kernel_rfl) ?_) | (refine wpList_build_as (by rfl) rfl (e0_build) ?_) | (refine wpList_cmp (op := .eql) (by rfl) 52 rfl rfl rfl (en_guard) (heq) ?_))
    go_ret
    exact ⟨rfl, HE.out⟩
  · by_cases h : 0 ≤ e.l ∧ e.l ≤ 2
    · obtain ⟨l0, l2⟩ := h
      rw [mayE_y hv l0 l2]
      exact rmay_y e hv e.l (pagI e.l) rfl (level_lt l0 l2) (pag_three l0 l2) (fun w => rpages_c e.l l0 l2 w) w
    · rw [mayE_x hv h]
      have h1 := Blk.new w 52 (enC e)
      have HE := Lib.hid ((Ext.refl w).alloc (.cells (enC e) 52))
      have x0 := h1.en_v
      rw [hv] at x0
      have x3 := h1.en_l
      have y0 : (e.l != 0) = true := by simp; omega
      have y1 : (e.l != 1) = true := by simp; omega
      have y2 : (e.l != 2) = true := by simp; omega
      clear h hv
      go_enter Tryd.func64, Tryd.ntmps64
      go_wp2
      go_ret
      exact ⟨rfl, HE.out⟩
end Go.Proofs.YtlhoedpencmikaaDoor
