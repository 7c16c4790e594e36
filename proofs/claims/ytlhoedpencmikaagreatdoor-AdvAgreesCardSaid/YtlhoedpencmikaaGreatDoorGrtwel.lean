/- The document's answers for layer 12 (package atlasref12), and a leaf's address: the same as package entry's. -/
import Derived.Test.YtlhoedpencmikaaGreatDoorGtwel
import Derived.Test.YtlhoedpencmikaaGreatDoorRfive
import Derived.Test.YtlhoedpencmikaaGreatDoorGrsix
namespace Go.Proofs.YtlhoedpencmikaaGreatDoor
open Go.ChangeShapes Go.WideShapes Go.ChangeAt Go.RowKit
set_option linter.unusedVariables false
set_option linter.unusedSimpArgs false
set_option maxRecDepth 10000

theorem rpages_l (l s p : Int) (hs : (s = 4096 ∧ p = 1) ∨ (s = 2097152 ∧ p = 512) ∨ (s = 1073741824 ∧ p = 262144)) (hz : ∀ w, Calls Tryz.prog 113 #[.int .i64 l] w fun e w' => e = .returned (.int .u64 s) ∧ w = w') (w : World) :
    Calls Tryz.prog 68 #[.int .i64 l] w fun e w' => e = .returned (.int .u64 p) ∧ w = w' := by
  rcases hs with ⟨rfl, rfl⟩ | ⟨rfl, rfl⟩ | ⟨rfl, rfl⟩
  all_goals
    go_enter Tryz.func68, Tryz.ntmps68
    go_wp2_with (go_at_call 113; refine (hz _).mono ?_; rintro e w' ⟨rfl, rfl⟩)
    go_ret
    exact ⟨rfl, rfl⟩
theorem siz_pag {l : Int} (l0 : 0 ≤ l) (l2 : l ≤ 2) : (sizI l = 4096 ∧ pagI l = 1) ∨ (sizI l = 2097152 ∧ pagI l = 512) ∨ (sizI l = 1073741824 ∧ pagI l = 262144) := by
  rcases level_lt l0 l2 with rfl | rfl | rfl
  · exact .inl ⟨siz0, pag0⟩
  · exact .inr (.inl ⟨siz1, pag1⟩)
  · exact .inr (.inr ⟨siz2, pag2⟩)
theorem rpages_c (l : Int) (l0 : 0 ≤ l) (l2 : l ≤ 2) (w : World) :
    Calls Tryz.prog 68 #[.int .i64 l] w fun e w' => e = .returned (.int .u64 (pagI l)) ∧ w = w' :=
  rpages_l l (sizI l) (pagI l) (siz_pag l0 l2) (fun w => rsize5_c l l0 l2 w) w
theorem pag_three {l : Int} (l0 : 0 ≤ l) (l2 : l ≤ 2) : pagI l = 1 ∨ pagI l = 512 ∨ pagI l = 262144 := by
  rcases siz_pag l0 l2 with ⟨_, h⟩ | ⟨_, h⟩ | ⟨_, h⟩ <;> simp [h]

/-! Covers, Matches, Physical, Over -/
end Go.Proofs.YtlhoedpencmikaaGreatDoor
/- The document's answers for layer 12: Of, May; a leaf whose Ppn may be of its level. -/
namespace Go.Proofs.YtlhoedpencmikaaGreatDoor
open Go.ChangeShapes Go.WideShapes Go.ChangeAt Go.RowKit
set_option linter.unusedVariables false
set_option linter.unusedSimpArgs false
set_option maxRecDepth 10000

set_option maxHeartbeats 1000000 in
theorem rof12_c (l : Lf) (hl : leafE l = true) (a n : Nat) (a1 : a < 18446744073709551616) (w : World) :
    Calls Tryz.prog 33 #[.agg (lfC l), .int .u64 (a : Int), .int .u64 (n : Int)] w fun r w' => r = .returned (.agg (enC (ofE l a n))) ∧ Ext w w' := by
  obtain ⟨W0, hW⟩ : ∃ W0, W0 = (w.alloc (.cells (lfC l) 75)).alloc (.cells #[.bool false, .int .u64 0, .bool false, .int .i64 0, .int .u64 0, .int .u64 0, .bool false, .bool false, .bool false, .bool false, .bool false] 66) := ⟨_, rfl⟩
  have HE : Hid (Ext w W0) := Lib.hid (by rw [hW]; exact ((Ext.refl w).alloc _).alloc _)
  have h1 : Blk W0 w.heap.size 75 (lfC l) := by rw [hW]; exact (Blk.new w _ _).alloc _
  have h2 : Blk W0 (w.heap.size + 1) 66 #[.bool false, .int .u64 0, .bool false, .int .i64 0, .int .u64 0, .int .u64 0, .bool false, .bool false, .bool false, .bool false, .bool false] := by rw [hW]; exact blk_at (by simp)
  have hnu := fun w => rnumber5_c (a : Int) (by omega) (by omega) w
  have hk := leaf_v hl
  have hpg := fun w => rpages_c l.lv hk.l0 hk.l2 w
  have hpm := rperm_c l.pt
  have hbd := ofE_build l a n
  have hps : w.heap.size + 2 ≤ W0.heap.size := by rw [hW]; simp
  rw [of_ref hl a n] at hbd
  obtain ⟨n0, n1⟩ := num_lt (a : Int)
  generalize numI (a : Int) = v at hnu hbd n0 n1
  generalize ofE l a n = e at hbd ⊢
  have HW := Lib.hid hW
  clear hW
  rcases pag_three hk.l0 hk.l2 with hp | hp | hp
  all_goals
    rw [hp] at hpg hbd
    (try rw [Int.emod_one, Int.sub_zero] at hbd)
    clear hp hk
    go_enter Tryz.func33, Tryz.ntmps33
    go_wp2_with (go_at_call 67; refine (hnu _).mono ?_; rintro e w' ⟨rfl, rfl⟩)
    rw [← HW.out]
    clear HW
    (try replace h1 := Blk.drew h1); (try replace h2 := Blk.drew h2); replace HE := Lib.hid HE.out.drew
    refine wp_region_seq [(0, false), (1, false), (2, false), (3, false), (4, false), (5, false), (6, false), (7, false), (8, false), (9, false), (13, false), (14, false), (15, false), (16, false), (17, false), (19, false), (20, false), (21, false), (10, true), (11, false), (12, false), (18, true), (22, false), (23, true)] (Gap (w.heap.size + 1) (w.heap.size + 2)) (by kernel_rfl) (by kernel_rfl) (Gap.refl _ _) (fun _ _ _ => Gap.trans) ?_; simp only [List.map, nth_z, nth_s]
    (repeat (first | (refine seq_skip (by rfl) ?_; intro K hK; simp only [Act.put, List.setIfInBounds_toArray, List.set_cons_zero, List.set_cons_succ]; refine hK _ ?_; clear hK K) | (refine seq_skipc (by rfl) ?_; intro K hK; simp only [Act.put, List.setIfInBounds_toArray, List.set_cons_zero, List.set_cons_succ]; refine hK _ ?_; clear hK K) | (refine seq_read (by rfl) (by rfl) ?_; intro K hK; go_big_quiet_op; first | go_big_quiet_on | (refine ⟨_, fun _ _ => rfl, ?_⟩; go_big_quiet_on))))
    refine seq_value (.bool l.pt.g) (by rfl) (fun x hx => by have hq := ((Gap.blk hx (h1) (by omega)).cell 7).trans (lfC_7 l); simp [go_sem, execOp, Act.eval, hq]) ?_; intro K hK; simp only [Act.put, List.setIfInBounds_toArray, List.set_cons_zero, List.set_cons_succ]; refine hK _ ?_; clear hK K
    (repeat (first | (refine seq_skip (by rfl) ?_; intro K hK; simp only [Act.put, List.setIfInBounds_toArray, List.set_cons_zero, List.set_cons_succ]; refine hK _ ?_; clear hK K) | (refine seq_skipc (by rfl) ?_; intro K hK; simp only [Act.put, List.setIfInBounds_toArray, List.set_cons_zero, List.set_cons_succ]; refine hK _ ?_; clear hK K) | (refine seq_read (by rfl) (by rfl) ?_; intro K hK; go_big_quiet_op; first | go_big_quiet_on | (refine ⟨_, fun _ _ => rfl, ?_⟩; go_big_quiet_on))))
    refine seq_value (.int .i64 l.lv) (by rfl) (fun x hx => by have hq := ((Gap.blk hx (h1) (by omega)).cell 0).trans (lfC_lv l); simp [go_sem, execOp, Act.eval, hq]) ?_; intro K hK; simp only [Act.put, List.setIfInBounds_toArray, List.set_cons_zero, List.set_cons_succ]; refine hK _ ?_; clear hK K
    (repeat (first | (refine seq_skip (by rfl) ?_; intro K hK; simp only [Act.put, List.setIfInBounds_toArray, List.set_cons_zero, List.set_cons_succ]; refine hK _ ?_; clear hK K) | (refine seq_skipc (by rfl) ?_; intro K hK; simp only [Act.put, List.setIfInBounds_toArray, List.set_cons_zero, List.set_cons_succ]; refine hK _ ?_; clear hK K) | (refine seq_read (by rfl) (by rfl) ?_; intro K hK; go_big_quiet_op; first | go_big_quiet_on | (refine ⟨_, fun _ _ => rfl, ?_⟩; go_big_quiet_on))))
    refine seq_value (.int .i64 l.lv) (by rfl) (fun x hx => by have hq := ((Gap.blk hx (h1) (by omega)).cell 0).trans (lfC_lv l); simp [go_sem, execOp, Act.eval, hq]) ?_; intro K hK; simp only [Act.put, List.setIfInBounds_toArray, List.set_cons_zero, List.set_cons_succ]; refine hK _ ?_; clear hK K
    (repeat (first | (refine seq_skip (by rfl) ?_; intro K hK; simp only [Act.put, List.setIfInBounds_toArray, List.set_cons_zero, List.set_cons_succ]; refine hK _ ?_; clear hK K) | (refine seq_skipc (by rfl) ?_; intro K hK; simp only [Act.put, List.setIfInBounds_toArray, List.set_cons_zero, List.set_cons_succ]; refine hK _ ?_; clear hK K) | (refine seq_read (by rfl) (by rfl) ?_; intro K hK; go_big_quiet_op; first | go_big_quiet_on | (refine ⟨_, fun _ _ => rfl, ?_⟩; go_big_quiet_on))))
    refine seq_value (.int .u64 (l.pt.pp : Int)) (by rfl) (fun x hx => by have hq := ((Gap.blk hx (h1) (by omega)).cell 11).trans (lfC_11 l); simp [go_sem, execOp, Act.eval, hq]) ?_; intro K hK; simp only [Act.put, List.setIfInBounds_toArray, List.set_cons_zero, List.set_cons_succ]; refine hK _ ?_; clear hK K
    (repeat (first | (refine seq_skip (by rfl) ?_; intro K hK; simp only [Act.put, List.setIfInBounds_toArray, List.set_cons_zero, List.set_cons_succ]; refine hK _ ?_; clear hK K) | (refine seq_skipc (by rfl) ?_; intro K hK; simp only [Act.put, List.setIfInBounds_toArray, List.set_cons_zero, List.set_cons_succ]; refine hK _ ?_; clear hK K) | (refine seq_read (by rfl) (by rfl) ?_; intro K hK; go_big_quiet_op; first | go_big_quiet_on | (refine ⟨_, fun _ _ => rfl, ?_⟩; go_big_quiet_on))))
    refine seq_load_part rfl rfl ((fun x hx => Gap.blk hx h1 (by omega))) (lfC_pt l) rfl Tryz.underlying73 (pt_info _) (by rfl) ?_; intro K hK; simp only [Act.put, List.setIfInBounds_toArray, List.set_cons_zero, List.set_cons_succ]; refine hK _ ?_; clear hK K
    (repeat (first | (refine seq_skip (by rfl) ?_; intro K hK; simp only [Act.put, List.setIfInBounds_toArray, List.set_cons_zero, List.set_cons_succ]; refine hK _ ?_; clear hK K) | (refine seq_skipc (by rfl) ?_; intro K hK; simp only [Act.put, List.setIfInBounds_toArray, List.set_cons_zero, List.set_cons_succ]; refine hK _ ?_; clear hK K) | (refine seq_read (by rfl) (by rfl) ?_; intro K hK; go_big_quiet_op; first | go_big_quiet_on | (refine ⟨_, fun _ _ => rfl, ?_⟩; go_big_quiet_on))))
    refine seq_value (.bool l.pt.d) (by rfl) (fun x hx => by have hq := ((Gap.blk hx (h1) (by omega)).cell 9).trans (lfC_9 l); simp [go_sem, execOp, Act.eval, hq]) ?_; intro K hK; simp only [Act.put, List.setIfInBounds_toArray, List.set_cons_zero, List.set_cons_succ]; refine hK _ ?_; clear hK K
    (repeat (first | (refine seq_skip (by rfl) ?_; intro K hK; simp only [Act.put, List.setIfInBounds_toArray, List.set_cons_zero, List.set_cons_succ]; refine hK _ ?_; clear hK K) | (refine seq_skipc (by rfl) ?_; intro K hK; simp only [Act.put, List.setIfInBounds_toArray, List.set_cons_zero, List.set_cons_succ]; refine hK _ ?_; clear hK K) | (refine seq_read (by rfl) (by rfl) ?_; intro K hK; go_big_quiet_op; first | go_big_quiet_on | (refine ⟨_, fun _ _ => rfl, ?_⟩; go_big_quiet_on))))
    refine seq_call (calls_ext (hpg _)) rfl Tryz.func68 (by kernel_rfl) (by kernel_rfl) (by rfl) (by rfl) ?_; intro K hK; rintro e w' ⟨rfl, hE⟩; refine ⟨_, rfl, (Gap.ext hE), ?_⟩; simp only [Act.put, List.setIfInBounds_toArray, List.set_cons_zero, List.set_cons_succ]; refine hK _ _ ?_; clear hK K; (try replace h1 := h1.ext hE); (try replace h2 := h2.ext hE); (try replace HE := Lib.hid (HE.out.trans hE))
    clear hE
    (repeat (first | (refine seq_skip (by rfl) ?_; intro K hK; simp only [Act.put, List.setIfInBounds_toArray, List.set_cons_zero, List.set_cons_succ]; refine hK _ ?_; clear hK K) | (refine seq_skipc (by rfl) ?_; intro K hK; simp only [Act.put, List.setIfInBounds_toArray, List.set_cons_zero, List.set_cons_succ]; refine hK _ ?_; clear hK K) | (refine seq_read (by rfl) (by rfl) ?_; intro K hK; go_big_quiet_op; first | go_big_quiet_on | (refine ⟨_, fun _ _ => rfl, ?_⟩; go_big_quiet_on))))
    refine seq_call (hpm _) rfl Tryz.func38 (by kernel_rfl) (by kernel_rfl) (by rfl) (by rfl) ?_; intro K hK; rintro e w' ⟨rfl, hE⟩; refine ⟨_, rfl, (Gap.ext hE), ?_⟩; simp only [Act.put, List.setIfInBounds_toArray, List.set_cons_zero, List.set_cons_succ]; refine hK _ _ ?_; clear hK K; (try replace h1 := h1.ext hE); (try replace h2 := h2.ext hE); (try replace HE := Lib.hid (HE.out.trans hE))
    clear hE
    refine seq_build_as rfl (hbd) (by rfl) ?_; intro K hK; simp only [Act.put, List.setIfInBounds_toArray, List.set_cons_zero, List.set_cons_succ]; refine hK _ ?_; clear hK K
    refine seq_store_row rfl rfl rfl (h2) (en_info _) (by simp [enC_size]) (enC_one _) (by rfl) (Gap.row _ (by omega) (by omega) _) ?_; intro K hK; simp only [Act.put, List.setIfInBounds_toArray, List.set_cons_zero, List.set_cons_succ]; refine hK _ _ ?_; clear hK K
    refine seq_done ?_
    go_wp2
    (try simp only [Exit.inBlock, Exit.then]); (try rw [Exit.noGoto_ret]); refine bodyPost_ret (results_cell_row rfl _ _ _ _ _ _ _ rfl ((h2.row _)) Tryz.underlying66 rfl (en_info _)) rfl ?_
    exact ⟨rfl, HE.out.row (by omega) _⟩

theorem mayE_n {e : En} (hv : e.v = false) : mayE e = decide (e = e0) := by unfold mayE; rw [if_neg (by simp [hv])]
theorem mayE_x {e : En} (hv : e.v = true) (h : ¬ (0 ≤ e.l ∧ e.l ≤ 2)) : mayE e = false := by
  unfold mayE
  rw [if_pos hv, decide_eq_false_iff_not]
  exact fun k => h ⟨k.1, k.2.1⟩
theorem mayE_y {e : En} (hv : e.v = true) (l0 : 0 ≤ e.l) (l2 : e.l ≤ 2) : mayE e = (decide ((e.vp : Int) < 134217728) && (decide ((e.pp : Int) < 17592186044416) && (decide ((e.n : Int) < 65536) && (((e.vp : Int) % pagI e.l == 0) && ((e.pp : Int) % pagI e.l == 0))))) := by
  unfold mayE
  rw [if_pos hv, Bool.eq_iff_iff]
  simp only [decide_eq_true_iff, Bool.and_eq_true, beq_iff_eq]
  constructor
  · rintro ⟨h1, h2, h3, h4, h5, h6, h7⟩; exact ⟨by omega, by omega, by omega, h6, h7⟩
  · rintro ⟨h3, h4, h5, h6, h7⟩; exact ⟨l0, l2, by omega, by omega, by omega, h6, h7⟩
set_option maxHeartbeats 4000000 in
theorem rmay_y (e : En) (hv : e.v = true) (lv p : Int) (hl : e.l = lv) (hlv : lv = 0 ∨ lv = 1 ∨ lv = 2) (hp : p = 1 ∨ p = 512 ∨ p = 262144) (hpg : ∀ w, Calls Tryz.prog 68 #[.int .i64 lv] w fun e w' => e = .returned (.int .u64 p) ∧ w = w') (w : World) :
    Calls Tryz.prog 131 #[.agg (enC e)] w fun r w' => r = .returned (.bool (decide ((e.vp : Int) < 134217728) && (decide ((e.pp : Int) < 17592186044416) && (decide ((e.n : Int) < 65536) && (((e.vp : Int) % p == 0) && ((e.pp : Int) % p == 0)))))) ∧ Ext w w' := by
  have h1 := Blk.new w 66 (enC e)
  have HE := Lib.hid ((Ext.refl w).alloc (.cells (enC e) 66))
  have x0 := h1.en_v
  rw [hv] at x0
  have x3 := h1.en_l
  rw [hl] at x3
  have x1 := h1.en_n
  have x4 := h1.en_vp
  have x5 := h1.en_pp
  clear h1 hl hv
  cases b1 : decide ((e.vp : Int) < 134217728)
  · rcases hlv with rfl | rfl | rfl
    all_goals
      clear hp
      go_enter Tryz.func131, Tryz.ntmps131
      go_wp2_with (go_at_call 68; refine (hpg _).mono ?_; rintro e w' ⟨rfl, rfl⟩)
      go_ret
      exact ⟨rfl, HE.out⟩
  cases b2 : decide ((e.pp : Int) < 17592186044416)
  · rcases hlv with rfl | rfl | rfl
    all_goals
      clear hp
      go_enter Tryz.func131, Tryz.ntmps131
      go_wp2_with (go_at_call 68; refine (hpg _).mono ?_; rintro e w' ⟨rfl, rfl⟩)
      go_ret
      exact ⟨rfl, HE.out⟩
  cases b3 : decide ((e.n : Int) < 65536)
  · rcases hlv with rfl | rfl | rfl
    all_goals
      clear hp
      go_enter Tryz.func131, Tryz.ntmps131
      go_wp2_with (go_at_call 68; refine (hpg _).mono ?_; rintro e w' ⟨rfl, rfl⟩)
      go_ret
      exact ⟨rfl, HE.out⟩
  rcases hp with rfl | rfl | rfl
  · rw [Int.emod_one, Int.emod_one]
    rcases hlv with rfl | rfl | rfl
    all_goals
      go_enter Tryz.func131, Tryz.ntmps131
      go_wp2_with (go_at_call 68; refine (hpg _).mono ?_; rintro e w' ⟨rfl, rfl⟩)
      go_ret
      exact ⟨rfl, HE.out⟩
  · cases b4 : ((e.vp : Int) % 512 == 0)
    all_goals
      rcases hlv with rfl | rfl | rfl
      all_goals
        go_enter Tryz.func131, Tryz.ntmps131
        go_wp2_with (go_at_call 68; refine (hpg _).mono ?_; rintro e w' ⟨rfl, rfl⟩)
        go_ret
        exact ⟨rfl, HE.out⟩
  · cases b4 : ((e.vp : Int) % 262144 == 0)
    all_goals
      rcases hlv with rfl | rfl | rfl
      all_goals
        go_enter Tryz.func131, Tryz.ntmps131
        go_wp2_with (go_at_call 68; refine (hpg _).mono ?_; rintro e w' ⟨rfl, rfl⟩)
        go_ret
        exact ⟨rfl, HE.out⟩
theorem rmay12_c (e : En) (w : World) :
    Calls Tryz.prog 131 #[.agg (enC e)] w fun r w' => r = .returned (.bool (mayE e)) ∧ Ext w w' := by
  cases hv : e.v
  · rw [mayE_n hv]
    have h1 := Blk.new w 66 (enC e)
    have HE := Lib.hid ((Ext.refl w).alloc (.cells (enC e) 66))
    have x0 := h1.en_v
    rw [hv] at x0
    have heq : ∀ w, (binOp .eql 66 (.agg (enC e)) (.agg (enC e0))).run Tryz.prog w = .ok (.bool (decide (e = e0))) w := fun w => by rw [eql_en]
    generalize decide (e = e0) = B at heq ⊢
    clear hv
    go_enter Tryz.func131, Tryz.ntmps131
    go_wp2_with (first | (refine wpList_load_blk (by rfl) 66 _ rfl rfl (by first | exact h1) Tryz.underlying66 rfl (by kernel_rfl) ?_) | (refine wpList_build_as (by rfl) rfl (e0_build) ?_) | (refine wpList_cmp (op := .eql) (by rfl) 66 rfl rfl rfl (en_guard) (heq) ?_))
    go_ret
    exact ⟨rfl, HE.out⟩
  · by_cases h : 0 ≤ e.l ∧ e.l ≤ 2
    · obtain ⟨l0, l2⟩ := h
      rw [mayE_y hv l0 l2]
      exact rmay_y e hv e.l (pagI e.l) rfl (level_lt l0 l2) (pag_three l0 l2) (fun w => rpages_c e.l l0 l2 w) w
    · rw [mayE_x hv h]
      have h1 := Blk.new w 66 (enC e)
      have HE := Lib.hid ((Ext.refl w).alloc (.cells (enC e) 66))
      have x0 := h1.en_v
      rw [hv] at x0
      have x3 := h1.en_l
      have y0 : (e.l != 0) = true := by simp; omega
      have y1 : (e.l != 1) = true := by simp; omega
      have y2 : (e.l != 2) = true := by simp; omega
      clear h hv
      go_enter Tryz.func131, Tryz.ntmps131
      go_wp2
      go_ret
      exact ⟨rfl, HE.out⟩
end Go.Proofs.YtlhoedpencmikaaGreatDoor
