/- Layer 6: awake answers true. -/
import Derived.Test.YtdifjgppnfcnnaaDoorCput
import Derived.Test.YtdifjgppnfcnnaaDoorCbad
namespace Go.Proofs.YtdifjgppnfcnnaaDoor
open Go.ChangeShapes Go.WideShapes Go.ChangeAt Go.RowKit
set_option linter.unusedVariables false
set_option linter.unusedSimpArgs false

def P0 : Pt := ⟨true, true, false, false, true, false, false, false, 0, 5, 0⟩
theorem P0_ok : P0.ok := by unfold Pt.ok P0; decide
theorem P0_make : makeP 5 ⟨true, false, false, true⟩ false = P0 := by unfold makeP P0; rfl
theorem P0_may : mayB P0 = true := by unfold mayB P0; rfl
theorem P0_put : putN P0 = 5139 := by unfold putN P0; simp only [bsum_succ, bsum_zero, ptB, Bool.toNat]; decide
theorem P0_get : getP 5139 = P0 := by rw [← P0_put, get_put P0_may]
theorem P0_leaf : leafB P0 = true := by unfold leafB P0; rfl
theorem P0_link : linkB P0 = false := by unfold linkB P0; rfl
theorem P0_bad0 : badB P0 0 = false := by unfold badB P0; decide
theorem P0_bad1 : badB P0 1 = true := by unfold badB P0; decide
theorem P0_perm : permP P0 = ⟨true, false, false, true⟩ := by unfold permP P0; rfl
theorem V_link : linkB ⟨true, false, false, false, false, false, false, false, 0, 0, 0⟩ = true := by unfold linkB; rfl
theorem V_bad0 : badB ⟨true, false, false, false, false, false, false, false, 0, 0, 0⟩ 0 = true := by unfold badB; decide
theorem V_bad1 : badB ⟨true, false, false, false, false, false, false, false, 0, 0, 0⟩ 1 = false := by unfold badB; decide
attribute [irreducible] P0
set_option maxRecDepth 100000 in
set_option maxHeartbeats 2000000 in
theorem awake6_c (w : World) (hT : Siz w) :
    Calls Tryd.prog 8 #[] w fun e w' => e = .returned (.bool true) ∧ Ext w w' := by
  have hmake : ∀ w, Calls Tryd.prog 21 #[.int .u64 5, .agg #[.bool true, .bool false, .bool false, .bool true], .bool false] w fun e w' => e = .returned (.agg (ptC P0)) ∧ Ext w w' := fun w => by
    have h := make_c 5 ⟨true, false, false, true⟩ false w
    rwa [P0_make, pmC_def] at h
  have hput := put_yes P0 P0_ok P0_may
  rw [P0_put] at hput
  have hput2 : ∀ w, Calls Tryd.prog 9 #[.agg #[.bool false, .bool false, .bool false, .bool false, .bool false, .bool false, .bool false, .bool false, .int .u64 4, .int .u64 0, .int .u64 0]] w fun e w' => e = .returned (.tuple #[.int .u64 0, .int .i64 1]) ∧ Ext w w' := fun w => by
    have h := put_no ⟨false, false, false, false, false, false, false, false, 4, 0, 0⟩ (by unfold Pt.ok; decide) (by unfold mayB; rfl) w
    rwa [ptC_def] at h
  have hget : ∀ w, Calls Tryd.prog 12 #[.int .u64 5139] w fun e w' => e = .returned (.agg (ptC P0)) ∧ Ext w w' := fun w => by
    have h := get_pte 5139 (by decide) w
    rwa [P0_get] at h
  have hleaf := leaf_c P0
  rw [P0_leaf] at hleaf
  have hlink := link_c P0
  rw [P0_link] at hlink
  have hmay := may_c P0 P0_ok
  rw [P0_may] at hmay
  have hbad0 : ∀ w, Siz w → Calls Tryd.prog 19 #[.agg (ptC P0), .int .i64 0] w fun e w' => e = .returned (.bool false) ∧ Ext w w' := fun w hT => by
    have h := bad_c P0 P0_ok 0 (by decide) (by decide) w hT
    rwa [P0_bad0] at h
  have hbad1 : ∀ w, Siz w → Calls Tryd.prog 19 #[.agg (ptC P0), .int .i64 1] w fun e w' => e = .returned (.bool true) ∧ Ext w w' := fun w hT => by
    have h := bad_c P0 P0_ok 1 (by decide) (by decide) w hT
    rwa [P0_bad1] at h
  have hlinkv : ∀ w, Calls Tryd.prog 17 #[.agg #[.bool true, .bool false, .bool false, .bool false, .bool false, .bool false, .bool false, .bool false, .int .u64 0, .int .u64 0, .int .u64 0]] w fun e w' => e = .returned (.bool true) ∧ Ext w w' := fun w => by
    have h := link_c ⟨true, false, false, false, false, false, false, false, 0, 0, 0⟩ w
    rwa [ptC_def, V_link] at h
  have hbadv0 : ∀ w, Siz w → Calls Tryd.prog 19 #[.agg #[.bool true, .bool false, .bool false, .bool false, .bool false, .bool false, .bool false, .bool false, .int .u64 0, .int .u64 0, .int .u64 0], .int .i64 0] w fun e w' => e = .returned (.bool true) ∧ Ext w w' := fun w hT => by
    have h := bad_c ⟨true, false, false, false, false, false, false, false, 0, 0, 0⟩ (by unfold Pt.ok; decide) 0 (by decide) (by decide) w hT
    rwa [ptC_def, V_bad0] at h
  have hbadv1 : ∀ w, Siz w → Calls Tryd.prog 19 #[.agg #[.bool true, .bool false, .bool false, .bool false, .bool false, .bool false, .bool false, .bool false, .int .u64 0, .int .u64 0, .int .u64 0], .int .i64 1] w fun e w' => e = .returned (.bool false) ∧ Ext w w' := fun w hT => by
    have h := bad_c ⟨true, false, false, false, false, false, false, false, 0, 0, 0⟩ (by unfold Pt.ok; decide) 1 (by decide) (by decide) w hT
    rwa [ptC_def, V_bad1] at h
  have hperm : ∀ w, Calls Tryd.prog 23 #[.agg (ptC P0)] w fun e w' => e = .returned (.agg #[.bool true, .bool false, .bool false, .bool true]) ∧ Ext w w' := fun w => by
    have h := perm_c P0 w
    rwa [P0_perm, pmC_def] at h
  have hq : ∀ w, (binOp .eql 34 (.agg #[.bool true, .bool false, .bool false, .bool true]) (.agg #[.bool true, .bool false, .bool false, .bool true])).run Tryd.prog w = .ok (.bool true) w := fun w => by
    have h := eql_perm w ⟨true, false, false, true⟩ ⟨true, false, false, true⟩
    rwa [pmC_def] at h
  have HE := Lib.hid (Ext.refl w)
  go_enter Tryd.func8, Tryd.ntmps8
  go_wp2_with fail; refine (hmake _).mono ?_; rintro e w1 ⟨rfl, hE⟩; replace HE := Lib.hid (HE.out.trans hE)
  replace HE := Lib.hid (HE.out.alloc (.cells (ptC P0) 24))
  have HT := Lib.hid ((hT.ext hE).ext ((Ext.refl w1).alloc (.cells (ptC P0) 24)))
  clear hE hmake hT
  have hb := Blk.new w1 24 (ptC P0)
  go_wp2_with first | (refine wpList_store_new rfl 24 _ _ rfl (ptC _) _ _ rfl rfl (pt_info _) (by simp [ptC_size, pmC_size]) (ptC_one _) ?_) | (refine wpList_load_blk (by rfl) 24 _ rfl rfl (by assumption) Tryd.underlying24 rfl (by kernel_rfl) ?_)
  refine (hput _).mono ?_
  rintro e w2 ⟨rfl, hE⟩
  replace HE := Lib.hid (HE.out.trans hE)
  replace hb := hb.ext hE
  replace HT := Lib.hid (HT.out.ext hE)
  clear hE hput
  go_wp2_with fail; refine (hput2 _).mono ?_; rintro e w3 ⟨rfl, hE⟩; replace HE := Lib.hid (HE.out.trans hE)
  replace hb := (hb.ext hE).drew
  replace HT := Lib.hid ((HT.out.ext hE).ext (Ext.refl _).drew)
  replace HE := Lib.hid HE.out.drew
  clear hE hput2
  go_wp2_with fail
  refine wp_region_seq [(0, false), (1, false), (2, false), (3, false), (4, false), (5, false), (6, false), (7, false), (9, false), (8, true), (10, false), (11, false), (12, false), (13, false), (14, false), (15, false), (16, false), (17, false), (18, true), (19, false), (20, false), (21, false), (22, true), (23, false), (24, false), (25, false), (26, false), (27, true), (28, false), (29, false), (30, false), (31, false), (32, true), (33, false), (34, false), (35, false), (36, true), (37, false), (38, false), (39, false), (40, true), (41, false), (42, false), (43, false), (44, true), (45, false), (46, false), (47, false), (48, false), (49, true), (50, false), (51, false), (52, false), (54, false), (53, true), (55, false), (56, false), (57, false)] Ext (by kernel_rfl) (by kernel_rfl) Ext.refl (fun _ _ _ => Ext.trans) ?_; simp only [List.map, nth_z, nth_s]
  (repeat (first | (refine seq_skip (by rfl) ?_; intro K hK; simp only [Act.put, List.setIfInBounds_toArray, List.set_cons_zero, List.set_cons_succ]; refine hK _ ?_; clear hK K) | (refine seq_skipc (by rfl) ?_; intro K hK; simp only [Act.put, List.setIfInBounds_toArray, List.set_cons_zero, List.set_cons_succ]; refine hK _ ?_; clear hK K) | (refine seq_read (by rfl) (by rfl) ?_; intro K hK; go_big_quiet_op; first | go_big_quiet_on | (refine ⟨_, fun _ _ => rfl, ?_⟩; go_big_quiet_on))))
  refine seq_load rfl rfl (fun x hx => Blk.ext (hb) hx) rfl Tryd.underlying24 (by kernel_rfl) (by rfl) ?_; intro K hK; simp only [Act.put, List.setIfInBounds_toArray, List.set_cons_zero, List.set_cons_succ]; refine hK _ ?_; clear hK K
  refine seq_call (hget _) rfl Tryd.func12 (by kernel_rfl) (by kernel_rfl) (by rfl) (by rfl) ?_; intro K hK; rintro e w' ⟨rfl, hE⟩; refine ⟨_, rfl, hE, ?_⟩; simp only [Act.put, List.setIfInBounds_toArray, List.set_cons_zero, List.set_cons_succ]; refine hK _ _ ?_; clear hK K; replace HE := Lib.hid (HE.out.trans hE); replace hb := hb.ext hE; replace HT := Lib.hid (HT.out.ext hE); clear hE
  refine seq_value (.bool true) (by rfl) (fun x hx => by simp [go_sem, execOp, Act.eval, eql_pte, run_eqGuard_agg _ _ _ _ _ _ _ pte_guard, run_eqGuard_agg _ _ _ _ _ _ _ perm_guard]) ?_; intro K hK; simp only [Act.put, List.setIfInBounds_toArray, List.set_cons_zero, List.set_cons_succ]; refine hK _ ?_; clear hK K
  (repeat (first | (refine seq_skip (by rfl) ?_; intro K hK; simp only [Act.put, List.setIfInBounds_toArray, List.set_cons_zero, List.set_cons_succ]; refine hK _ ?_; clear hK K) | (refine seq_skipc (by rfl) ?_; intro K hK; simp only [Act.put, List.setIfInBounds_toArray, List.set_cons_zero, List.set_cons_succ]; refine hK _ ?_; clear hK K) | (refine seq_read (by rfl) (by rfl) ?_; intro K hK; go_big_quiet_op; first | go_big_quiet_on | (refine ⟨_, fun _ _ => rfl, ?_⟩; go_big_quiet_on))))
  refine seq_load rfl rfl (fun x hx => Blk.ext (hb) hx) rfl Tryd.underlying24 (by kernel_rfl) (by rfl) ?_; intro K hK; simp only [Act.put, List.setIfInBounds_toArray, List.set_cons_zero, List.set_cons_succ]; refine hK _ ?_; clear hK K
  refine seq_call (hleaf _) rfl Tryd.func15 (by kernel_rfl) (by kernel_rfl) (by rfl) (by rfl) ?_; intro K hK; rintro e w' ⟨rfl, hE⟩; refine ⟨_, rfl, hE, ?_⟩; simp only [Act.put, List.setIfInBounds_toArray, List.set_cons_zero, List.set_cons_succ]; refine hK _ _ ?_; clear hK K; replace HE := Lib.hid (HE.out.trans hE); replace hb := hb.ext hE; replace HT := Lib.hid (HT.out.ext hE); clear hE
  (repeat (first | (refine seq_skip (by rfl) ?_; intro K hK; simp only [Act.put, List.setIfInBounds_toArray, List.set_cons_zero, List.set_cons_succ]; refine hK _ ?_; clear hK K) | (refine seq_skipc (by rfl) ?_; intro K hK; simp only [Act.put, List.setIfInBounds_toArray, List.set_cons_zero, List.set_cons_succ]; refine hK _ ?_; clear hK K) | (refine seq_read (by rfl) (by rfl) ?_; intro K hK; go_big_quiet_op; first | go_big_quiet_on | (refine ⟨_, fun _ _ => rfl, ?_⟩; go_big_quiet_on))))
  refine seq_load rfl rfl (fun x hx => Blk.ext (hb) hx) rfl Tryd.underlying24 (by kernel_rfl) (by rfl) ?_; intro K hK; simp only [Act.put, List.setIfInBounds_toArray, List.set_cons_zero, List.set_cons_succ]; refine hK _ ?_; clear hK K
  refine seq_call (hlink _) rfl Tryd.func17 (by kernel_rfl) (by kernel_rfl) (by rfl) (by rfl) ?_; intro K hK; rintro e w' ⟨rfl, hE⟩; refine ⟨_, rfl, hE, ?_⟩; simp only [Act.put, List.setIfInBounds_toArray, List.set_cons_zero, List.set_cons_succ]; refine hK _ _ ?_; clear hK K; replace HE := Lib.hid (HE.out.trans hE); replace hb := hb.ext hE; replace HT := Lib.hid (HT.out.ext hE); clear hE
  (repeat (first | (refine seq_skip (by rfl) ?_; intro K hK; simp only [Act.put, List.setIfInBounds_toArray, List.set_cons_zero, List.set_cons_succ]; refine hK _ ?_; clear hK K) | (refine seq_skipc (by rfl) ?_; intro K hK; simp only [Act.put, List.setIfInBounds_toArray, List.set_cons_zero, List.set_cons_succ]; refine hK _ ?_; clear hK K) | (refine seq_read (by rfl) (by rfl) ?_; intro K hK; go_big_quiet_op; first | go_big_quiet_on | (refine ⟨_, fun _ _ => rfl, ?_⟩; go_big_quiet_on))))
  refine seq_load rfl rfl (fun x hx => Blk.ext (hb) hx) rfl Tryd.underlying24 (by kernel_rfl) (by rfl) ?_; intro K hK; simp only [Act.put, List.setIfInBounds_toArray, List.set_cons_zero, List.set_cons_succ]; refine hK _ ?_; clear hK K
  refine seq_call (hbad0 _ HT.out) rfl Tryd.func19 (by kernel_rfl) (by kernel_rfl) (by rfl) (by rfl) ?_; intro K hK; rintro e w' ⟨rfl, hE⟩; refine ⟨_, rfl, hE, ?_⟩; simp only [Act.put, List.setIfInBounds_toArray, List.set_cons_zero, List.set_cons_succ]; refine hK _ _ ?_; clear hK K; replace HE := Lib.hid (HE.out.trans hE); replace hb := hb.ext hE; replace HT := Lib.hid (HT.out.ext hE); clear hE
  (repeat (first | (refine seq_skip (by rfl) ?_; intro K hK; simp only [Act.put, List.setIfInBounds_toArray, List.set_cons_zero, List.set_cons_succ]; refine hK _ ?_; clear hK K) | (refine seq_skipc (by rfl) ?_; intro K hK; simp only [Act.put, List.setIfInBounds_toArray, List.set_cons_zero, List.set_cons_succ]; refine hK _ ?_; clear hK K) | (refine seq_read (by rfl) (by rfl) ?_; intro K hK; go_big_quiet_op; first | go_big_quiet_on | (refine ⟨_, fun _ _ => rfl, ?_⟩; go_big_quiet_on))))
  refine seq_load rfl rfl (fun x hx => Blk.ext (hb) hx) rfl Tryd.underlying24 (by kernel_rfl) (by rfl) ?_; intro K hK; simp only [Act.put, List.setIfInBounds_toArray, List.set_cons_zero, List.set_cons_succ]; refine hK _ ?_; clear hK K
  refine seq_call (hbad1 _ HT.out) rfl Tryd.func19 (by kernel_rfl) (by kernel_rfl) (by rfl) (by rfl) ?_; intro K hK; rintro e w' ⟨rfl, hE⟩; refine ⟨_, rfl, hE, ?_⟩; simp only [Act.put, List.setIfInBounds_toArray, List.set_cons_zero, List.set_cons_succ]; refine hK _ _ ?_; clear hK K; replace HE := Lib.hid (HE.out.trans hE); replace hb := hb.ext hE; replace HT := Lib.hid (HT.out.ext hE); clear hE
  (repeat (first | (refine seq_skip (by rfl) ?_; intro K hK; simp only [Act.put, List.setIfInBounds_toArray, List.set_cons_zero, List.set_cons_succ]; refine hK _ ?_; clear hK K) | (refine seq_skipc (by rfl) ?_; intro K hK; simp only [Act.put, List.setIfInBounds_toArray, List.set_cons_zero, List.set_cons_succ]; refine hK _ ?_; clear hK K) | (refine seq_read (by rfl) (by rfl) ?_; intro K hK; go_big_quiet_op; first | go_big_quiet_on | (refine ⟨_, fun _ _ => rfl, ?_⟩; go_big_quiet_on))))
  refine seq_value (.agg #[.bool true, .bool false, .bool false, .bool false, .bool false, .bool false, .bool false, .bool false, .int .u64 0, .int .u64 0, .int .u64 0]) (by rfl) (fun x hx => by simp [go_sem, execOp, Act.eval]) ?_; intro K hK; simp only [Act.put, List.setIfInBounds_toArray, List.set_cons_zero, List.set_cons_succ]; refine hK _ ?_; clear hK K
  refine seq_call (hlinkv _) rfl Tryd.func17 (by kernel_rfl) (by kernel_rfl) (by rfl) (by rfl) ?_; intro K hK; rintro e w' ⟨rfl, hE⟩; refine ⟨_, rfl, hE, ?_⟩; simp only [Act.put, List.setIfInBounds_toArray, List.set_cons_zero, List.set_cons_succ]; refine hK _ _ ?_; clear hK K; replace HE := Lib.hid (HE.out.trans hE); replace hb := hb.ext hE; replace HT := Lib.hid (HT.out.ext hE); clear hE
  (repeat (first | (refine seq_skip (by rfl) ?_; intro K hK; simp only [Act.put, List.setIfInBounds_toArray, List.set_cons_zero, List.set_cons_succ]; refine hK _ ?_; clear hK K) | (refine seq_skipc (by rfl) ?_; intro K hK; simp only [Act.put, List.setIfInBounds_toArray, List.set_cons_zero, List.set_cons_succ]; refine hK _ ?_; clear hK K) | (refine seq_read (by rfl) (by rfl) ?_; intro K hK; go_big_quiet_op; first | go_big_quiet_on | (refine ⟨_, fun _ _ => rfl, ?_⟩; go_big_quiet_on))))
  refine seq_value (.agg #[.bool true, .bool false, .bool false, .bool false, .bool false, .bool false, .bool false, .bool false, .int .u64 0, .int .u64 0, .int .u64 0]) (by rfl) (fun x hx => by simp [go_sem, execOp, Act.eval]) ?_; intro K hK; simp only [Act.put, List.setIfInBounds_toArray, List.set_cons_zero, List.set_cons_succ]; refine hK _ ?_; clear hK K
  refine seq_call (hbadv0 _ HT.out) rfl Tryd.func19 (by kernel_rfl) (by kernel_rfl) (by rfl) (by rfl) ?_; intro K hK; rintro e w' ⟨rfl, hE⟩; refine ⟨_, rfl, hE, ?_⟩; simp only [Act.put, List.setIfInBounds_toArray, List.set_cons_zero, List.set_cons_succ]; refine hK _ _ ?_; clear hK K; replace HE := Lib.hid (HE.out.trans hE); replace hb := hb.ext hE; replace HT := Lib.hid (HT.out.ext hE); clear hE
  (repeat (first | (refine seq_skip (by rfl) ?_; intro K hK; simp only [Act.put, List.setIfInBounds_toArray, List.set_cons_zero, List.set_cons_succ]; refine hK _ ?_; clear hK K) | (refine seq_skipc (by rfl) ?_; intro K hK; simp only [Act.put, List.setIfInBounds_toArray, List.set_cons_zero, List.set_cons_succ]; refine hK _ ?_; clear hK K) | (refine seq_read (by rfl) (by rfl) ?_; intro K hK; go_big_quiet_op; first | go_big_quiet_on | (refine ⟨_, fun _ _ => rfl, ?_⟩; go_big_quiet_on))))
  refine seq_value (.agg #[.bool true, .bool false, .bool false, .bool false, .bool false, .bool false, .bool false, .bool false, .int .u64 0, .int .u64 0, .int .u64 0]) (by rfl) (fun x hx => by simp [go_sem, execOp, Act.eval]) ?_; intro K hK; simp only [Act.put, List.setIfInBounds_toArray, List.set_cons_zero, List.set_cons_succ]; refine hK _ ?_; clear hK K
  refine seq_call (hbadv1 _ HT.out) rfl Tryd.func19 (by kernel_rfl) (by kernel_rfl) (by rfl) (by rfl) ?_; intro K hK; rintro e w' ⟨rfl, hE⟩; refine ⟨_, rfl, hE, ?_⟩; simp only [Act.put, List.setIfInBounds_toArray, List.set_cons_zero, List.set_cons_succ]; refine hK _ _ ?_; clear hK K; replace HE := Lib.hid (HE.out.trans hE); replace hb := hb.ext hE; replace HT := Lib.hid (HT.out.ext hE); clear hE
  (repeat (first | (refine seq_skip (by rfl) ?_; intro K hK; simp only [Act.put, List.setIfInBounds_toArray, List.set_cons_zero, List.set_cons_succ]; refine hK _ ?_; clear hK K) | (refine seq_skipc (by rfl) ?_; intro K hK; simp only [Act.put, List.setIfInBounds_toArray, List.set_cons_zero, List.set_cons_succ]; refine hK _ ?_; clear hK K) | (refine seq_read (by rfl) (by rfl) ?_; intro K hK; go_big_quiet_op; first | go_big_quiet_on | (refine ⟨_, fun _ _ => rfl, ?_⟩; go_big_quiet_on))))
  refine seq_load rfl rfl (fun x hx => Blk.ext (hb) hx) rfl Tryd.underlying24 (by kernel_rfl) (by rfl) ?_; intro K hK; simp only [Act.put, List.setIfInBounds_toArray, List.set_cons_zero, List.set_cons_succ]; refine hK _ ?_; clear hK K
  refine seq_call (hmay _) rfl Tryd.func10 (by kernel_rfl) (by kernel_rfl) (by rfl) (by rfl) ?_; intro K hK; rintro e w' ⟨rfl, hE⟩; refine ⟨_, rfl, hE, ?_⟩; simp only [Act.put, List.setIfInBounds_toArray, List.set_cons_zero, List.set_cons_succ]; refine hK _ _ ?_; clear hK K; replace HE := Lib.hid (HE.out.trans hE); replace hb := hb.ext hE; replace HT := Lib.hid (HT.out.ext hE); clear hE
  (repeat (first | (refine seq_skip (by rfl) ?_; intro K hK; simp only [Act.put, List.setIfInBounds_toArray, List.set_cons_zero, List.set_cons_succ]; refine hK _ ?_; clear hK K) | (refine seq_skipc (by rfl) ?_; intro K hK; simp only [Act.put, List.setIfInBounds_toArray, List.set_cons_zero, List.set_cons_succ]; refine hK _ ?_; clear hK K) | (refine seq_read (by rfl) (by rfl) ?_; intro K hK; go_big_quiet_op; first | go_big_quiet_on | (refine ⟨_, fun _ _ => rfl, ?_⟩; go_big_quiet_on))))
  refine seq_load rfl rfl (fun x hx => Blk.ext (hb) hx) rfl Tryd.underlying24 (by kernel_rfl) (by rfl) ?_; intro K hK; simp only [Act.put, List.setIfInBounds_toArray, List.set_cons_zero, List.set_cons_succ]; refine hK _ ?_; clear hK K
  refine seq_value (.agg #[.bool true, .bool false, .bool false, .bool true]) (by rfl) (fun x hx => by simp [go_sem, execOp, Act.eval]) ?_; intro K hK; simp only [Act.put, List.setIfInBounds_toArray, List.set_cons_zero, List.set_cons_succ]; refine hK _ ?_; clear hK K
  refine seq_call (hperm _) rfl Tryd.func23 (by kernel_rfl) (by kernel_rfl) (by rfl) (by rfl) ?_; intro K hK; rintro e w' ⟨rfl, hE⟩; refine ⟨_, rfl, hE, ?_⟩; simp only [Act.put, List.setIfInBounds_toArray, List.set_cons_zero, List.set_cons_succ]; refine hK _ _ ?_; clear hK K; replace HE := Lib.hid (HE.out.trans hE); replace hb := hb.ext hE; replace HT := Lib.hid (HT.out.ext hE); clear hE
  refine seq_value (.bool true) (by rfl) (fun x hx => by simp [go_sem, execOp, Act.eval, hq, run_eqGuard_agg _ _ _ _ _ _ _ pte_guard, run_eqGuard_agg _ _ _ _ _ _ _ perm_guard]) ?_; intro K hK; simp only [Act.put, List.setIfInBounds_toArray, List.set_cons_zero, List.set_cons_succ]; refine hK _ ?_; clear hK K
  (repeat (first | (refine seq_skip (by rfl) ?_; intro K hK; simp only [Act.put, List.setIfInBounds_toArray, List.set_cons_zero, List.set_cons_succ]; refine hK _ ?_; clear hK K) | (refine seq_skipc (by rfl) ?_; intro K hK; simp only [Act.put, List.setIfInBounds_toArray, List.set_cons_zero, List.set_cons_succ]; refine hK _ ?_; clear hK K) | (refine seq_read (by rfl) (by rfl) ?_; intro K hK; go_big_quiet_op; first | go_big_quiet_on | (refine ⟨_, fun _ _ => rfl, ?_⟩; go_big_quiet_on))))
  refine seq_done ?_
  go_wp2
  go_ret
  exact ⟨rfl, HE.out⟩
end Go.Proofs.YtdifjgppnfcnnaaDoor
