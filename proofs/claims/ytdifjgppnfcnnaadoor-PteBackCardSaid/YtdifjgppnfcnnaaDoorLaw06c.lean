/- PteBack. -/
import Derived.Test.YtdifjgppnfcnnaaDoorLaw06a
namespace Go.Proofs.YtdifjgppnfcnnaaDoor
open Go.ChangeShapes Go.WideShapes Go.ChangeAt Go.RowKit
set_option linter.unusedVariables false
set_option linter.unusedSimpArgs false

set_option maxRecDepth 100000 in
set_option maxHeartbeats 4000000 in
theorem PteBack_w (p : Pt) (hp : p.ok) (x v : Nat) (hx : x < 18446744073709551616) (hv : v < 18446744073709551616) (w : World) (hT : Siz w) :
    Calls Tryd.prog 5 #[.agg (ptC p), .int .u64 (x : Int), .int .u64 (v : Int)] w fun e w' => e = .returned (.bool true) ∧ Ext w w' := by
  have HE := Lib.hid ((Ext.refl w).alloc (.cells (ptC p) 24))
  have HT := Lib.hid (hT.ext HE.out)
  have hb := Blk.new w 24 (ptC p)
  have hgx := get_pte x hx
  have hgv := get_pte v hv
  have hpx := put_yes (getP x) (ok_get hx) (may_get hx)
  rw [put_get hx] at hpx
  have hmx := may_c (getP x) (ok_get hx)
  rw [may_get hx] at hmx
  have hmay := may_c p hp
  have hq : ∀ w, (binOp .eql 24 (.agg (ptC (getP x))) (.agg (ptC (getP v)))).run Tryd.prog w = .ok (.bool (decide (x = v))) w := fun w => by
    rw [eql_pte, get_inj hx hv]
  have hg := pte_guard
  have hxv : ((x : Int) == (v : Int)) = decide (x = v) := by rw [Bool.eq_iff_iff, beq_iff_eq, decide_eq_true_iff]; omega
  have hm : (∃ y : Nat, (∀ w, Calls Tryd.prog 9 #[.agg (ptC p)] w fun e w' => e = .returned (.tuple #[.int .u64 (y : Int), .int .i64 0]) ∧ Ext w w') ∧ (∀ w, Calls Tryd.prog 12 #[.int .u64 (y : Int)] w fun e w' => e = .returned (.agg (ptC p)) ∧ Ext w w') ∧ mayB p = true) ∨
      ((∀ w, Calls Tryd.prog 9 #[.agg (ptC p)] w fun e w' => e = .returned (.tuple #[.int .u64 0, .int .i64 1]) ∧ Ext w w') ∧ mayB p = false) := by
    cases hm : mayB p
    · exact .inr ⟨put_no p hp hm, rfl⟩
    · refine .inl ⟨putN p, put_yes p hp hm, fun w => ?_, rfl⟩
      have h := get_pte (putN p) (put_lt hm) w
      rwa [get_put hm] at h
  generalize getP x = X at *
  generalize getP v = V at *
  clear hT hx hv hp
  generalize hB : decide (x = v) = B at hq hxv
  go_enter Tryd.func5, Tryd.ntmps5
  go_wp2_with fail; refine (awake6_c _ HT.out).mono ?_; rintro e w1 ⟨rfl, hE⟩; replace HE := Lib.hid (HE.out.trans hE)
  replace hb := hb.ext hE
  clear hE HT
  go_wp2_with fail
  refine (hgx _).mono ?_
  rintro e w2 ⟨rfl, hE⟩
  replace HE := Lib.hid (HE.out.trans hE)
  replace hb := hb.ext hE
  clear hE
  go_wp2_with fail
  refine (hpx _).mono ?_
  rintro e w2 ⟨rfl, hE⟩
  replace HE := Lib.hid (HE.out.trans hE)
  replace hb := hb.ext hE
  clear hE
  go_wp2_with fail
  refine (hgx _).mono ?_
  rintro e w2 ⟨rfl, hE⟩
  replace HE := Lib.hid (HE.out.trans hE)
  replace hb := hb.ext hE
  clear hE
  go_wp2_with fail
  refine (hmx _).mono ?_
  rintro e w2 ⟨rfl, hE⟩
  replace HE := Lib.hid (HE.out.trans hE)
  replace hb := hb.ext hE
  clear hE
  go_wp2_with fail
  refine (hgx _).mono ?_
  rintro e w2 ⟨rfl, hE⟩
  replace HE := Lib.hid (HE.out.trans hE)
  replace hb := hb.ext hE
  clear hE
  go_wp2_with fail
  refine (hgv _).mono ?_
  rintro e w2 ⟨rfl, hE⟩
  replace HE := Lib.hid (HE.out.trans hE)
  replace hb := hb.ext hE
  clear hE
  clear hgx hgv hpx hmx
  cases B
  all_goals
    go_wp2_with (refine wpList_load_blk (by rfl) 24 _ rfl rfl (by assumption) Tryd.underlying24 rfl (by kernel_rfl) ?_)
    clear hq hxv hB
    rcases hm with ⟨y, hput, hgy, hm⟩ | ⟨hput, hm⟩
    · rw [hm] at hmay
      refine (hput _).mono ?_
      rintro e w2 ⟨rfl, hE⟩
      replace HE := Lib.hid (HE.out.trans hE)
      replace hb := hb.ext hE
      clear hE
      clear hput hm
      replace hb := hb.drew
      replace HE := Lib.hid HE.out.drew
      go_wp2_with fail
      refine wp_region_seq [(0, false), (1, false), (2, false), (3, true), (4, false), (5, false), (6, false), (7, false), (8, false), (9, false), (11, false), (10, true), (12, false), (13, false), (14, false), (15, false)] Ext (by kernel_rfl) (by kernel_rfl) Ext.refl (fun _ _ _ => Ext.trans) ?_; simp only [List.map, nth_z, nth_s]
      (repeat (first | (refine seq_skip (by rfl) ?_; intro K hK; simp only [Act.put, List.setIfInBounds_toArray, List.set_cons_zero, List.set_cons_succ]; refine hK _ ?_; clear hK K) | (refine seq_skipc (by rfl) ?_; intro K hK; simp only [Act.put, List.setIfInBounds_toArray, List.set_cons_zero, List.set_cons_succ]; refine hK _ ?_; clear hK K) | (refine seq_read (by rfl) (by rfl) ?_; intro K hK; go_big_quiet_op; first | go_big_quiet_on | (refine ⟨_, fun _ _ => rfl, ?_⟩; go_big_quiet_on))))
      refine seq_load rfl rfl (fun x hx => Blk.ext (hb) hx) rfl Tryd.underlying24 (by kernel_rfl) (by rfl) ?_; intro K hK; simp only [Act.put, List.setIfInBounds_toArray, List.set_cons_zero, List.set_cons_succ]; refine hK _ ?_; clear hK K
      refine seq_call (hmay _) rfl Tryd.func10 (by kernel_rfl) (by kernel_rfl) (by rfl) (by rfl) ?_; intro K hK; rintro e w' ⟨rfl, hE⟩; refine ⟨_, rfl, hE, ?_⟩; simp only [Act.put, List.setIfInBounds_toArray, List.set_cons_zero, List.set_cons_succ]; refine hK _ _ ?_; clear hK K; replace HE := Lib.hid (HE.out.trans hE)
      replace hb := hb.ext hE
      clear hE
      (repeat (first | (refine seq_skip (by rfl) ?_; intro K hK; simp only [Act.put, List.setIfInBounds_toArray, List.set_cons_zero, List.set_cons_succ]; refine hK _ ?_; clear hK K) | (refine seq_skipc (by rfl) ?_; intro K hK; simp only [Act.put, List.setIfInBounds_toArray, List.set_cons_zero, List.set_cons_succ]; refine hK _ ?_; clear hK K) | (refine seq_read (by rfl) (by rfl) ?_; intro K hK; go_big_quiet_op; first | go_big_quiet_on | (refine ⟨_, fun _ _ => rfl, ?_⟩; go_big_quiet_on))))
      refine seq_load rfl rfl (fun x hx => Blk.ext (hb) hx) rfl Tryd.underlying24 (by kernel_rfl) (by rfl) ?_; intro K hK; simp only [Act.put, List.setIfInBounds_toArray, List.set_cons_zero, List.set_cons_succ]; refine hK _ ?_; clear hK K
      refine seq_call (hgy _) rfl Tryd.func12 (by kernel_rfl) (by kernel_rfl) (by rfl) (by rfl) ?_; intro K hK; rintro e w' ⟨rfl, hE⟩; refine ⟨_, rfl, hE, ?_⟩; simp only [Act.put, List.setIfInBounds_toArray, List.set_cons_zero, List.set_cons_succ]; refine hK _ _ ?_; clear hK K; replace HE := Lib.hid (HE.out.trans hE)
      replace hb := hb.ext hE
      clear hE
      refine seq_value (.bool true) (by rfl) (fun x hx => by simp [go_sem, execOp, Act.eval, eql_pte, run_eqGuard_agg _ _ _ _ _ _ _ pte_guard, run_eqGuard_agg _ _ _ _ _ _ _ perm_guard]) ?_; intro K hK; simp only [Act.put, List.setIfInBounds_toArray, List.set_cons_zero, List.set_cons_succ]; refine hK _ ?_; clear hK K
      (repeat (first | (refine seq_skip (by rfl) ?_; intro K hK; simp only [Act.put, List.setIfInBounds_toArray, List.set_cons_zero, List.set_cons_succ]; refine hK _ ?_; clear hK K) | (refine seq_skipc (by rfl) ?_; intro K hK; simp only [Act.put, List.setIfInBounds_toArray, List.set_cons_zero, List.set_cons_succ]; refine hK _ ?_; clear hK K) | (refine seq_read (by rfl) (by rfl) ?_; intro K hK; go_big_quiet_op; first | go_big_quiet_on | (refine ⟨_, fun _ _ => rfl, ?_⟩; go_big_quiet_on))))
      refine seq_done ?_
      clear hgy hmay hb
      go_wp2
      go_ret
      exact ⟨rfl, HE.out⟩
    · rw [hm] at hmay
      refine (hput _).mono ?_
      rintro e w2 ⟨rfl, hE⟩
      replace HE := Lib.hid (HE.out.trans hE)
      replace hb := hb.ext hE
      clear hE
      clear hput hm
      replace hb := hb.drew
      replace HE := Lib.hid HE.out.drew
      go_wp2_with fail
      refine wp_region_seq [(0, false), (1, false), (2, false), (3, true), (4, false), (5, false), (6, false), (7, false), (8, false), (9, false), (11, false), (10, true), (12, false), (13, false), (14, false), (15, false)] Ext (by kernel_rfl) (by kernel_rfl) Ext.refl (fun _ _ _ => Ext.trans) ?_; simp only [List.map, nth_z, nth_s]
      (repeat (first | (refine seq_skip (by rfl) ?_; intro K hK; simp only [Act.put, List.setIfInBounds_toArray, List.set_cons_zero, List.set_cons_succ]; refine hK _ ?_; clear hK K) | (refine seq_skipc (by rfl) ?_; intro K hK; simp only [Act.put, List.setIfInBounds_toArray, List.set_cons_zero, List.set_cons_succ]; refine hK _ ?_; clear hK K) | (refine seq_read (by rfl) (by rfl) ?_; intro K hK; go_big_quiet_op; first | go_big_quiet_on | (refine ⟨_, fun _ _ => rfl, ?_⟩; go_big_quiet_on))))
      refine seq_load rfl rfl (fun x hx => Blk.ext (hb) hx) rfl Tryd.underlying24 (by kernel_rfl) (by rfl) ?_; intro K hK; simp only [Act.put, List.setIfInBounds_toArray, List.set_cons_zero, List.set_cons_succ]; refine hK _ ?_; clear hK K
      refine seq_call (hmay _) rfl Tryd.func10 (by kernel_rfl) (by kernel_rfl) (by rfl) (by rfl) ?_; intro K hK; rintro e w' ⟨rfl, hE⟩; refine ⟨_, rfl, hE, ?_⟩; simp only [Act.put, List.setIfInBounds_toArray, List.set_cons_zero, List.set_cons_succ]; refine hK _ _ ?_; clear hK K; replace HE := Lib.hid (HE.out.trans hE)
      replace hb := hb.ext hE
      clear hE
      (repeat (first | (refine seq_skip (by rfl) ?_; intro K hK; simp only [Act.put, List.setIfInBounds_toArray, List.set_cons_zero, List.set_cons_succ]; refine hK _ ?_; clear hK K) | (refine seq_skipc (by rfl) ?_; intro K hK; simp only [Act.put, List.setIfInBounds_toArray, List.set_cons_zero, List.set_cons_succ]; refine hK _ ?_; clear hK K) | (refine seq_read (by rfl) (by rfl) ?_; intro K hK; go_big_quiet_op; first | go_big_quiet_on | (refine ⟨_, fun _ _ => rfl, ?_⟩; go_big_quiet_on))))
      refine seq_done ?_
      clear hmay hb
      go_wp2
      go_ret
      exact ⟨rfl, HE.out⟩
end Go.Proofs.YtdifjgppnfcnnaaDoor
