/- SatpWords. -/
import Derived.Test.YtigbgmcdmoinmaaLaw07a
import Derived.Test.YtigbgmcdmoinmaaRseven
namespace Go.Proofs.Ytigbgmcdmoinmaa
open Go.ChangeShapes Go.WideShapes Go.ChangeAt Go.RowKit
set_option linter.unusedVariables false
set_option linter.unusedSimpArgs false

set_option maxRecDepth 100000 in
set_option maxHeartbeats 4000000 in
theorem SatpWords_w (p : Sp) (hp : p.ok) (x : Nat) (hx : x < 18446744073709551616) (w : World) :
    Calls Try.prog 3 #[.agg (spC p), .int .u64 (x : Int)] w fun e w' => e = .returned (.bool true) ∧ Ext w w' := by
  have hmay := may7_c p hp
  have hrmay := rmay7_c p
  have hon := on7_c p
  have hget := sget_c x hx
  have hrget := rget7_c x hx
  have HE := Lib.hid ((Ext.refl w).alloc (.cells (spC p) 24))
  have hmd : ((p.md : Int) == 8) = decide (p.md = 8) := beq_dec p.md 8
  generalize sgP x = Q at hget hrget
  have hG : ∃ g : Int, (if smB (rdP x) = true then (0 : Int) else 1) = g ∧ (g = 0 ∨ g = 1) := ⟨_, rfl, by split <;> simp⟩
  obtain ⟨g, hg, hg01⟩ := hG
  rw [hg] at hget hrget
  clear hg
  have hq : ∀ w, (binOp .neq 24 (.agg (spC Q)) (.agg (spC Q))).run Try.prog w = .ok (.bool false) w := fun w => by
    have h := neq_sp w Q Q
    rwa [decide_eq_true rfl] at h
  cases hm : smB p
  · rw [hm] at hmay hrmay
    have hput := sput_no p hp hm
    clear hm
    revert hmd hon
    cases decide (p.md = 8) <;> intro hon hmd
    all_goals
      have hb := Blk.new w 24 (spC p)
      go_enter Try.func3, Try.ntmps3
      go_wp2_with fail; refine (awake7_c _).mono ?_; rintro e w1 ⟨rfl, hE⟩; replace HE := Lib.hid (HE.out.trans hE)
      replace hb := hb.ext hE
      clear hE
      go_wp2_with (refine wpList_load_blk (by rfl) 24 _ rfl rfl (by assumption) Try.underlying24 rfl (by kernel_rfl) ?_)
      refine (hput _).mono ?_
      rintro e w2 ⟨rfl, hE⟩
      replace HE := Lib.hid (HE.out.trans hE)
      replace hb := hb.ext hE
      clear hE hput
      go_wp2_with (refine wpList_load_blk (by rfl) 24 _ rfl rfl (by assumption) Try.underlying24 rfl (by kernel_rfl) ?_)
      refine (hget _).mono ?_
      rintro e w3 ⟨rfl, hE⟩
      replace HE := Lib.hid (HE.out.trans hE)
      replace hb := hb.ext hE
      clear hE hget
      replace HE := Lib.hid (HE.out.alloc (.cells (spC Q) 24))
      replace hb := hb.alloc (.cells (spC Q) 24)
      have ht := Blk.new w3 24 (spC Q)
      go_wp2_with first | (refine wpList_store_new rfl 24 _ _ rfl (spC _) _ _ rfl rfl (sp_info _) (by simp [spC_size]) (spC_one _) ?_) | (refine wpList_load_blk (by rfl) 24 _ rfl rfl (by assumption) Try.underlying24 rfl (by kernel_rfl) ?_)
      refine (hrget _).mono ?_
      rintro e w4 ⟨rfl, hE⟩
      replace HE := Lib.hid (HE.out.trans hE)
      replace hb := hb.ext hE
      replace ht := ht.ext hE
      clear hE hrget
      replace HE := Lib.hid (HE.out.alloc (.cells (spC Q) 24))
      replace hb := hb.alloc (.cells (spC Q) 24)
      replace ht := ht.alloc (.cells (spC Q) 24)
      have hu := Blk.new w4 24 (spC Q)
      go_wp2_with first | (refine wpList_store_new rfl 24 _ _ rfl (spC _) _ _ rfl rfl (sp_info _) (by simp [spC_size]) (spC_one _) ?_) | (refine wpList_load_blk (by rfl) 24 _ rfl rfl (by assumption) Try.underlying24 rfl (by kernel_rfl) ?_)
      replace hb := hb.drew
      replace ht := ht.drew
      replace hu := hu.drew
      replace HE := Lib.hid HE.out.drew
      refine wp_region_seq [(0, false), (2, false), (1, true), (3, true), (4, false), (5, false), (6, false), (8, false), (9, false), (10, false), (7, true), (11, false), (12, false), (13, false), (14, false), (15, false), (16, false), (17, false), (18, false), (19, false), (20, false), (21, false), (22, false)] Ext (by kernel_rfl) (by kernel_rfl) Ext.refl (fun _ _ _ => Ext.trans) ?_; simp only [List.map, nth_z, nth_s]
      refine seq_load rfl rfl (fun x hx => Blk.ext (hb) hx) rfl Try.underlying24 (by kernel_rfl) (by rfl) ?_; intro K hK; simp only [Act.put, List.setIfInBounds_toArray, List.set_cons_zero, List.set_cons_succ]; refine hK _ ?_; clear hK K
      refine seq_load rfl rfl (fun x hx => Blk.ext (hb) hx) rfl Try.underlying24 (by kernel_rfl) (by rfl) ?_; intro K hK; simp only [Act.put, List.setIfInBounds_toArray, List.set_cons_zero, List.set_cons_succ]; refine hK _ ?_; clear hK K
      refine seq_call (hmay _) rfl Try.func10 (by kernel_rfl) (by kernel_rfl) (by rfl) (by rfl) ?_; intro K hK; rintro e w' ⟨rfl, hE⟩; refine ⟨_, rfl, hE, ?_⟩; simp only [Act.put, List.setIfInBounds_toArray, List.set_cons_zero, List.set_cons_succ]; refine hK _ _ ?_; clear hK K; replace HE := Lib.hid (HE.out.trans hE)
      replace hb := hb.ext hE
      replace ht := ht.ext hE
      replace hu := hu.ext hE
      clear hE
      refine seq_call (hrmay _) rfl Try.func11 (by kernel_rfl) (by kernel_rfl) (by rfl) (by rfl) ?_; intro K hK; rintro e w' ⟨rfl, hE⟩; refine ⟨_, rfl, hE, ?_⟩; simp only [Act.put, List.setIfInBounds_toArray, List.set_cons_zero, List.set_cons_succ]; refine hK _ _ ?_; clear hK K; replace HE := Lib.hid (HE.out.trans hE)
      replace hb := hb.ext hE
      replace ht := ht.ext hE
      replace hu := hu.ext hE
      clear hE
      (repeat (first | (refine seq_skip (by rfl) ?_; intro K hK; simp only [Act.put, List.setIfInBounds_toArray, List.set_cons_zero, List.set_cons_succ]; refine hK _ ?_; clear hK K) | (refine seq_skipc (by rfl) ?_; intro K hK; simp only [Act.put, List.setIfInBounds_toArray, List.set_cons_zero, List.set_cons_succ]; refine hK _ ?_; clear hK K) | (refine seq_read (by rfl) (by rfl) ?_; intro K hK; go_big_quiet_op; first | go_big_quiet_on | (refine ⟨_, fun _ _ => rfl, ?_⟩; go_big_quiet_on))))
      refine seq_load rfl rfl (fun x hx => Blk.ext (hb) hx) rfl Try.underlying24 (by kernel_rfl) (by rfl) ?_; intro K hK; simp only [Act.put, List.setIfInBounds_toArray, List.set_cons_zero, List.set_cons_succ]; refine hK _ ?_; clear hK K
      (repeat (first | (refine seq_skip (by rfl) ?_; intro K hK; simp only [Act.put, List.setIfInBounds_toArray, List.set_cons_zero, List.set_cons_succ]; refine hK _ ?_; clear hK K) | (refine seq_skipc (by rfl) ?_; intro K hK; simp only [Act.put, List.setIfInBounds_toArray, List.set_cons_zero, List.set_cons_succ]; refine hK _ ?_; clear hK K) | (refine seq_read (by rfl) (by rfl) ?_; intro K hK; go_big_quiet_op; first | go_big_quiet_on | (refine ⟨_, fun _ _ => rfl, ?_⟩; go_big_quiet_on))))
      refine seq_value (.int .u64 (p.md : Int)) (by rfl) (fun x hx => by have hq := ext_cell hx (hb.sp.1); simp [go_sem, execOp, Act.eval, hq]) ?_; intro K hK; simp only [Act.put, List.setIfInBounds_toArray, List.set_cons_zero, List.set_cons_succ]; refine hK _ ?_; clear hK K
      (repeat (first | (refine seq_skip (by rfl) ?_; intro K hK; simp only [Act.put, List.setIfInBounds_toArray, List.set_cons_zero, List.set_cons_succ]; refine hK _ ?_; clear hK K) | (refine seq_skipc (by rfl) ?_; intro K hK; simp only [Act.put, List.setIfInBounds_toArray, List.set_cons_zero, List.set_cons_succ]; refine hK _ ?_; clear hK K) | (refine seq_read (by rfl) (by rfl) ?_; intro K hK; go_big_quiet_op; first | go_big_quiet_on | (refine ⟨_, fun _ _ => rfl, ?_⟩; go_big_quiet_on))))
      refine seq_call (hon _) rfl Try.func12 (by kernel_rfl) (by kernel_rfl) (by rfl) (by rfl) ?_; intro K hK; rintro e w' ⟨rfl, hE⟩; refine ⟨_, rfl, hE, ?_⟩; simp only [Act.put, List.setIfInBounds_toArray, List.set_cons_zero, List.set_cons_succ]; refine hK _ _ ?_; clear hK K; replace HE := Lib.hid (HE.out.trans hE)
      replace hb := hb.ext hE
      replace ht := ht.ext hE
      replace hu := hu.ext hE
      clear hE
      (repeat (first | (refine seq_skip (by rfl) ?_; intro K hK; simp only [Act.put, List.setIfInBounds_toArray, List.set_cons_zero, List.set_cons_succ]; refine hK _ ?_; clear hK K) | (refine seq_skipc (by rfl) ?_; intro K hK; simp only [Act.put, List.setIfInBounds_toArray, List.set_cons_zero, List.set_cons_succ]; refine hK _ ?_; clear hK K) | (refine seq_read (by rfl) (by rfl) ?_; intro K hK; go_big_quiet_op; first | go_big_quiet_on | (refine ⟨_, fun _ _ => rfl, ?_⟩; go_big_quiet_on))))
      refine seq_load rfl rfl (fun x hx => Blk.ext (ht) hx) rfl Try.underlying24 (by kernel_rfl) (by rfl) ?_; intro K hK; simp only [Act.put, List.setIfInBounds_toArray, List.set_cons_zero, List.set_cons_succ]; refine hK _ ?_; clear hK K
      refine seq_load rfl rfl (fun x hx => Blk.ext (hu) hx) rfl Try.underlying24 (by kernel_rfl) (by rfl) ?_; intro K hK; simp only [Act.put, List.setIfInBounds_toArray, List.set_cons_zero, List.set_cons_succ]; refine hK _ ?_; clear hK K
      refine seq_value (.bool (false)) (by rfl) (fun x hx => by simp [go_sem, execOp, Act.eval, hq, run_eqGuard_agg _ _ _ _ _ _ _ sp_guard]) ?_; intro K hK; simp only [Act.put, List.setIfInBounds_toArray, List.set_cons_zero, List.set_cons_succ]; refine hK _ ?_; clear hK K
      (repeat (first | (refine seq_skip (by rfl) ?_; intro K hK; simp only [Act.put, List.setIfInBounds_toArray, List.set_cons_zero, List.set_cons_succ]; refine hK _ ?_; clear hK K) | (refine seq_skipc (by rfl) ?_; intro K hK; simp only [Act.put, List.setIfInBounds_toArray, List.set_cons_zero, List.set_cons_succ]; refine hK _ ?_; clear hK K) | (refine seq_read (by rfl) (by rfl) ?_; intro K hK; go_big_quiet_op; first | go_big_quiet_on | (refine ⟨_, fun _ _ => rfl, ?_⟩; go_big_quiet_on))))
      refine seq_done ?_
      clear ht hu hon hmay
      go_wp2_with (refine wpList_load_blk (by rfl) 24 _ rfl rfl (by assumption) Try.underlying24 rfl (by kernel_rfl) ?_)
      refine (hrmay _).mono ?_
      rintro e w9 ⟨rfl, hE⟩
      replace HE := Lib.hid (HE.out.trans hE)
      replace hb := hb.ext hE
      clear hE hrmay
      go_wp2
      go_ret
      exact ⟨rfl, HE.out⟩
  · rw [hm] at hmay hrmay
    have hput := sput_yes p hp hm
    have hrput := rput7_c p hm
    clear hm
    revert hmd hon
    cases decide (p.md = 8) <;> intro hon hmd
    all_goals
      have hb := Blk.new w 24 (spC p)
      go_enter Try.func3, Try.ntmps3
      go_wp2_with fail; refine (awake7_c _).mono ?_; rintro e w1 ⟨rfl, hE⟩; replace HE := Lib.hid (HE.out.trans hE)
      replace hb := hb.ext hE
      clear hE
      go_wp2_with (refine wpList_load_blk (by rfl) 24 _ rfl rfl (by assumption) Try.underlying24 rfl (by kernel_rfl) ?_)
      refine (hput _).mono ?_
      rintro e w2 ⟨rfl, hE⟩
      replace HE := Lib.hid (HE.out.trans hE)
      replace hb := hb.ext hE
      clear hE hput
      go_wp2_with (refine wpList_load_blk (by rfl) 24 _ rfl rfl (by assumption) Try.underlying24 rfl (by kernel_rfl) ?_)
      refine (hget _).mono ?_
      rintro e w3 ⟨rfl, hE⟩
      replace HE := Lib.hid (HE.out.trans hE)
      replace hb := hb.ext hE
      clear hE hget
      replace HE := Lib.hid (HE.out.alloc (.cells (spC Q) 24))
      replace hb := hb.alloc (.cells (spC Q) 24)
      have ht := Blk.new w3 24 (spC Q)
      go_wp2_with first | (refine wpList_store_new rfl 24 _ _ rfl (spC _) _ _ rfl rfl (sp_info _) (by simp [spC_size]) (spC_one _) ?_) | (refine wpList_load_blk (by rfl) 24 _ rfl rfl (by assumption) Try.underlying24 rfl (by kernel_rfl) ?_)
      refine (hrget _).mono ?_
      rintro e w4 ⟨rfl, hE⟩
      replace HE := Lib.hid (HE.out.trans hE)
      replace hb := hb.ext hE
      replace ht := ht.ext hE
      clear hE hrget
      replace HE := Lib.hid (HE.out.alloc (.cells (spC Q) 24))
      replace hb := hb.alloc (.cells (spC Q) 24)
      replace ht := ht.alloc (.cells (spC Q) 24)
      have hu := Blk.new w4 24 (spC Q)
      go_wp2_with first | (refine wpList_store_new rfl 24 _ _ rfl (spC _) _ _ rfl rfl (sp_info _) (by simp [spC_size]) (spC_one _) ?_) | (refine wpList_load_blk (by rfl) 24 _ rfl rfl (by assumption) Try.underlying24 rfl (by kernel_rfl) ?_)
      replace hb := hb.drew
      replace ht := ht.drew
      replace hu := hu.drew
      replace HE := Lib.hid HE.out.drew
      refine wp_region_seq [(0, false), (2, false), (1, true), (3, true), (4, false), (5, false), (6, false), (8, false), (9, false), (10, false), (7, true), (11, false), (12, false), (13, false), (14, false), (15, false), (16, false), (17, false), (18, false), (19, false), (20, false), (21, false), (22, false)] Ext (by kernel_rfl) (by kernel_rfl) Ext.refl (fun _ _ _ => Ext.trans) ?_; simp only [List.map, nth_z, nth_s]
      refine seq_load rfl rfl (fun x hx => Blk.ext (hb) hx) rfl Try.underlying24 (by kernel_rfl) (by rfl) ?_; intro K hK; simp only [Act.put, List.setIfInBounds_toArray, List.set_cons_zero, List.set_cons_succ]; refine hK _ ?_; clear hK K
      refine seq_load rfl rfl (fun x hx => Blk.ext (hb) hx) rfl Try.underlying24 (by kernel_rfl) (by rfl) ?_; intro K hK; simp only [Act.put, List.setIfInBounds_toArray, List.set_cons_zero, List.set_cons_succ]; refine hK _ ?_; clear hK K
      refine seq_call (hmay _) rfl Try.func10 (by kernel_rfl) (by kernel_rfl) (by rfl) (by rfl) ?_; intro K hK; rintro e w' ⟨rfl, hE⟩; refine ⟨_, rfl, hE, ?_⟩; simp only [Act.put, List.setIfInBounds_toArray, List.set_cons_zero, List.set_cons_succ]; refine hK _ _ ?_; clear hK K; replace HE := Lib.hid (HE.out.trans hE)
      replace hb := hb.ext hE
      replace ht := ht.ext hE
      replace hu := hu.ext hE
      clear hE
      refine seq_call (hrmay _) rfl Try.func11 (by kernel_rfl) (by kernel_rfl) (by rfl) (by rfl) ?_; intro K hK; rintro e w' ⟨rfl, hE⟩; refine ⟨_, rfl, hE, ?_⟩; simp only [Act.put, List.setIfInBounds_toArray, List.set_cons_zero, List.set_cons_succ]; refine hK _ _ ?_; clear hK K; replace HE := Lib.hid (HE.out.trans hE)
      replace hb := hb.ext hE
      replace ht := ht.ext hE
      replace hu := hu.ext hE
      clear hE
      (repeat (first | (refine seq_skip (by rfl) ?_; intro K hK; simp only [Act.put, List.setIfInBounds_toArray, List.set_cons_zero, List.set_cons_succ]; refine hK _ ?_; clear hK K) | (refine seq_skipc (by rfl) ?_; intro K hK; simp only [Act.put, List.setIfInBounds_toArray, List.set_cons_zero, List.set_cons_succ]; refine hK _ ?_; clear hK K) | (refine seq_read (by rfl) (by rfl) ?_; intro K hK; go_big_quiet_op; first | go_big_quiet_on | (refine ⟨_, fun _ _ => rfl, ?_⟩; go_big_quiet_on))))
      refine seq_load rfl rfl (fun x hx => Blk.ext (hb) hx) rfl Try.underlying24 (by kernel_rfl) (by rfl) ?_; intro K hK; simp only [Act.put, List.setIfInBounds_toArray, List.set_cons_zero, List.set_cons_succ]; refine hK _ ?_; clear hK K
      (repeat (first | (refine seq_skip (by rfl) ?_; intro K hK; simp only [Act.put, List.setIfInBounds_toArray, List.set_cons_zero, List.set_cons_succ]; refine hK _ ?_; clear hK K) | (refine seq_skipc (by rfl) ?_; intro K hK; simp only [Act.put, List.setIfInBounds_toArray, List.set_cons_zero, List.set_cons_succ]; refine hK _ ?_; clear hK K) | (refine seq_read (by rfl) (by rfl) ?_; intro K hK; go_big_quiet_op; first | go_big_quiet_on | (refine ⟨_, fun _ _ => rfl, ?_⟩; go_big_quiet_on))))
      refine seq_value (.int .u64 (p.md : Int)) (by rfl) (fun x hx => by have hq := ext_cell hx (hb.sp.1); simp [go_sem, execOp, Act.eval, hq]) ?_; intro K hK; simp only [Act.put, List.setIfInBounds_toArray, List.set_cons_zero, List.set_cons_succ]; refine hK _ ?_; clear hK K
      (repeat (first | (refine seq_skip (by rfl) ?_; intro K hK; simp only [Act.put, List.setIfInBounds_toArray, List.set_cons_zero, List.set_cons_succ]; refine hK _ ?_; clear hK K) | (refine seq_skipc (by rfl) ?_; intro K hK; simp only [Act.put, List.setIfInBounds_toArray, List.set_cons_zero, List.set_cons_succ]; refine hK _ ?_; clear hK K) | (refine seq_read (by rfl) (by rfl) ?_; intro K hK; go_big_quiet_op; first | go_big_quiet_on | (refine ⟨_, fun _ _ => rfl, ?_⟩; go_big_quiet_on))))
      refine seq_call (hon _) rfl Try.func12 (by kernel_rfl) (by kernel_rfl) (by rfl) (by rfl) ?_; intro K hK; rintro e w' ⟨rfl, hE⟩; refine ⟨_, rfl, hE, ?_⟩; simp only [Act.put, List.setIfInBounds_toArray, List.set_cons_zero, List.set_cons_succ]; refine hK _ _ ?_; clear hK K; replace HE := Lib.hid (HE.out.trans hE)
      replace hb := hb.ext hE
      replace ht := ht.ext hE
      replace hu := hu.ext hE
      clear hE
      (repeat (first | (refine seq_skip (by rfl) ?_; intro K hK; simp only [Act.put, List.setIfInBounds_toArray, List.set_cons_zero, List.set_cons_succ]; refine hK _ ?_; clear hK K) | (refine seq_skipc (by rfl) ?_; intro K hK; simp only [Act.put, List.setIfInBounds_toArray, List.set_cons_zero, List.set_cons_succ]; refine hK _ ?_; clear hK K) | (refine seq_read (by rfl) (by rfl) ?_; intro K hK; go_big_quiet_op; first | go_big_quiet_on | (refine ⟨_, fun _ _ => rfl, ?_⟩; go_big_quiet_on))))
      refine seq_load rfl rfl (fun x hx => Blk.ext (ht) hx) rfl Try.underlying24 (by kernel_rfl) (by rfl) ?_; intro K hK; simp only [Act.put, List.setIfInBounds_toArray, List.set_cons_zero, List.set_cons_succ]; refine hK _ ?_; clear hK K
      refine seq_load rfl rfl (fun x hx => Blk.ext (hu) hx) rfl Try.underlying24 (by kernel_rfl) (by rfl) ?_; intro K hK; simp only [Act.put, List.setIfInBounds_toArray, List.set_cons_zero, List.set_cons_succ]; refine hK _ ?_; clear hK K
      refine seq_value (.bool (false)) (by rfl) (fun x hx => by simp [go_sem, execOp, Act.eval, hq, run_eqGuard_agg _ _ _ _ _ _ _ sp_guard]) ?_; intro K hK; simp only [Act.put, List.setIfInBounds_toArray, List.set_cons_zero, List.set_cons_succ]; refine hK _ ?_; clear hK K
      (repeat (first | (refine seq_skip (by rfl) ?_; intro K hK; simp only [Act.put, List.setIfInBounds_toArray, List.set_cons_zero, List.set_cons_succ]; refine hK _ ?_; clear hK K) | (refine seq_skipc (by rfl) ?_; intro K hK; simp only [Act.put, List.setIfInBounds_toArray, List.set_cons_zero, List.set_cons_succ]; refine hK _ ?_; clear hK K) | (refine seq_read (by rfl) (by rfl) ?_; intro K hK; go_big_quiet_op; first | go_big_quiet_on | (refine ⟨_, fun _ _ => rfl, ?_⟩; go_big_quiet_on))))
      refine seq_done ?_
      clear ht hu hon hmay
      go_wp2_with (refine wpList_load_blk (by rfl) 24 _ rfl rfl (by assumption) Try.underlying24 rfl (by kernel_rfl) ?_)
      refine (hrmay _).mono ?_
      rintro e w9 ⟨rfl, hE⟩
      replace HE := Lib.hid (HE.out.trans hE)
      replace hb := hb.ext hE
      clear hE hrmay
      go_wp2_with (refine wpList_load_blk (by rfl) 24 _ rfl rfl (by assumption) Try.underlying24 rfl (by kernel_rfl) ?_)
      refine (hrput _).mono ?_
      rintro e w10 ⟨rfl, hE⟩
      replace HE := Lib.hid (HE.out.trans hE)
      clear hE hrput hb
      go_wp2
      go_ret
      exact ⟨rfl, HE.out⟩
end Go.Proofs.Ytigbgmcdmoinmaa
