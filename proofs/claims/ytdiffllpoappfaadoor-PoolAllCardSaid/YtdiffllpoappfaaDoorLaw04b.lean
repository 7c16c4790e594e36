/- PoolNews, PoolDoes, PoolBack. -/
import Derived.Test.YtdiffllpoappfaaDoorLaw04a
namespace Go.Proofs.YtdiffllpoappfaaDoor
open Go.ChangeShapes Go.WideShapes Go.ChangeAt Go.RowKit
set_option linter.unusedVariables false
set_option linter.unusedSimpArgs false

theorem right_is {B F : Nat} {M : Int} (h : rightB B M F = true) : ∃ m : Nat, M = m ∧ m ≤ 64 ∧ B ≤ 268435456 ∧ F < 2 ^ m := by
  unfold rightB at h
  simp only [Bool.and_eq_true, decide_eq_true_eq] at h
  exact ⟨M.toNat, by omega, by omega, h.1.2, h.2⟩

set_option maxRecDepth 100000 in
set_option maxHeartbeats 4000000 in
theorem PoolNews_w (B : Nat) (M : Int) (hB : B < 18446744073709551616) (hm0 : -9223372036854775808 ≤ M) (hm1 : M ≤ 9223372036854775807) (w : World) (hT : Tab w) :
    Calls Tryd.prog 4 #[.int .u64 (B : Int), .int .i64 M] w fun e w' => e = .returned (.bool true) ∧ Ext w w' := by
  have HT := Lib.hid hT
  have HE := Lib.hid (Ext.refl w)
  clear hT
  have hrr := rright_c B 0 M hB (by decide) hm0 hm1
  have hg := pool_guard
  cases hr : rightB B M 0
  · rw [hr] at hrr
    have hq : ∀ w, (binOp .eql 24 (.agg #[.int .u64 0, .int .i64 0, .int .u64 0]) (.agg #[.int .u64 0, .int .i64 0, .int .u64 0])).run Tryd.prog w = .ok (.bool true) w := fun w => eqlP w 0 0 0 0
    go_enter Tryd.func4, Tryd.ntmps4
    go_wp2_with fail; refine (awake4_c _ HT.out).mono ?_; rintro e w1 ⟨rfl, hE⟩; replace HE := Lib.hid (HE.out.trans hE)
    clear hE
    go_wp2_with fail; refine (new_no B M hB hm0 hm1 hr _).mono ?_; rintro e w2 ⟨rfl, hE⟩; replace HE := Lib.hid (HE.out.trans hE)
    clear hE
    replace HE := Lib.hid (HE.out.alloc (.cells #[.int .u64 0, .int .i64 0, .int .u64 0] 24))
    have hb := Blk.new w2 24 #[.int .u64 0, .int .i64 0, .int .u64 0]
    go_wp2_with fail; refine (hrr _).mono ?_; rintro e w3 ⟨rfl, hE⟩; replace HE := Lib.hid (HE.out.trans hE)
    obtain ⟨b0, b1, b2⟩ := (hb.ext hE).c3
    clear hE hb
    go_wp2
    go_ret
    exact ⟨rfl, HE.out⟩
  · rw [hr] at hrr
    obtain ⟨m, rfl, hm, hB2, -⟩ := right_is hr
    go_enter Tryd.func4, Tryd.ntmps4
    go_wp2_with fail; refine (awake4_c _ HT.out).mono ?_; rintro e w1 ⟨rfl, hE⟩; replace HE := Lib.hid (HE.out.trans hE)
    clear hE
    go_wp2_with fail; refine (new_yes B m hB2 hm hr _).mono ?_; rintro e w2 ⟨rfl, hE⟩; replace HE := Lib.hid (HE.out.trans hE)
    clear hE
    have hb := Blk.new w2 24 #[.int .u64 (B : Int), .int .i64 (m : Int), .int .u64 ((2 ^ m - 1 : Nat) : Int)]
    have hF := ones_lt hm
    have hpop := pop_all hm
    have hrn := rnew_c B m hm hB
    generalize 2 ^ m - 1 = G at *
    replace HE := Lib.hid (HE.out.alloc (.cells #[.int .u64 (B : Int), .int .i64 (m : Int), .int .u64 (G : Int)] 24))
    go_wp2_with fail; refine (hrr _).mono ?_; rintro e w3 ⟨rfl, hE⟩; replace HE := Lib.hid (HE.out.trans hE)
    replace hb := (hb.ext hE).drew
    replace HE := Lib.hid (HE.out.drew)
    clear hE hrr
    go_wp2
    refine wp_region_seq [(0, false), (1, false), (2, false), (3, false), (4, false), (5, false), (6, true), (7, false), (8, false), (9, false), (10, false), (12, false), (11, true), (13, false), (14, false), (15, false)] Ext (by kernel_rfl) (by kernel_rfl) Ext.refl (fun _ _ _ => Ext.trans) ?_; simp only [List.map, nth_z, nth_s]
    (repeat (first | (refine seq_skip (by rfl) ?_; intro K hK; simp only [Act.put, List.setIfInBounds_toArray, List.set_cons_zero, List.set_cons_succ]; refine hK _ ?_; clear hK K) | (refine seq_skipc (by rfl) ?_; intro K hK; simp only [Act.put, List.setIfInBounds_toArray, List.set_cons_zero, List.set_cons_succ]; refine hK _ ?_; clear hK K) | (refine seq_read (by rfl) (by rfl) ?_; intro K hK; go_big_quiet_op; first | go_big_quiet_on | (refine ⟨_, fun _ _ => rfl, ?_⟩; go_big_quiet_on))))
    refine seq_load rfl rfl (fun x hx => Blk.ext (hb) hx) rfl Tryd.underlying24 (by kernel_rfl) (by rfl) ?_; intro K hK; simp only [Act.put, List.setIfInBounds_toArray, List.set_cons_zero, List.set_cons_succ]; refine hK _ ?_; clear hK K
    (repeat (first | (refine seq_skip (by rfl) ?_; intro K hK; simp only [Act.put, List.setIfInBounds_toArray, List.set_cons_zero, List.set_cons_succ]; refine hK _ ?_; clear hK K) | (refine seq_skipc (by rfl) ?_; intro K hK; simp only [Act.put, List.setIfInBounds_toArray, List.set_cons_zero, List.set_cons_succ]; refine hK _ ?_; clear hK K) | (refine seq_read (by rfl) (by rfl) ?_; intro K hK; go_big_quiet_op; first | go_big_quiet_on | (refine ⟨_, fun _ _ => rfl, ?_⟩; go_big_quiet_on))))
    refine seq_call (hrn _) rfl Tryd.func20 (by kernel_rfl) (by kernel_rfl) (by rfl) (by rfl) ?_; intro K hK; rintro e w' ⟨rfl, hE⟩; refine ⟨_, rfl, hE, ?_⟩; simp only [Act.put, List.setIfInBounds_toArray, List.set_cons_zero, List.set_cons_succ]; refine hK _ _ ?_; clear hK K; replace HE := Lib.hid (HE.out.trans hE)
    replace hb := hb.ext hE
    clear hE
    refine seq_value (.bool true) (by rfl) (fun x hx => by simp [go_sem, execOp, Act.eval, eqlP, neqP, run_eqGuard_agg _ _ _ _ _ _ _ pool_guard]) ?_; intro K hK; simp only [Act.put, List.setIfInBounds_toArray, List.set_cons_zero, List.set_cons_succ]; refine hK _ ?_; clear hK K
    (repeat (first | (refine seq_skip (by rfl) ?_; intro K hK; simp only [Act.put, List.setIfInBounds_toArray, List.set_cons_zero, List.set_cons_succ]; refine hK _ ?_; clear hK K) | (refine seq_skipc (by rfl) ?_; intro K hK; simp only [Act.put, List.setIfInBounds_toArray, List.set_cons_zero, List.set_cons_succ]; refine hK _ ?_; clear hK K) | (refine seq_read (by rfl) (by rfl) ?_; intro K hK; go_big_quiet_op; first | go_big_quiet_on | (refine ⟨_, fun _ _ => rfl, ?_⟩; go_big_quiet_on))))
    refine seq_load rfl rfl (fun x hx => Blk.ext (hb) hx) rfl Tryd.underlying24 (by kernel_rfl) (by rfl) ?_; intro K hK; simp only [Act.put, List.setIfInBounds_toArray, List.set_cons_zero, List.set_cons_succ]; refine hK _ ?_; clear hK K
    (repeat (first | (refine seq_skip (by rfl) ?_; intro K hK; simp only [Act.put, List.setIfInBounds_toArray, List.set_cons_zero, List.set_cons_succ]; refine hK _ ?_; clear hK K) | (refine seq_skipc (by rfl) ?_; intro K hK; simp only [Act.put, List.setIfInBounds_toArray, List.set_cons_zero, List.set_cons_succ]; refine hK _ ?_; clear hK K) | (refine seq_read (by rfl) (by rfl) ?_; intro K hK; go_big_quiet_op; first | go_big_quiet_on | (refine ⟨_, fun _ _ => rfl, ?_⟩; go_big_quiet_on))))
    refine seq_call (free_c B G m hF _) rfl Tryd.func15 (by kernel_rfl) (by kernel_rfl) (by rfl) (by rfl) ?_; intro K hK; rintro e w' ⟨rfl, hE⟩; refine ⟨_, rfl, hE, ?_⟩; simp only [Act.put, List.setIfInBounds_toArray, List.set_cons_zero, List.set_cons_succ]; refine hK _ _ ?_; clear hK K; replace HE := Lib.hid (HE.out.trans hE)
    rw [hpop]
    (repeat (first | (refine seq_skip (by rfl) ?_; intro K hK; simp only [Act.put, List.setIfInBounds_toArray, List.set_cons_zero, List.set_cons_succ]; refine hK _ ?_; clear hK K) | (refine seq_skipc (by rfl) ?_; intro K hK; simp only [Act.put, List.setIfInBounds_toArray, List.set_cons_zero, List.set_cons_succ]; refine hK _ ?_; clear hK K) | (refine seq_read (by rfl) (by rfl) ?_; intro K hK; go_big_quiet_op; first | go_big_quiet_on | (refine ⟨_, fun _ _ => rfl, ?_⟩; go_big_quiet_on))))
    refine seq_done ?_
    clear hE hb
    go_wp2
    go_ret
    exact ⟨rfl, HE.out⟩

set_option maxRecDepth 100000 in
set_option maxHeartbeats 4000000 in
theorem PoolDoes_w (B F f : Nat) (M : Int) (hB : B < 18446744073709551616) (hm0 : -9223372036854775808 ≤ M) (hm1 : M ≤ 9223372036854775807) (hF : F < 18446744073709551616) (hf : f < 18446744073709551616) (w : World) (hT : Tab w) :
    Calls Tryd.prog 3 #[(.agg #[.int .u64 (B : Int), .int .i64 (M : Int), .int .u64 (F : Int)]), .int .u64 (f : Int)] w fun e w' => e = .returned (.bool true) ∧ Ext w w' := by
  have HT := Lib.hid (hT.alloc (.cells #[.int .u64 (B : Int), .int .i64 (M : Int), .int .u64 (F : Int)] 24))
  have HE := Lib.hid ((Ext.refl w).alloc (.cells #[.int .u64 (B : Int), .int .i64 (M : Int), .int .u64 (F : Int)] 24))
  clear hT
  have hrr := rright_c B F M hB hF hm0 hm1
  have hcr := right_c B F M hB hF hm0 hm1
  have hg := pool_guard
  have hb := Blk.new w 24 #[.int .u64 (B : Int), .int .i64 M, .int .u64 (F : Int)]
  cases hr : rightB B M F
  · rw [hr] at hrr hcr
    go_enter Tryd.func3, Tryd.ntmps3
    go_wp2_with fail; refine (awake4_c _ HT.out).mono ?_; rintro e w1 ⟨rfl, hE⟩; replace HE := Lib.hid (HE.out.trans hE)
    replace hb := (hb.ext hE).drew
    replace HE := Lib.hid HE.out.drew
    clear hE
    go_wp2
    refine wp_region_seq [(0, false), (2, false), (1, true), (3, true), (4, false), (5, false), (6, false), (7, true), (8, false), (9, false)] Ext (by kernel_rfl) (by kernel_rfl) Ext.refl (fun _ _ _ => Ext.trans) ?_; simp only [List.map, nth_z, nth_s]
    refine seq_load rfl rfl (fun x hx => Blk.ext (hb) hx) rfl Tryd.underlying24 (by kernel_rfl) (by rfl) ?_; intro K hK; simp only [Act.put, List.setIfInBounds_toArray, List.set_cons_zero, List.set_cons_succ]; refine hK _ ?_; clear hK K
    refine seq_load rfl rfl (fun x hx => Blk.ext (hb) hx) rfl Tryd.underlying24 (by kernel_rfl) (by rfl) ?_; intro K hK; simp only [Act.put, List.setIfInBounds_toArray, List.set_cons_zero, List.set_cons_succ]; refine hK _ ?_; clear hK K
    refine seq_call (hcr _) rfl Tryd.func9 (by kernel_rfl) (by kernel_rfl) (by rfl) (by rfl) ?_; intro K hK; rintro e w' ⟨rfl, hE⟩; refine ⟨_, rfl, hE, ?_⟩; simp only [Act.put, List.setIfInBounds_toArray, List.set_cons_zero, List.set_cons_succ]; refine hK _ _ ?_; clear hK K; replace HE := Lib.hid (HE.out.trans hE)
    replace hb := hb.ext hE
    clear hE
    refine seq_call (hrr _) rfl Tryd.func10 (by kernel_rfl) (by kernel_rfl) (by rfl) (by rfl) ?_; intro K hK; rintro e w' ⟨rfl, hE⟩; refine ⟨_, rfl, hE, ?_⟩; simp only [Act.put, List.setIfInBounds_toArray, List.set_cons_zero, List.set_cons_succ]; refine hK _ _ ?_; clear hK K; replace HE := Lib.hid (HE.out.trans hE)
    replace hb := hb.ext hE
    clear hE
    (repeat (first | (refine seq_skip (by rfl) ?_; intro K hK; simp only [Act.put, List.setIfInBounds_toArray, List.set_cons_zero, List.set_cons_succ]; refine hK _ ?_; clear hK K) | (refine seq_skipc (by rfl) ?_; intro K hK; simp only [Act.put, List.setIfInBounds_toArray, List.set_cons_zero, List.set_cons_succ]; refine hK _ ?_; clear hK K) | (refine seq_read (by rfl) (by rfl) ?_; intro K hK; go_big_quiet_op; first | go_big_quiet_on | (refine ⟨_, fun _ _ => rfl, ?_⟩; go_big_quiet_on))))
    refine seq_load rfl rfl (fun x hx => Blk.ext (hb) hx) rfl Tryd.underlying24 (by kernel_rfl) (by rfl) ?_; intro K hK; simp only [Act.put, List.setIfInBounds_toArray, List.set_cons_zero, List.set_cons_succ]; refine hK _ ?_; clear hK K
    refine seq_call (hrr _) rfl Tryd.func10 (by kernel_rfl) (by kernel_rfl) (by rfl) (by rfl) ?_; intro K hK; rintro e w' ⟨rfl, hE⟩; refine ⟨_, rfl, hE, ?_⟩; simp only [Act.put, List.setIfInBounds_toArray, List.set_cons_zero, List.set_cons_succ]; refine hK _ _ ?_; clear hK K; replace HE := Lib.hid (HE.out.trans hE)
    replace hb := hb.ext hE
    clear hE
    (repeat (first | (refine seq_skip (by rfl) ?_; intro K hK; simp only [Act.put, List.setIfInBounds_toArray, List.set_cons_zero, List.set_cons_succ]; refine hK _ ?_; clear hK K) | (refine seq_skipc (by rfl) ?_; intro K hK; simp only [Act.put, List.setIfInBounds_toArray, List.set_cons_zero, List.set_cons_succ]; refine hK _ ?_; clear hK K) | (refine seq_read (by rfl) (by rfl) ?_; intro K hK; go_big_quiet_op; first | go_big_quiet_on | (refine ⟨_, fun _ _ => rfl, ?_⟩; go_big_quiet_on))))
    refine seq_done ?_
    go_wp2
    replace hb := hb.drew
    replace HE := Lib.hid HE.out.drew
    refine wp_region_seq [(0, false), (2, false), (1, true), (3, true), (4, false), (5, false)] Ext (by kernel_rfl) (by kernel_rfl) Ext.refl (fun _ _ _ => Ext.trans) ?_; simp only [List.map, nth_z, nth_s]
    refine seq_load rfl rfl (fun x hx => Blk.ext (hb) hx) rfl Tryd.underlying24 (by kernel_rfl) (by rfl) ?_; intro K hK; simp only [Act.put, List.setIfInBounds_toArray, List.set_cons_zero, List.set_cons_succ]; refine hK _ ?_; clear hK K
    refine seq_load rfl rfl (fun x hx => Blk.ext (hb) hx) rfl Tryd.underlying24 (by kernel_rfl) (by rfl) ?_; intro K hK; simp only [Act.put, List.setIfInBounds_toArray, List.set_cons_zero, List.set_cons_succ]; refine hK _ ?_; clear hK K
    refine seq_call (hcr _) rfl Tryd.func9 (by kernel_rfl) (by kernel_rfl) (by rfl) (by rfl) ?_; intro K hK; rintro e w' ⟨rfl, hE⟩; refine ⟨_, rfl, hE, ?_⟩; simp only [Act.put, List.setIfInBounds_toArray, List.set_cons_zero, List.set_cons_succ]; refine hK _ _ ?_; clear hK K; replace HE := Lib.hid (HE.out.trans hE)
    clear hE
    refine seq_call (hrr _) rfl Tryd.func10 (by kernel_rfl) (by kernel_rfl) (by rfl) (by rfl) ?_; intro K hK; rintro e w' ⟨rfl, hE⟩; refine ⟨_, rfl, hE, ?_⟩; simp only [Act.put, List.setIfInBounds_toArray, List.set_cons_zero, List.set_cons_succ]; refine hK _ _ ?_; clear hK K; replace HE := Lib.hid (HE.out.trans hE)
    clear hE
    (repeat (first | (refine seq_skip (by rfl) ?_; intro K hK; simp only [Act.put, List.setIfInBounds_toArray, List.set_cons_zero, List.set_cons_succ]; refine hK _ ?_; clear hK K) | (refine seq_skipc (by rfl) ?_; intro K hK; simp only [Act.put, List.setIfInBounds_toArray, List.set_cons_zero, List.set_cons_succ]; refine hK _ ?_; clear hK K) | (refine seq_read (by rfl) (by rfl) ?_; intro K hK; go_big_quiet_op; first | go_big_quiet_on | (refine ⟨_, fun _ _ => rfl, ?_⟩; go_big_quiet_on))))
    refine seq_done ?_
    clear hb
    go_wp2
    go_ret
    exact ⟨rfl, HE.out⟩
  · rw [hr] at hrr hcr
    obtain ⟨m, rfl, hm, hB2, hFm⟩ := right_is hr
    obtain ⟨G, x, ec, hct, hrt⟩ : ∃ G x ec : Nat, (∀ w, Tab w → Calls Tryd.prog 11 #[(.agg #[.int .u64 (B : Int), .int .i64 (m : Int), .int .u64 (F : Int)])] w fun e w' => e = .returned (.tuple #[(.agg #[.int .u64 (B : Int), .int .i64 (m : Int), .int .u64 (G : Int)]), .int .u64 (x : Int), .int .i64 (ec : Int)]) ∧ Ext w w') ∧
        (∀ w, Calls Tryd.prog 12 #[(.agg #[.int .u64 (B : Int), .int .i64 (m : Int), .int .u64 (F : Int)])] w fun e w' => e = .returned (.tuple #[(.agg #[.int .u64 (B : Int), .int .i64 (m : Int), .int .u64 (G : Int)]), .int .u64 (x : Int), .int .i64 (ec : Int)]) ∧ Ext w w') := by
      by_cases h0 : F = 0
      · subst h0; exact ⟨0, 0, 8, fun w hT => take_no B m w hT, fun w => rtake_no B m hm w⟩
      · exact ⟨takeF F, B + lowN' F, 0, fun w hT => take_yes B m F hB2 hF h0 w hT, fun w => rtake_yes B m F hB2 hm hFm h0 w⟩
    obtain ⟨H, ed, hcg, hrg⟩ : ∃ (H : Nat) (ed : Int), (∀ w, Calls Tryd.prog 13 #[(.agg #[.int .u64 (B : Int), .int .i64 (m : Int), .int .u64 (F : Int)]), .int .u64 (f : Int)] w fun e w' => e = .returned (.tuple #[(.agg #[.int .u64 (B : Int), .int .i64 (m : Int), .int .u64 (H : Int)]), .int .i64 ed]) ∧ Ext w w') ∧
        (∀ w, Calls Tryd.prog 14 #[(.agg #[.int .u64 (B : Int), .int .i64 (m : Int), .int .u64 (F : Int)]), .int .u64 (f : Int)] w fun e w' => e = .returned (.tuple #[(.agg #[.int .u64 (B : Int), .int .i64 (m : Int), .int .u64 (H : Int)]), .int .i64 ed]) ∧ Ext w w') :=
      ⟨_, _, give_c B m F f hB2 hm hF hf, rgive_c B m F f hB2 hm hF hf⟩
    have hci := is_c B m F f hB2 hm hF hf
    have hri := ris_c B m F f hB2 hm hF hf
    have hcf := free_c B F m hF
    have hrf := rfree_c B F m hF
    generalize isB B m F f = isb at *
    generalize popN F 64 = pop at *
    go_enter Tryd.func3, Tryd.ntmps3
    go_wp2_with fail; refine (awake4_c _ HT.out).mono ?_; rintro e w1 ⟨rfl, hE⟩; replace HE := Lib.hid (HE.out.trans hE)
    have HT1 := Lib.hid ((HT.out.ext hE).ext (Ext.refl _).drew)
    replace hb := (hb.ext hE).drew
    replace HE := Lib.hid HE.out.drew
    clear hE HT
    go_wp2
    refine wp_region_seq [(0, false), (2, false), (1, true), (3, true), (4, false), (5, false), (6, false), (7, true), (8, false), (9, false)] Ext (by kernel_rfl) (by kernel_rfl) Ext.refl (fun _ _ _ => Ext.trans) ?_; simp only [List.map, nth_z, nth_s]
    refine seq_load rfl rfl (fun x hx => Blk.ext (hb) hx) rfl Tryd.underlying24 (by kernel_rfl) (by rfl) ?_; intro K hK; simp only [Act.put, List.setIfInBounds_toArray, List.set_cons_zero, List.set_cons_succ]; refine hK _ ?_; clear hK K
    refine seq_load rfl rfl (fun x hx => Blk.ext (hb) hx) rfl Tryd.underlying24 (by kernel_rfl) (by rfl) ?_; intro K hK; simp only [Act.put, List.setIfInBounds_toArray, List.set_cons_zero, List.set_cons_succ]; refine hK _ ?_; clear hK K
    refine seq_call (hcr _) rfl Tryd.func9 (by kernel_rfl) (by kernel_rfl) (by rfl) (by rfl) ?_; intro K hK; rintro e w' ⟨rfl, hE⟩; refine ⟨_, rfl, hE, ?_⟩; simp only [Act.put, List.setIfInBounds_toArray, List.set_cons_zero, List.set_cons_succ]; refine hK _ _ ?_; clear hK K; replace HE := Lib.hid (HE.out.trans hE)
    replace hb := hb.ext hE
    replace HT1 := Lib.hid (HT1.out.ext hE)
    clear hE
    refine seq_call (hrr _) rfl Tryd.func10 (by kernel_rfl) (by kernel_rfl) (by rfl) (by rfl) ?_; intro K hK; rintro e w' ⟨rfl, hE⟩; refine ⟨_, rfl, hE, ?_⟩; simp only [Act.put, List.setIfInBounds_toArray, List.set_cons_zero, List.set_cons_succ]; refine hK _ _ ?_; clear hK K; replace HE := Lib.hid (HE.out.trans hE)
    replace hb := hb.ext hE
    replace HT1 := Lib.hid (HT1.out.ext hE)
    clear hE
    (repeat (first | (refine seq_skip (by rfl) ?_; intro K hK; simp only [Act.put, List.setIfInBounds_toArray, List.set_cons_zero, List.set_cons_succ]; refine hK _ ?_; clear hK K) | (refine seq_skipc (by rfl) ?_; intro K hK; simp only [Act.put, List.setIfInBounds_toArray, List.set_cons_zero, List.set_cons_succ]; refine hK _ ?_; clear hK K) | (refine seq_read (by rfl) (by rfl) ?_; intro K hK; go_big_quiet_op; first | go_big_quiet_on | (refine ⟨_, fun _ _ => rfl, ?_⟩; go_big_quiet_on))))
    refine seq_load rfl rfl (fun x hx => Blk.ext (hb) hx) rfl Tryd.underlying24 (by kernel_rfl) (by rfl) ?_; intro K hK; simp only [Act.put, List.setIfInBounds_toArray, List.set_cons_zero, List.set_cons_succ]; refine hK _ ?_; clear hK K
    refine seq_call (hrr _) rfl Tryd.func10 (by kernel_rfl) (by kernel_rfl) (by rfl) (by rfl) ?_; intro K hK; rintro e w' ⟨rfl, hE⟩; refine ⟨_, rfl, hE, ?_⟩; simp only [Act.put, List.setIfInBounds_toArray, List.set_cons_zero, List.set_cons_succ]; refine hK _ _ ?_; clear hK K; replace HE := Lib.hid (HE.out.trans hE)
    replace hb := hb.ext hE
    replace HT1 := Lib.hid (HT1.out.ext hE)
    clear hE hcr hrr
    (repeat (first | (refine seq_skip (by rfl) ?_; intro K hK; simp only [Act.put, List.setIfInBounds_toArray, List.set_cons_zero, List.set_cons_succ]; refine hK _ ?_; clear hK K) | (refine seq_skipc (by rfl) ?_; intro K hK; simp only [Act.put, List.setIfInBounds_toArray, List.set_cons_zero, List.set_cons_succ]; refine hK _ ?_; clear hK K) | (refine seq_read (by rfl) (by rfl) ?_; intro K hK; go_big_quiet_op; first | go_big_quiet_on | (refine ⟨_, fun _ _ => rfl, ?_⟩; go_big_quiet_on))))
    refine seq_done ?_
    obtain ⟨b0, b1, b2⟩ := hb.c3
    go_wp2_with fail; refine (hct _ HT1.out).mono ?_; rintro e w3 ⟨rfl, hE⟩; replace HE := Lib.hid (HE.out.trans hE)
    clear HT1 hct b0 b1 b2
    have ha := Blk.new w3 24 #[.int .u64 (B : Int), .int .i64 (m : Int), .int .u64 (G : Int)]
    replace hb := hb.ext hE
    replace hb := hb.alloc (.cells #[.int .u64 (B : Int), .int .i64 (m : Int), .int .u64 (G : Int)] 24)
    replace HE := Lib.hid (HE.out.alloc (.cells #[.int .u64 (B : Int), .int .i64 (m : Int), .int .u64 (G : Int)] 24))
    clear hE
    obtain ⟨b0, b1, b2⟩ := hb.c3
    go_wp2_with fail; refine (hrt _).mono ?_; rintro e w4 ⟨rfl, hE⟩; replace HE := Lib.hid (HE.out.trans hE)
    clear hrt b0 b1 b2
    have hc := Blk.new w4 24 #[.int .u64 (B : Int), .int .i64 (m : Int), .int .u64 (G : Int)]
    replace hb := hb.ext hE
    replace ha := ha.ext hE
    replace hb := hb.alloc (.cells #[.int .u64 (B : Int), .int .i64 (m : Int), .int .u64 (G : Int)] 24)
    replace ha := ha.alloc (.cells #[.int .u64 (B : Int), .int .i64 (m : Int), .int .u64 (G : Int)] 24)
    replace HE := Lib.hid (HE.out.alloc (.cells #[.int .u64 (B : Int), .int .i64 (m : Int), .int .u64 (G : Int)] 24))
    clear hE
    obtain ⟨b0, b1, b2⟩ := hb.c3
    go_wp2_with fail; refine (hcg _).mono ?_; rintro e w5 ⟨rfl, hE⟩; replace HE := Lib.hid (HE.out.trans hE)
    clear hcg b0 b1 b2
    have hd := Blk.new w5 24 #[.int .u64 (B : Int), .int .i64 (m : Int), .int .u64 (H : Int)]
    replace hb := hb.ext hE
    replace ha := ha.ext hE
    replace hc := hc.ext hE
    replace hb := hb.alloc (.cells #[.int .u64 (B : Int), .int .i64 (m : Int), .int .u64 (H : Int)] 24)
    replace ha := ha.alloc (.cells #[.int .u64 (B : Int), .int .i64 (m : Int), .int .u64 (H : Int)] 24)
    replace hc := hc.alloc (.cells #[.int .u64 (B : Int), .int .i64 (m : Int), .int .u64 (H : Int)] 24)
    replace HE := Lib.hid (HE.out.alloc (.cells #[.int .u64 (B : Int), .int .i64 (m : Int), .int .u64 (H : Int)] 24))
    clear hE
    obtain ⟨b0, b1, b2⟩ := hb.c3
    go_wp2_with fail; refine (hrg _).mono ?_; rintro e w6 ⟨rfl, hE⟩; replace HE := Lib.hid (HE.out.trans hE)
    clear hrg b0 b1 b2
    have he := Blk.new w6 24 #[.int .u64 (B : Int), .int .i64 (m : Int), .int .u64 (H : Int)]
    replace hb := hb.ext hE
    replace ha := ha.ext hE
    replace hc := hc.ext hE
    replace hd := hd.ext hE
    replace hb := hb.alloc (.cells #[.int .u64 (B : Int), .int .i64 (m : Int), .int .u64 (H : Int)] 24)
    replace ha := ha.alloc (.cells #[.int .u64 (B : Int), .int .i64 (m : Int), .int .u64 (H : Int)] 24)
    replace hc := hc.alloc (.cells #[.int .u64 (B : Int), .int .i64 (m : Int), .int .u64 (H : Int)] 24)
    replace hd := hd.alloc (.cells #[.int .u64 (B : Int), .int .i64 (m : Int), .int .u64 (H : Int)] 24)
    replace HE := Lib.hid (HE.out.alloc (.cells #[.int .u64 (B : Int), .int .i64 (m : Int), .int .u64 (H : Int)] 24)).drew
    clear hE
    replace hb := hb.drew
    replace ha := ha.drew
    replace hc := hc.drew
    replace hd := hd.drew
    replace he := he.drew
    go_wp2
    refine wp_region_seq [(0, false), (1, false), (2, false), (3, false), (4, false), (5, false), (6, false), (7, false), (8, false), (9, false), (10, false), (11, false), (12, false), (13, false), (14, false), (15, false), (16, false), (17, false), (18, false), (19, false), (20, false), (21, false), (22, false), (23, false), (24, false), (26, false), (25, true), (27, true), (28, false), (29, false), (30, false), (31, false), (32, false), (34, false), (35, false), (33, true), (36, true), (37, false), (38, false), (39, false)] Ext (by kernel_rfl) (by kernel_rfl) Ext.refl (fun _ _ _ => Ext.trans) ?_; simp only [List.map, nth_z, nth_s]
    refine seq_load rfl rfl (fun x hx => Blk.ext (ha) hx) rfl Tryd.underlying24 (by kernel_rfl) (by rfl) ?_; intro K hK; simp only [Act.put, List.setIfInBounds_toArray, List.set_cons_zero, List.set_cons_succ]; refine hK _ ?_; clear hK K
    refine seq_load rfl rfl (fun x hx => Blk.ext (hc) hx) rfl Tryd.underlying24 (by kernel_rfl) (by rfl) ?_; intro K hK; simp only [Act.put, List.setIfInBounds_toArray, List.set_cons_zero, List.set_cons_succ]; refine hK _ ?_; clear hK K
    refine seq_value (.bool true) (by rfl) (fun x hx => by simp [go_sem, execOp, Act.eval, eqlP, neqP, run_eqGuard_agg _ _ _ _ _ _ _ pool_guard]) ?_; intro K hK; simp only [Act.put, List.setIfInBounds_toArray, List.set_cons_zero, List.set_cons_succ]; refine hK _ ?_; clear hK K
    (repeat (first | (refine seq_skip (by rfl) ?_; intro K hK; simp only [Act.put, List.setIfInBounds_toArray, List.set_cons_zero, List.set_cons_succ]; refine hK _ ?_; clear hK K) | (refine seq_skipc (by rfl) ?_; intro K hK; simp only [Act.put, List.setIfInBounds_toArray, List.set_cons_zero, List.set_cons_succ]; refine hK _ ?_; clear hK K) | (refine seq_read (by rfl) (by rfl) ?_; intro K hK; go_big_quiet_op; first | go_big_quiet_on | (refine ⟨_, fun _ _ => rfl, ?_⟩; go_big_quiet_on))))
    refine seq_load rfl rfl (fun x hx => Blk.ext (hd) hx) rfl Tryd.underlying24 (by kernel_rfl) (by rfl) ?_; intro K hK; simp only [Act.put, List.setIfInBounds_toArray, List.set_cons_zero, List.set_cons_succ]; refine hK _ ?_; clear hK K
    refine seq_load rfl rfl (fun x hx => Blk.ext (he) hx) rfl Tryd.underlying24 (by kernel_rfl) (by rfl) ?_; intro K hK; simp only [Act.put, List.setIfInBounds_toArray, List.set_cons_zero, List.set_cons_succ]; refine hK _ ?_; clear hK K
    refine seq_value (.bool true) (by rfl) (fun x hx => by simp [go_sem, execOp, Act.eval, eqlP, neqP, run_eqGuard_agg _ _ _ _ _ _ _ pool_guard]) ?_; intro K hK; simp only [Act.put, List.setIfInBounds_toArray, List.set_cons_zero, List.set_cons_succ]; refine hK _ ?_; clear hK K
    (repeat (first | (refine seq_skip (by rfl) ?_; intro K hK; simp only [Act.put, List.setIfInBounds_toArray, List.set_cons_zero, List.set_cons_succ]; refine hK _ ?_; clear hK K) | (refine seq_skipc (by rfl) ?_; intro K hK; simp only [Act.put, List.setIfInBounds_toArray, List.set_cons_zero, List.set_cons_succ]; refine hK _ ?_; clear hK K) | (refine seq_read (by rfl) (by rfl) ?_; intro K hK; go_big_quiet_op; first | go_big_quiet_on | (refine ⟨_, fun _ _ => rfl, ?_⟩; go_big_quiet_on))))
    refine seq_load rfl rfl (fun x hx => Blk.ext (hb) hx) rfl Tryd.underlying24 (by kernel_rfl) (by rfl) ?_; intro K hK; simp only [Act.put, List.setIfInBounds_toArray, List.set_cons_zero, List.set_cons_succ]; refine hK _ ?_; clear hK K
    refine seq_load rfl rfl (fun x hx => Blk.ext (hb) hx) rfl Tryd.underlying24 (by kernel_rfl) (by rfl) ?_; intro K hK; simp only [Act.put, List.setIfInBounds_toArray, List.set_cons_zero, List.set_cons_succ]; refine hK _ ?_; clear hK K
    refine seq_call (hcf _) rfl Tryd.func15 (by kernel_rfl) (by kernel_rfl) (by rfl) (by rfl) ?_; intro K hK; rintro e w' ⟨rfl, hE⟩; refine ⟨_, rfl, hE, ?_⟩; simp only [Act.put, List.setIfInBounds_toArray, List.set_cons_zero, List.set_cons_succ]; refine hK _ _ ?_; clear hK K; replace HE := Lib.hid (HE.out.trans hE)
    replace hb := hb.ext hE
    clear hE
    refine seq_call (hrf _) rfl Tryd.func16 (by kernel_rfl) (by kernel_rfl) (by rfl) (by rfl) ?_; intro K hK; rintro e w' ⟨rfl, hE⟩; refine ⟨_, rfl, hE, ?_⟩; simp only [Act.put, List.setIfInBounds_toArray, List.set_cons_zero, List.set_cons_succ]; refine hK _ _ ?_; clear hK K; replace HE := Lib.hid (HE.out.trans hE)
    replace hb := hb.ext hE
    clear hE
    (repeat (first | (refine seq_skip (by rfl) ?_; intro K hK; simp only [Act.put, List.setIfInBounds_toArray, List.set_cons_zero, List.set_cons_succ]; refine hK _ ?_; clear hK K) | (refine seq_skipc (by rfl) ?_; intro K hK; simp only [Act.put, List.setIfInBounds_toArray, List.set_cons_zero, List.set_cons_succ]; refine hK _ ?_; clear hK K) | (refine seq_read (by rfl) (by rfl) ?_; intro K hK; go_big_quiet_op; first | go_big_quiet_on | (refine ⟨_, fun _ _ => rfl, ?_⟩; go_big_quiet_on))))
    refine seq_load rfl rfl (fun x hx => Blk.ext (hb) hx) rfl Tryd.underlying24 (by kernel_rfl) (by rfl) ?_; intro K hK; simp only [Act.put, List.setIfInBounds_toArray, List.set_cons_zero, List.set_cons_succ]; refine hK _ ?_; clear hK K
    (repeat (first | (refine seq_skip (by rfl) ?_; intro K hK; simp only [Act.put, List.setIfInBounds_toArray, List.set_cons_zero, List.set_cons_succ]; refine hK _ ?_; clear hK K) | (refine seq_skipc (by rfl) ?_; intro K hK; simp only [Act.put, List.setIfInBounds_toArray, List.set_cons_zero, List.set_cons_succ]; refine hK _ ?_; clear hK K) | (refine seq_read (by rfl) (by rfl) ?_; intro K hK; go_big_quiet_op; first | go_big_quiet_on | (refine ⟨_, fun _ _ => rfl, ?_⟩; go_big_quiet_on))))
    refine seq_load rfl rfl (fun x hx => Blk.ext (hb) hx) rfl Tryd.underlying24 (by kernel_rfl) (by rfl) ?_; intro K hK; simp only [Act.put, List.setIfInBounds_toArray, List.set_cons_zero, List.set_cons_succ]; refine hK _ ?_; clear hK K
    (repeat (first | (refine seq_skip (by rfl) ?_; intro K hK; simp only [Act.put, List.setIfInBounds_toArray, List.set_cons_zero, List.set_cons_succ]; refine hK _ ?_; clear hK K) | (refine seq_skipc (by rfl) ?_; intro K hK; simp only [Act.put, List.setIfInBounds_toArray, List.set_cons_zero, List.set_cons_succ]; refine hK _ ?_; clear hK K) | (refine seq_read (by rfl) (by rfl) ?_; intro K hK; go_big_quiet_op; first | go_big_quiet_on | (refine ⟨_, fun _ _ => rfl, ?_⟩; go_big_quiet_on))))
    refine seq_call (hci _) rfl Tryd.func17 (by kernel_rfl) (by kernel_rfl) (by rfl) (by rfl) ?_; intro K hK; rintro e w' ⟨rfl, hE⟩; refine ⟨_, rfl, hE, ?_⟩; simp only [Act.put, List.setIfInBounds_toArray, List.set_cons_zero, List.set_cons_succ]; refine hK _ _ ?_; clear hK K; replace HE := Lib.hid (HE.out.trans hE)
    clear hE
    refine seq_call (hri _) rfl Tryd.func18 (by kernel_rfl) (by kernel_rfl) (by rfl) (by rfl) ?_; intro K hK; rintro e w' ⟨rfl, hE⟩; refine ⟨_, rfl, hE, ?_⟩; simp only [Act.put, List.setIfInBounds_toArray, List.set_cons_zero, List.set_cons_succ]; refine hK _ _ ?_; clear hK K; replace HE := Lib.hid (HE.out.trans hE)
    clear hE
    (repeat (first | (refine seq_skip (by rfl) ?_; intro K hK; simp only [Act.put, List.setIfInBounds_toArray, List.set_cons_zero, List.set_cons_succ]; refine hK _ ?_; clear hK K) | (refine seq_skipc (by rfl) ?_; intro K hK; simp only [Act.put, List.setIfInBounds_toArray, List.set_cons_zero, List.set_cons_succ]; refine hK _ ?_; clear hK K) | (refine seq_read (by rfl) (by rfl) ?_; intro K hK; go_big_quiet_op; first | go_big_quiet_on | (refine ⟨_, fun _ _ => rfl, ?_⟩; go_big_quiet_on))))
    refine seq_done ?_
    clear ha hb hc hd he
    go_wp2
    go_ret
    exact ⟨rfl, HE.out⟩
end Go.Proofs.YtdiffllpoappfaaDoor
