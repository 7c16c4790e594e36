/- FenceLess. -/
import Derived.Test.YtlimipjfdecbfaaDoorLaw15ab
namespace Go.Proofs.YtlimipjfdecbfaaDoor
open Go.ChangeShapes Go.WideShapes Go.ChangeAt Go.RowKit
set_option linter.unusedVariables false
set_option linter.unusedSimpArgs false

set_option maxRecDepth 100000 in
set_option maxHeartbeats 8000000 in
theorem FenceLess_w (A : Option Addr) (L : List St) (c n a : Nat) (n1 : n < 18446744073709551616) (a1 : a < 18446744073709551616) (w : World) (hr : RowV KS w A L c) (hT : Lays w) :
    Calls Tryd.prog 6 #[.agg #[.slice A L.length c], .int .u64 (n : Int), .int .u64 (a : Int)] w fun r w' => r = .returned (.bool true) ∧ Ext w w' := by
  have h1 := Blk.new w 37 #[.slice A L.length c]
  have HE := Lib.hid ((Ext.refl w).alloc (.cells #[.slice A L.length c] 37))
  have hrow : ∀ W : World, Ext w W → RowV KS W A L c := fun W h => hr.ext h
  have hLm : L.length ≤ 9223372036854775807 := Nat.le_trans hr.2.2.1 hr.2.2.2
  have crr := fun w h => rright14_c A L c hLm w h
  clear hr
  cases hrt : rightT L
  · rw [hrt] at crr
    go_enter Tryd.func6, Tryd.ntmps6
    go_wp2_with (fail); refine (awake15_c _ (hT.ext HE.out)).mono ?_; rintro e w' ⟨rfl, hE⟩; (try replace hb := hb.ext hE); (try replace hm := hm.ext hE); (try replace h1 := h1.ext hE); (try replace h2 := h2.ext hE); (try replace hM := hM.ext hE); (try replace HE := Lib.hid (HE.out.trans hE)); (try replace HF := Lib.hid (HF.out.trans hE))
    clear hE
    go_wp2_with ((refine wpList_load_blk (by rfl) 37 _ rfl rfl (by first | exact h1 | exact h2 | exact hb) Tryd.underlying37 rfl (by kernel_rfl) ?_)); refine (crr _ (hrow _ HE.out)).mono ?_; rintro e w' ⟨rfl, hE⟩; (try replace hb := hb.ext hE); (try replace hm := hm.ext hE); (try replace h1 := h1.ext hE); (try replace h2 := h2.ext hE); (try replace hM := hM.ext hE); (try replace HE := Lib.hid (HE.out.trans hE)); (try replace HF := Lib.hid (HF.out.trans hE))
    clear hE
    go_wp2_with (fail); refine (awake15_c _ (hT.ext HE.out)).mono ?_; rintro e w' ⟨rfl, hE⟩; (try replace hb := hb.ext hE); (try replace hm := hm.ext hE); (try replace h1 := h1.ext hE); (try replace h2 := h2.ext hE); (try replace hM := hM.ext hE); (try replace HE := Lib.hid (HE.out.trans hE)); (try replace HF := Lib.hid (HF.out.trans hE))
    clear hE
    go_wp2
    go_ret
    exact ⟨rfl, HE.out⟩
  rw [hrt] at crr
  have cis := fun w => ris5_c (a : Int) (by omega) (by omega) w
  cases hva : vaB (a : Int)
  · rw [hva] at cis
    go_enter Tryd.func6, Tryd.ntmps6
    go_wp2_with (fail); refine (awake15_c _ (hT.ext HE.out)).mono ?_; rintro e w' ⟨rfl, hE⟩; (try replace hb := hb.ext hE); (try replace hm := hm.ext hE); (try replace h1 := h1.ext hE); (try replace h2 := h2.ext hE); (try replace hM := hM.ext hE); (try replace HE := Lib.hid (HE.out.trans hE)); (try replace HF := Lib.hid (HF.out.trans hE))
    clear hE
    go_wp2_with ((refine wpList_load_blk (by rfl) 37 _ rfl rfl (by first | exact h1 | exact h2 | exact hb) Tryd.underlying37 rfl (by kernel_rfl) ?_)); refine (crr _ (hrow _ HE.out)).mono ?_; rintro e w' ⟨rfl, hE⟩; (try replace hb := hb.ext hE); (try replace hm := hm.ext hE); (try replace h1 := h1.ext hE); (try replace h2 := h2.ext hE); (try replace hM := hM.ext hE); (try replace HE := Lib.hid (HE.out.trans hE)); (try replace HF := Lib.hid (HF.out.trans hE))
    clear hE
    go_wp2_with (fail); refine (calls_ext (cis _)).mono ?_; rintro e w' ⟨rfl, hE⟩; (try replace hb := hb.ext hE); (try replace hm := hm.ext hE); (try replace h1 := h1.ext hE); (try replace h2 := h2.ext hE); (try replace hM := hM.ext hE); (try replace HE := Lib.hid (HE.out.trans hE)); (try replace HF := Lib.hid (HF.out.trans hE))
    clear hE
    go_wp2_with (fail); refine (awake15_c _ (hT.ext HE.out)).mono ?_; rintro e w' ⟨rfl, hE⟩; (try replace hb := hb.ext hE); (try replace hm := hm.ext hE); (try replace h1 := h1.ext hE); (try replace h2 := h2.ext hE); (try replace hM := hM.ext hE); (try replace HE := Lib.hid (HE.out.trans hE)); (try replace HF := Lib.hid (HF.out.trans hE))
    clear hE
    go_wp2
    go_ret
    exact ⟨rfl, HE.out⟩
  rw [hva] at cis
  have hl16 := rt_len hrt
  have cal := fun w h => rall14_c A L c (by omega) w h
  unfold MadeE at cal
  have hmy := fun j (hj : j < (allT L).length) => all_may hrt (getD_mem (d := e0) hj)
  have cof := fun w => of15_c n a w
  have cas := fun w => asid15_c n w
  have cad := fun w => addr15_c a w
  have cnm := fun f (hf : f.ok) q hm w k => names15_c f hf q hm w k
  have ccv := fun q hm w => rcovers_c q hm (a : Int) hva (by omega) (by omega) w
  have cd1 := fun w h k => do15_c A L c hrt (fAd a) (fAd_ok a1) w h k
  have cd2 := fun w h k => do15_c A L c hrt (fOf n a) (fOf_ok n1 a1) w h k
  have cf1 := fun A c w h => rfind14_c A (doF (fAd a) L) c (by rw [doF_len]; omega) (rt_doF hrt _) (n : Int) (a : Int) (by omega) (by omega) hva (by omega) (by omega) w h
  have cf2 := fun A c w h => rfind14_c A (doF (fOf n a) L) c (by rw [doF_len]; omega) (rt_doF hrt _) (n : Int) (a : Int) (by omega) (by omega) hva (by omega) (by omega) w h
  have hgl := @of_global L n a
  unfold MadeT at cd1 cd2
  unfold FoundT at cf1 cf2
  rw [doF_len] at cd1 cd2 cf1 cf2
  rw [ad_gone] at cf1
  generalize enT (n : Int) (a : Int) (doF (fAd a) L) = X1 at *
  generalize seT (n : Int) (a : Int) (doF (fAd a) L) = s1 at *
  generalize wyT (n : Int) (a : Int) (doF (fAd a) L) = y1 at *
  generalize enT (n : Int) (a : Int) (doF (fOf n a) L) = X2 at *
  generalize seT (n : Int) (a : Int) (doF (fOf n a) L) = s2 at *
  generalize wyT (n : Int) (a : Int) (doF (fOf n a) L) = y2 at *
  generalize okT (n : Int) (a : Int) (doF (fOf n a) L) = o2 at *
  generalize doF (fAd a) L = D1 at *
  generalize doF (fOf n a) L = D2 at *
  clear hrt hva
  go_enter Tryd.func6, Tryd.ntmps6
  go_wp2_with (fail); refine (awake15_c _ (hT.ext HE.out)).mono ?_; rintro e w' ⟨rfl, hE⟩; (try replace hb := hb.ext hE); (try replace hm := hm.ext hE); (try replace h1 := h1.ext hE); (try replace h2 := h2.ext hE); (try replace hM := hM.ext hE); (try replace HE := Lib.hid (HE.out.trans hE)); (try replace HF := Lib.hid (HF.out.trans hE))
  clear hE
  go_wp2_with ((refine wpList_load_blk (by rfl) 37 _ rfl rfl (by first | exact h1 | exact h2 | exact hb) Tryd.underlying37 rfl (by kernel_rfl) ?_)); refine (crr _ (hrow _ HE.out)).mono ?_; rintro e w' ⟨rfl, hE⟩; (try replace hb := hb.ext hE); (try replace hm := hm.ext hE); (try replace h1 := h1.ext hE); (try replace h2 := h2.ext hE); (try replace hM := hM.ext hE); (try replace HE := Lib.hid (HE.out.trans hE)); (try replace HF := Lib.hid (HF.out.trans hE))
  clear hE
  go_wp2_with (fail); refine (calls_ext (cis _)).mono ?_; rintro e w' ⟨rfl, hE⟩; (try replace hb := hb.ext hE); (try replace hm := hm.ext hE); (try replace h1 := h1.ext hE); (try replace h2 := h2.ext hE); (try replace hM := hM.ext hE); (try replace HE := Lib.hid (HE.out.trans hE)); (try replace HF := Lib.hid (HF.out.trans hE))
  clear hE
  clear crr cis
  go_wp2_with ((refine wpList_load_blk (by rfl) 37 _ rfl rfl (by first | exact h1 | exact h2 | exact hb) Tryd.underlying37 rfl (by kernel_rfl) ?_)); refine (cal _ (hrow _ HE.out)).mono ?_; rintro e w' ⟨A3, c3, rfl, hr3, -, hE⟩; (try replace hb := hb.ext hE); (try replace hm := hm.ext hE); (try replace h1 := h1.ext hE); (try replace h2 := h2.ext hE); (try replace hM := hM.ext hE); (try replace HE := Lib.hid (HE.out.trans hE)); (try replace HF := Lib.hid (HF.out.trans hE)); (try replace r0 := r0.ext hE); (try replace r1 := r1.ext hE); (try replace r2 := r2.ext hE); (try replace r3 := r3.ext hE); (try replace r4 := r4.ext hE); (try replace r5 := r5.ext hE); (try replace r6 := r6.ext hE); clear hE
  clear cal
  have hlc := hr3.2.2.1
  have hcm := hr3.2.2.2
  have hrx : ∀ W : World, Ext w' W → RowV KE W A3 (allT L) c3 := fun W h => hr3.ext h
  generalize hM : allT L = M at *
  clear hM hr3
  have b1 := h1
  have HE0 := HE
  clear h1 HE
  go_wp2
  go_loopw [8] (fun i wr => ∃ k : Nat, k ≤ M.length ∧ i = .int .i64 k ∧ Ext w' wr) (fun i _ => (M.length - intOf i).toNat)
  case atStart => exact ⟨0, by omega, rfl, Ext.refl _⟩
  case round =>
    obtain ⟨k, hk, rfl, hE⟩ := hrel
    have HB := Lib.hid hE
    clear hE
    by_cases hlt : k < M.length
    · have hkz : (k : Int) < (M.length : Int) := by omega
      obtain ⟨b, off, rfl, hb, hr4⟩ := (hrx _ HB.out).some (by omega)
      have e2 : wr.rangeAt b (off + k * 11) (enC (M.getD k e0)).toList := hr4 k hlt
      have hm := hmy k hlt
      clear hr4 hrx hmy hgl cf1 cf2 cd1 cd2
      generalize M.getD k e0 = e at *
      have cn1 := fun w k => cnm (fOf n a) (fOf_ok n1 a1) e hm w k
      have cn2 := fun w k => cnm (fAs n) (fAs_ok n1) e hm w k
      have cn3 := fun w k => cnm (fAd a) (fAd_ok a1) e hm w k
      have cc := fun w => ccv e hm w
      rw [nam_of] at cn1
      rw [nam_ad] at cn1 cn3
      have hna := @nam_as n e
      clear cnm ccv hm
      have h2 := Blk.new wr 28 (enC e)
      have HE := Lib.hid (HE0.out.trans HB.out)
      have hE := (Ext.refl wr).alloc (.cells (enC e) 28)
      replace HE := Lib.hid (HE.out.trans hE)
      have HF := Lib.hid (HB.out.trans hE)
      clear hE
      generalize covE e (a : Int) = Y at *
      have hYY : (Y != Y) = false := by cases Y <;> rfl
      cases hX : namF (fAs n) e
      · rw [hX] at cn1 cn2
        rw [Bool.false_and] at cn1
        clear hna hX
        go_wp2_with (first | (refine wpList_load_rng (w := wr) (by rfl) 28 _ rfl rfl e2 Tryd.underlying28 rfl (en_info _) ?_) | (refine wpList_store_new rfl 28 _ _ rfl (enC _) _ _ rfl rfl (en_info _) (by simp [enC_size]) (enC_one _) ?_))
        clear e2
        (try replace hb := Blk.drew hb); (try replace hm := Blk.drew hm); (try replace h1 := Blk.drew h1); (try replace h2 := Blk.drew h2); replace HE := Lib.hid HE.out.drew; (try replace HF := Lib.hid HF.out.drew)
        refine wp_region_seq [(0, false), (1, false), (3, false), (2, true), (4, true), (5, false)] Ext (by kernel_rfl) (by kernel_rfl) Ext.refl (fun _ _ _ => Ext.trans) ?_; simp only [List.map, nth_z, nth_s]
        (try simp only [Act.put, List.setIfInBounds_toArray, List.set_cons_zero, List.set_cons_succ])
        (repeat (first | (refine seq_skip (by rfl) ?_; intro K hK; simp only [Act.put, List.setIfInBounds_toArray, List.set_cons_zero, List.set_cons_succ]; refine hK _ ?_; clear hK K) | (refine seq_skipc (by rfl) ?_; intro K hK; simp only [Act.put, List.setIfInBounds_toArray, List.set_cons_zero, List.set_cons_succ]; refine hK _ ?_; clear hK K) | (refine seq_read (by rfl) (by rfl) ?_; intro K hK; go_big_quiet_op; first | go_big_quiet_on | (refine ⟨_, fun _ _ => rfl, ?_⟩; go_big_quiet_on))))
        refine seq_load rfl rfl (fun x hx => Blk.ext (h2) hx) rfl Tryd.underlying28 (by kernel_rfl) (by rfl) ?_; intro K hK; simp only [Act.put, List.setIfInBounds_toArray, List.set_cons_zero, List.set_cons_succ]; refine hK _ ?_; clear hK K
        refine seq_call (cof _) rfl Tryd.func10 (by kernel_rfl) (by kernel_rfl) (by rfl) (by rfl) ?_; intro K hK; rintro e w' ⟨rfl, hE⟩; refine ⟨_, rfl, hE, ?_⟩; simp only [Act.put, List.setIfInBounds_toArray, List.set_cons_zero, List.set_cons_succ]; refine hK _ _ ?_; clear hK K; (try replace hb := hb.ext hE); (try replace hm := hm.ext hE); (try replace h1 := h1.ext hE); (try replace h2 := h2.ext hE); (try replace hM := hM.ext hE); (try replace HE := Lib.hid (HE.out.trans hE)); (try replace HF := Lib.hid (HF.out.trans hE)); (try replace r0 := r0.ext hE); (try replace r1 := r1.ext hE); (try replace r2 := r2.ext hE); (try replace r3 := r3.ext hE); (try replace r4 := r4.ext hE); (try replace r5 := r5.ext hE); (try replace r6 := r6.ext hE); clear hE
        refine seq_call (cn1 _ (hT.ext HE.out)) rfl Tryd.func14 (by kernel_rfl) (by kernel_rfl) (by rfl) (by rfl) ?_; intro K hK; rintro e w' ⟨rfl, hE⟩; refine ⟨_, rfl, hE, ?_⟩; simp only [Act.put, List.setIfInBounds_toArray, List.set_cons_zero, List.set_cons_succ]; refine hK _ _ ?_; clear hK K; (try replace hb := hb.ext hE); (try replace hm := hm.ext hE); (try replace h1 := h1.ext hE); (try replace h2 := h2.ext hE); (try replace hM := hM.ext hE); (try replace HE := Lib.hid (HE.out.trans hE)); (try replace HF := Lib.hid (HF.out.trans hE)); (try replace r0 := r0.ext hE); (try replace r1 := r1.ext hE); (try replace r2 := r2.ext hE); (try replace r3 := r3.ext hE); (try replace r4 := r4.ext hE); (try replace r5 := r5.ext hE); (try replace r6 := r6.ext hE); clear hE
        (repeat (first | (refine seq_skip (by rfl) ?_; intro K hK; simp only [Act.put, List.setIfInBounds_toArray, List.set_cons_zero, List.set_cons_succ]; refine hK _ ?_; clear hK K) | (refine seq_skipc (by rfl) ?_; intro K hK; simp only [Act.put, List.setIfInBounds_toArray, List.set_cons_zero, List.set_cons_succ]; refine hK _ ?_; clear hK K) | (refine seq_read (by rfl) (by rfl) ?_; intro K hK; go_big_quiet_op; first | go_big_quiet_on | (refine ⟨_, fun _ _ => rfl, ?_⟩; go_big_quiet_on))))
        refine seq_done ?_
        clear cn1 cof
        go_wp2_with fail
        (try replace hb := Blk.drew hb); (try replace hm := Blk.drew hm); (try replace h1 := Blk.drew h1); (try replace h2 := Blk.drew h2); replace HE := Lib.hid HE.out.drew; (try replace HF := Lib.hid HF.out.drew)
        refine wp_region_seq [(0, false), (1, false), (3, false), (2, true), (4, true), (5, false), (6, false), (8, false), (7, true), (9, true), (10, false), (11, false), (12, false), (13, false), (15, false), (14, true), (16, true), (17, false), (18, false), (19, false), (20, false), (21, false), (22, false), (23, false), (24, false), (25, false), (26, false), (27, false), (28, false), (29, false), (31, false), (33, false), (34, false), (30, true), (32, true), (35, true), (36, false), (37, false)] Ext (by kernel_rfl) (by kernel_rfl) Ext.refl (fun _ _ _ => Ext.trans) ?_; simp only [List.map, nth_z, nth_s]
        (try simp only [Act.put, List.setIfInBounds_toArray, List.set_cons_zero, List.set_cons_succ])
        (repeat (first | (refine seq_skip (by rfl) ?_; intro K hK; simp only [Act.put, List.setIfInBounds_toArray, List.set_cons_zero, List.set_cons_succ]; refine hK _ ?_; clear hK K) | (refine seq_skipc (by rfl) ?_; intro K hK; simp only [Act.put, List.setIfInBounds_toArray, List.set_cons_zero, List.set_cons_succ]; refine hK _ ?_; clear hK K) | (refine seq_read (by rfl) (by rfl) ?_; intro K hK; go_big_quiet_op; first | go_big_quiet_on | (refine ⟨_, fun _ _ => rfl, ?_⟩; go_big_quiet_on))))
        refine seq_load rfl rfl (fun x hx => Blk.ext (h2) hx) rfl Tryd.underlying28 (by kernel_rfl) (by rfl) ?_; intro K hK; simp only [Act.put, List.setIfInBounds_toArray, List.set_cons_zero, List.set_cons_succ]; refine hK _ ?_; clear hK K
        refine seq_call (cas _) rfl Tryd.func11 (by kernel_rfl) (by kernel_rfl) (by rfl) (by rfl) ?_; intro K hK; rintro e w' ⟨rfl, hE⟩; refine ⟨_, rfl, hE, ?_⟩; simp only [Act.put, List.setIfInBounds_toArray, List.set_cons_zero, List.set_cons_succ]; refine hK _ _ ?_; clear hK K; (try replace hb := hb.ext hE); (try replace hm := hm.ext hE); (try replace h1 := h1.ext hE); (try replace h2 := h2.ext hE); (try replace hM := hM.ext hE); (try replace HE := Lib.hid (HE.out.trans hE)); (try replace HF := Lib.hid (HF.out.trans hE)); (try replace r0 := r0.ext hE); (try replace r1 := r1.ext hE); (try replace r2 := r2.ext hE); (try replace r3 := r3.ext hE); (try replace r4 := r4.ext hE); (try replace r5 := r5.ext hE); (try replace r6 := r6.ext hE); clear hE
        refine seq_call (cn2 _ (hT.ext HE.out)) rfl Tryd.func14 (by kernel_rfl) (by kernel_rfl) (by rfl) (by rfl) ?_; intro K hK; rintro e w' ⟨rfl, hE⟩; refine ⟨_, rfl, hE, ?_⟩; simp only [Act.put, List.setIfInBounds_toArray, List.set_cons_zero, List.set_cons_succ]; refine hK _ _ ?_; clear hK K; (try replace hb := hb.ext hE); (try replace hm := hm.ext hE); (try replace h1 := h1.ext hE); (try replace h2 := h2.ext hE); (try replace hM := hM.ext hE); (try replace HE := Lib.hid (HE.out.trans hE)); (try replace HF := Lib.hid (HF.out.trans hE)); (try replace r0 := r0.ext hE); (try replace r1 := r1.ext hE); (try replace r2 := r2.ext hE); (try replace r3 := r3.ext hE); (try replace r4 := r4.ext hE); (try replace r5 := r5.ext hE); (try replace r6 := r6.ext hE); clear hE
        (repeat (first | (refine seq_skip (by rfl) ?_; intro K hK; simp only [Act.put, List.setIfInBounds_toArray, List.set_cons_zero, List.set_cons_succ]; refine hK _ ?_; clear hK K) | (refine seq_skipc (by rfl) ?_; intro K hK; simp only [Act.put, List.setIfInBounds_toArray, List.set_cons_zero, List.set_cons_succ]; refine hK _ ?_; clear hK K) | (refine seq_read (by rfl) (by rfl) ?_; intro K hK; go_big_quiet_op; first | go_big_quiet_on | (refine ⟨_, fun _ _ => rfl, ?_⟩; go_big_quiet_on))))
        refine seq_load rfl rfl (fun x hx => Blk.ext (h2) hx) rfl Tryd.underlying28 (by kernel_rfl) (by rfl) ?_; intro K hK; simp only [Act.put, List.setIfInBounds_toArray, List.set_cons_zero, List.set_cons_succ]; refine hK _ ?_; clear hK K
        refine seq_call (cas _) rfl Tryd.func11 (by kernel_rfl) (by kernel_rfl) (by rfl) (by rfl) ?_; intro K hK; rintro e w' ⟨rfl, hE⟩; refine ⟨_, rfl, hE, ?_⟩; simp only [Act.put, List.setIfInBounds_toArray, List.set_cons_zero, List.set_cons_succ]; refine hK _ _ ?_; clear hK K; (try replace hb := hb.ext hE); (try replace hm := hm.ext hE); (try replace h1 := h1.ext hE); (try replace h2 := h2.ext hE); (try replace hM := hM.ext hE); (try replace HE := Lib.hid (HE.out.trans hE)); (try replace HF := Lib.hid (HF.out.trans hE)); (try replace r0 := r0.ext hE); (try replace r1 := r1.ext hE); (try replace r2 := r2.ext hE); (try replace r3 := r3.ext hE); (try replace r4 := r4.ext hE); (try replace r5 := r5.ext hE); (try replace r6 := r6.ext hE); clear hE
        refine seq_call (cn2 _ (hT.ext HE.out)) rfl Tryd.func14 (by kernel_rfl) (by kernel_rfl) (by rfl) (by rfl) ?_; intro K hK; rintro e w' ⟨rfl, hE⟩; refine ⟨_, rfl, hE, ?_⟩; simp only [Act.put, List.setIfInBounds_toArray, List.set_cons_zero, List.set_cons_succ]; refine hK _ _ ?_; clear hK K; (try replace hb := hb.ext hE); (try replace hm := hm.ext hE); (try replace h1 := h1.ext hE); (try replace h2 := h2.ext hE); (try replace hM := hM.ext hE); (try replace HE := Lib.hid (HE.out.trans hE)); (try replace HF := Lib.hid (HF.out.trans hE)); (try replace r0 := r0.ext hE); (try replace r1 := r1.ext hE); (try replace r2 := r2.ext hE); (try replace r3 := r3.ext hE); (try replace r4 := r4.ext hE); (try replace r5 := r5.ext hE); (try replace r6 := r6.ext hE); clear hE
        (repeat (first | (refine seq_skip (by rfl) ?_; intro K hK; simp only [Act.put, List.setIfInBounds_toArray, List.set_cons_zero, List.set_cons_succ]; refine hK _ ?_; clear hK K) | (refine seq_skipc (by rfl) ?_; intro K hK; simp only [Act.put, List.setIfInBounds_toArray, List.set_cons_zero, List.set_cons_succ]; refine hK _ ?_; clear hK K) | (refine seq_read (by rfl) (by rfl) ?_; intro K hK; go_big_quiet_op; first | go_big_quiet_on | (refine ⟨_, fun _ _ => rfl, ?_⟩; go_big_quiet_on))))
        refine seq_load rfl rfl (fun x hx => Blk.ext (h2) hx) rfl Tryd.underlying28 (by kernel_rfl) (by rfl) ?_; intro K hK; simp only [Act.put, List.setIfInBounds_toArray, List.set_cons_zero, List.set_cons_succ]; refine hK _ ?_; clear hK K
        refine seq_load rfl rfl (fun x hx => Blk.ext (h2) hx) rfl Tryd.underlying28 (by kernel_rfl) (by rfl) ?_; intro K hK; simp only [Act.put, List.setIfInBounds_toArray, List.set_cons_zero, List.set_cons_succ]; refine hK _ ?_; clear hK K
        (repeat (first | (refine seq_skip (by rfl) ?_; intro K hK; simp only [Act.put, List.setIfInBounds_toArray, List.set_cons_zero, List.set_cons_succ]; refine hK _ ?_; clear hK K) | (refine seq_skipc (by rfl) ?_; intro K hK; simp only [Act.put, List.setIfInBounds_toArray, List.set_cons_zero, List.set_cons_succ]; refine hK _ ?_; clear hK K) | (refine seq_read (by rfl) (by rfl) ?_; intro K hK; go_big_quiet_op; first | go_big_quiet_on | (refine ⟨_, fun _ _ => rfl, ?_⟩; go_big_quiet_on))))
        refine seq_call (cad _) rfl Tryd.func12 (by kernel_rfl) (by kernel_rfl) (by rfl) (by rfl) ?_; intro K hK; rintro e w' ⟨rfl, hE⟩; refine ⟨_, rfl, hE, ?_⟩; simp only [Act.put, List.setIfInBounds_toArray, List.set_cons_zero, List.set_cons_succ]; refine hK _ _ ?_; clear hK K; (try replace hb := hb.ext hE); (try replace hm := hm.ext hE); (try replace h1 := h1.ext hE); (try replace h2 := h2.ext hE); (try replace hM := hM.ext hE); (try replace HE := Lib.hid (HE.out.trans hE)); (try replace HF := Lib.hid (HF.out.trans hE)); (try replace r0 := r0.ext hE); (try replace r1 := r1.ext hE); (try replace r2 := r2.ext hE); (try replace r3 := r3.ext hE); (try replace r4 := r4.ext hE); (try replace r5 := r5.ext hE); (try replace r6 := r6.ext hE); clear hE
        refine seq_call (cn3 _ (hT.ext HE.out)) rfl Tryd.func14 (by kernel_rfl) (by kernel_rfl) (by rfl) (by rfl) ?_; intro K hK; rintro e w' ⟨rfl, hE⟩; refine ⟨_, rfl, hE, ?_⟩; simp only [Act.put, List.setIfInBounds_toArray, List.set_cons_zero, List.set_cons_succ]; refine hK _ _ ?_; clear hK K; (try replace hb := hb.ext hE); (try replace hm := hm.ext hE); (try replace h1 := h1.ext hE); (try replace h2 := h2.ext hE); (try replace hM := hM.ext hE); (try replace HE := Lib.hid (HE.out.trans hE)); (try replace HF := Lib.hid (HF.out.trans hE)); (try replace r0 := r0.ext hE); (try replace r1 := r1.ext hE); (try replace r2 := r2.ext hE); (try replace r3 := r3.ext hE); (try replace r4 := r4.ext hE); (try replace r5 := r5.ext hE); (try replace r6 := r6.ext hE); clear hE
        refine seq_call (cc _) rfl Tryd.func24 (by kernel_rfl) (by kernel_rfl) (by rfl) (by rfl) ?_; intro K hK; rintro e w' ⟨rfl, hE⟩; refine ⟨_, rfl, hE, ?_⟩; simp only [Act.put, List.setIfInBounds_toArray, List.set_cons_zero, List.set_cons_succ]; refine hK _ _ ?_; clear hK K; (try replace hb := hb.ext hE); (try replace hm := hm.ext hE); (try replace h1 := h1.ext hE); (try replace h2 := h2.ext hE); (try replace hM := hM.ext hE); (try replace HE := Lib.hid (HE.out.trans hE)); (try replace HF := Lib.hid (HF.out.trans hE)); (try replace r0 := r0.ext hE); (try replace r1 := r1.ext hE); (try replace r2 := r2.ext hE); (try replace r3 := r3.ext hE); (try replace r4 := r4.ext hE); (try replace r5 := r5.ext hE); (try replace r6 := r6.ext hE); clear hE
        (repeat (first | (refine seq_skip (by rfl) ?_; intro K hK; simp only [Act.put, List.setIfInBounds_toArray, List.set_cons_zero, List.set_cons_succ]; refine hK _ ?_; clear hK K) | (refine seq_skipc (by rfl) ?_; intro K hK; simp only [Act.put, List.setIfInBounds_toArray, List.set_cons_zero, List.set_cons_succ]; refine hK _ ?_; clear hK K) | (refine seq_read (by rfl) (by rfl) ?_; intro K hK; go_big_quiet_op; first | go_big_quiet_on | (refine ⟨_, fun _ _ => rfl, ?_⟩; go_big_quiet_on))))
        refine seq_done ?_
        go_wp2
        go_roundw
        case rel => exact ⟨k + 1, by omega, by go_num, HF.out⟩
        case measure => simp [intOf]; omega
      · rw [hX] at cn1 cn2
        rw [Bool.true_and] at cn1
        obtain ⟨hg, hn⟩ := hna hX
        clear hna hX
        have hnn : ((e.n : Int) != (n : Int)) = false := by rw [hn]; simp
        go_wp2_with (first | (refine wpList_load_rng (w := wr) (by rfl) 28 _ rfl rfl e2 Tryd.underlying28 rfl (en_info _) ?_) | (refine wpList_store_new rfl 28 _ _ rfl (enC _) _ _ rfl rfl (en_info _) (by simp [enC_size]) (enC_one _) ?_))
        clear e2
        (try replace hb := Blk.drew hb); (try replace hm := Blk.drew hm); (try replace h1 := Blk.drew h1); (try replace h2 := Blk.drew h2); replace HE := Lib.hid HE.out.drew; (try replace HF := Lib.hid HF.out.drew)
        refine wp_region_seq [(0, false), (1, false), (3, false), (2, true), (4, true), (5, false)] Ext (by kernel_rfl) (by kernel_rfl) Ext.refl (fun _ _ _ => Ext.trans) ?_; simp only [List.map, nth_z, nth_s]
        (try simp only [Act.put, List.setIfInBounds_toArray, List.set_cons_zero, List.set_cons_succ])
        (repeat (first | (refine seq_skip (by rfl) ?_; intro K hK; simp only [Act.put, List.setIfInBounds_toArray, List.set_cons_zero, List.set_cons_succ]; refine hK _ ?_; clear hK K) | (refine seq_skipc (by rfl) ?_; intro K hK; simp only [Act.put, List.setIfInBounds_toArray, List.set_cons_zero, List.set_cons_succ]; refine hK _ ?_; clear hK K) | (refine seq_read (by rfl) (by rfl) ?_; intro K hK; go_big_quiet_op; first | go_big_quiet_on | (refine ⟨_, fun _ _ => rfl, ?_⟩; go_big_quiet_on))))
        refine seq_load rfl rfl (fun x hx => Blk.ext (h2) hx) rfl Tryd.underlying28 (by kernel_rfl) (by rfl) ?_; intro K hK; simp only [Act.put, List.setIfInBounds_toArray, List.set_cons_zero, List.set_cons_succ]; refine hK _ ?_; clear hK K
        refine seq_call (cof _) rfl Tryd.func10 (by kernel_rfl) (by kernel_rfl) (by rfl) (by rfl) ?_; intro K hK; rintro e w' ⟨rfl, hE⟩; refine ⟨_, rfl, hE, ?_⟩; simp only [Act.put, List.setIfInBounds_toArray, List.set_cons_zero, List.set_cons_succ]; refine hK _ _ ?_; clear hK K; (try replace hb := hb.ext hE); (try replace hm := hm.ext hE); (try replace h1 := h1.ext hE); (try replace h2 := h2.ext hE); (try replace hM := hM.ext hE); (try replace HE := Lib.hid (HE.out.trans hE)); (try replace HF := Lib.hid (HF.out.trans hE)); (try replace r0 := r0.ext hE); (try replace r1 := r1.ext hE); (try replace r2 := r2.ext hE); (try replace r3 := r3.ext hE); (try replace r4 := r4.ext hE); (try replace r5 := r5.ext hE); (try replace r6 := r6.ext hE); clear hE
        refine seq_call (cn1 _ (hT.ext HE.out)) rfl Tryd.func14 (by kernel_rfl) (by kernel_rfl) (by rfl) (by rfl) ?_; intro K hK; rintro e w' ⟨rfl, hE⟩; refine ⟨_, rfl, hE, ?_⟩; simp only [Act.put, List.setIfInBounds_toArray, List.set_cons_zero, List.set_cons_succ]; refine hK _ _ ?_; clear hK K; (try replace hb := hb.ext hE); (try replace hm := hm.ext hE); (try replace h1 := h1.ext hE); (try replace h2 := h2.ext hE); (try replace hM := hM.ext hE); (try replace HE := Lib.hid (HE.out.trans hE)); (try replace HF := Lib.hid (HF.out.trans hE)); (try replace r0 := r0.ext hE); (try replace r1 := r1.ext hE); (try replace r2 := r2.ext hE); (try replace r3 := r3.ext hE); (try replace r4 := r4.ext hE); (try replace r5 := r5.ext hE); (try replace r6 := r6.ext hE); clear hE
        (repeat (first | (refine seq_skip (by rfl) ?_; intro K hK; simp only [Act.put, List.setIfInBounds_toArray, List.set_cons_zero, List.set_cons_succ]; refine hK _ ?_; clear hK K) | (refine seq_skipc (by rfl) ?_; intro K hK; simp only [Act.put, List.setIfInBounds_toArray, List.set_cons_zero, List.set_cons_succ]; refine hK _ ?_; clear hK K) | (refine seq_read (by rfl) (by rfl) ?_; intro K hK; go_big_quiet_op; first | go_big_quiet_on | (refine ⟨_, fun _ _ => rfl, ?_⟩; go_big_quiet_on))))
        refine seq_done ?_
        clear cn1 cof
        go_wp2_with fail
        (try replace hb := Blk.drew hb); (try replace hm := Blk.drew hm); (try replace h1 := Blk.drew h1); (try replace h2 := Blk.drew h2); replace HE := Lib.hid HE.out.drew; (try replace HF := Lib.hid HF.out.drew)
        refine wp_region_seq [(0, false), (1, false), (3, false), (2, true), (4, true), (5, false), (6, false), (8, false), (7, true), (9, true), (10, false), (11, false), (12, false), (13, false), (15, false), (14, true), (16, true), (17, false), (18, false), (19, false), (20, false), (21, false), (22, false), (23, false), (24, false), (25, false), (26, false), (27, false), (28, false), (29, false), (31, false), (33, false), (34, false), (30, true), (32, true), (35, true), (36, false), (37, false)] Ext (by kernel_rfl) (by kernel_rfl) Ext.refl (fun _ _ _ => Ext.trans) ?_; simp only [List.map, nth_z, nth_s]
        (try simp only [Act.put, List.setIfInBounds_toArray, List.set_cons_zero, List.set_cons_succ])
        (repeat (first | (refine seq_skip (by rfl) ?_; intro K hK; simp only [Act.put, List.setIfInBounds_toArray, List.set_cons_zero, List.set_cons_succ]; refine hK _ ?_; clear hK K) | (refine seq_skipc (by rfl) ?_; intro K hK; simp only [Act.put, List.setIfInBounds_toArray, List.set_cons_zero, List.set_cons_succ]; refine hK _ ?_; clear hK K) | (refine seq_read (by rfl) (by rfl) ?_; intro K hK; go_big_quiet_op; first | go_big_quiet_on | (refine ⟨_, fun _ _ => rfl, ?_⟩; go_big_quiet_on))))
        refine seq_load rfl rfl (fun x hx => Blk.ext (h2) hx) rfl Tryd.underlying28 (by kernel_rfl) (by rfl) ?_; intro K hK; simp only [Act.put, List.setIfInBounds_toArray, List.set_cons_zero, List.set_cons_succ]; refine hK _ ?_; clear hK K
        refine seq_call (cas _) rfl Tryd.func11 (by kernel_rfl) (by kernel_rfl) (by rfl) (by rfl) ?_; intro K hK; rintro e w' ⟨rfl, hE⟩; refine ⟨_, rfl, hE, ?_⟩; simp only [Act.put, List.setIfInBounds_toArray, List.set_cons_zero, List.set_cons_succ]; refine hK _ _ ?_; clear hK K; (try replace hb := hb.ext hE); (try replace hm := hm.ext hE); (try replace h1 := h1.ext hE); (try replace h2 := h2.ext hE); (try replace hM := hM.ext hE); (try replace HE := Lib.hid (HE.out.trans hE)); (try replace HF := Lib.hid (HF.out.trans hE)); (try replace r0 := r0.ext hE); (try replace r1 := r1.ext hE); (try replace r2 := r2.ext hE); (try replace r3 := r3.ext hE); (try replace r4 := r4.ext hE); (try replace r5 := r5.ext hE); (try replace r6 := r6.ext hE); clear hE
        refine seq_call (cn2 _ (hT.ext HE.out)) rfl Tryd.func14 (by kernel_rfl) (by kernel_rfl) (by rfl) (by rfl) ?_; intro K hK; rintro e w' ⟨rfl, hE⟩; refine ⟨_, rfl, hE, ?_⟩; simp only [Act.put, List.setIfInBounds_toArray, List.set_cons_zero, List.set_cons_succ]; refine hK _ _ ?_; clear hK K; (try replace hb := hb.ext hE); (try replace hm := hm.ext hE); (try replace h1 := h1.ext hE); (try replace h2 := h2.ext hE); (try replace hM := hM.ext hE); (try replace HE := Lib.hid (HE.out.trans hE)); (try replace HF := Lib.hid (HF.out.trans hE)); (try replace r0 := r0.ext hE); (try replace r1 := r1.ext hE); (try replace r2 := r2.ext hE); (try replace r3 := r3.ext hE); (try replace r4 := r4.ext hE); (try replace r5 := r5.ext hE); (try replace r6 := r6.ext hE); clear hE
        (repeat (first | (refine seq_skip (by rfl) ?_; intro K hK; simp only [Act.put, List.setIfInBounds_toArray, List.set_cons_zero, List.set_cons_succ]; refine hK _ ?_; clear hK K) | (refine seq_skipc (by rfl) ?_; intro K hK; simp only [Act.put, List.setIfInBounds_toArray, List.set_cons_zero, List.set_cons_succ]; refine hK _ ?_; clear hK K) | (refine seq_read (by rfl) (by rfl) ?_; intro K hK; go_big_quiet_op; first | go_big_quiet_on | (refine ⟨_, fun _ _ => rfl, ?_⟩; go_big_quiet_on))))
        refine seq_load rfl rfl (fun x hx => Blk.ext (h2) hx) rfl Tryd.underlying28 (by kernel_rfl) (by rfl) ?_; intro K hK; simp only [Act.put, List.setIfInBounds_toArray, List.set_cons_zero, List.set_cons_succ]; refine hK _ ?_; clear hK K
        refine seq_call (cad _) rfl Tryd.func12 (by kernel_rfl) (by kernel_rfl) (by rfl) (by rfl) ?_; intro K hK; rintro e w' ⟨rfl, hE⟩; refine ⟨_, rfl, hE, ?_⟩; simp only [Act.put, List.setIfInBounds_toArray, List.set_cons_zero, List.set_cons_succ]; refine hK _ _ ?_; clear hK K; (try replace hb := hb.ext hE); (try replace hm := hm.ext hE); (try replace h1 := h1.ext hE); (try replace h2 := h2.ext hE); (try replace hM := hM.ext hE); (try replace HE := Lib.hid (HE.out.trans hE)); (try replace HF := Lib.hid (HF.out.trans hE)); (try replace r0 := r0.ext hE); (try replace r1 := r1.ext hE); (try replace r2 := r2.ext hE); (try replace r3 := r3.ext hE); (try replace r4 := r4.ext hE); (try replace r5 := r5.ext hE); (try replace r6 := r6.ext hE); clear hE
        refine seq_call (cn3 _ (hT.ext HE.out)) rfl Tryd.func14 (by kernel_rfl) (by kernel_rfl) (by rfl) (by rfl) ?_; intro K hK; rintro e w' ⟨rfl, hE⟩; refine ⟨_, rfl, hE, ?_⟩; simp only [Act.put, List.setIfInBounds_toArray, List.set_cons_zero, List.set_cons_succ]; refine hK _ _ ?_; clear hK K; (try replace hb := hb.ext hE); (try replace hm := hm.ext hE); (try replace h1 := h1.ext hE); (try replace h2 := h2.ext hE); (try replace hM := hM.ext hE); (try replace HE := Lib.hid (HE.out.trans hE)); (try replace HF := Lib.hid (HF.out.trans hE)); (try replace r0 := r0.ext hE); (try replace r1 := r1.ext hE); (try replace r2 := r2.ext hE); (try replace r3 := r3.ext hE); (try replace r4 := r4.ext hE); (try replace r5 := r5.ext hE); (try replace r6 := r6.ext hE); clear hE
        (repeat (first | (refine seq_skip (by rfl) ?_; intro K hK; simp only [Act.put, List.setIfInBounds_toArray, List.set_cons_zero, List.set_cons_succ]; refine hK _ ?_; clear hK K) | (refine seq_skipc (by rfl) ?_; intro K hK; simp only [Act.put, List.setIfInBounds_toArray, List.set_cons_zero, List.set_cons_succ]; refine hK _ ?_; clear hK K) | (refine seq_read (by rfl) (by rfl) ?_; intro K hK; go_big_quiet_op; first | go_big_quiet_on | (refine ⟨_, fun _ _ => rfl, ?_⟩; go_big_quiet_on))))
        refine seq_load rfl rfl (fun x hx => Blk.ext (h2) hx) rfl Tryd.underlying28 (by kernel_rfl) (by rfl) ?_; intro K hK; simp only [Act.put, List.setIfInBounds_toArray, List.set_cons_zero, List.set_cons_succ]; refine hK _ ?_; clear hK K
        refine seq_call (cas _) rfl Tryd.func11 (by kernel_rfl) (by kernel_rfl) (by rfl) (by rfl) ?_; intro K hK; rintro e w' ⟨rfl, hE⟩; refine ⟨_, rfl, hE, ?_⟩; simp only [Act.put, List.setIfInBounds_toArray, List.set_cons_zero, List.set_cons_succ]; refine hK _ _ ?_; clear hK K; (try replace hb := hb.ext hE); (try replace hm := hm.ext hE); (try replace h1 := h1.ext hE); (try replace h2 := h2.ext hE); (try replace hM := hM.ext hE); (try replace HE := Lib.hid (HE.out.trans hE)); (try replace HF := Lib.hid (HF.out.trans hE)); (try replace r0 := r0.ext hE); (try replace r1 := r1.ext hE); (try replace r2 := r2.ext hE); (try replace r3 := r3.ext hE); (try replace r4 := r4.ext hE); (try replace r5 := r5.ext hE); (try replace r6 := r6.ext hE); clear hE
        refine seq_call (cn2 _ (hT.ext HE.out)) rfl Tryd.func14 (by kernel_rfl) (by kernel_rfl) (by rfl) (by rfl) ?_; intro K hK; rintro e w' ⟨rfl, hE⟩; refine ⟨_, rfl, hE, ?_⟩; simp only [Act.put, List.setIfInBounds_toArray, List.set_cons_zero, List.set_cons_succ]; refine hK _ _ ?_; clear hK K; (try replace hb := hb.ext hE); (try replace hm := hm.ext hE); (try replace h1 := h1.ext hE); (try replace h2 := h2.ext hE); (try replace hM := hM.ext hE); (try replace HE := Lib.hid (HE.out.trans hE)); (try replace HF := Lib.hid (HF.out.trans hE)); (try replace r0 := r0.ext hE); (try replace r1 := r1.ext hE); (try replace r2 := r2.ext hE); (try replace r3 := r3.ext hE); (try replace r4 := r4.ext hE); (try replace r5 := r5.ext hE); (try replace r6 := r6.ext hE); clear hE
        (repeat (first | (refine seq_skip (by rfl) ?_; intro K hK; simp only [Act.put, List.setIfInBounds_toArray, List.set_cons_zero, List.set_cons_succ]; refine hK _ ?_; clear hK K) | (refine seq_skipc (by rfl) ?_; intro K hK; simp only [Act.put, List.setIfInBounds_toArray, List.set_cons_zero, List.set_cons_succ]; refine hK _ ?_; clear hK K) | (refine seq_read (by rfl) (by rfl) ?_; intro K hK; go_big_quiet_op; first | go_big_quiet_on | (refine ⟨_, fun _ _ => rfl, ?_⟩; go_big_quiet_on))))
        refine seq_value ((.bool false)) (by rfl) (fun x hx => by have hq := ext_cell hx ((h2.en_g).trans (by rw [hg])); simp [go_sem, execOp, Act.eval, hq]) ?_; intro K hK; simp only [Act.put, List.setIfInBounds_toArray, List.set_cons_zero, List.set_cons_succ]; refine hK _ ?_; clear hK K
        (repeat (first | (refine seq_skip (by rfl) ?_; intro K hK; simp only [Act.put, List.setIfInBounds_toArray, List.set_cons_zero, List.set_cons_succ]; refine hK _ ?_; clear hK K) | (refine seq_skipc (by rfl) ?_; intro K hK; simp only [Act.put, List.setIfInBounds_toArray, List.set_cons_zero, List.set_cons_succ]; refine hK _ ?_; clear hK K) | (refine seq_read (by rfl) (by rfl) ?_; intro K hK; go_big_quiet_op; first | go_big_quiet_on | (refine ⟨_, fun _ _ => rfl, ?_⟩; go_big_quiet_on))))
        refine seq_value ((.int .u64 (e.n : Int))) (by rfl) (fun x hx => by have hq := ext_cell hx (h2.en_n); simp [go_sem, execOp, Act.eval, hq]) ?_; intro K hK; simp only [Act.put, List.setIfInBounds_toArray, List.set_cons_zero, List.set_cons_succ]; refine hK _ ?_; clear hK K
        (repeat (first | (refine seq_skip (by rfl) ?_; intro K hK; simp only [Act.put, List.setIfInBounds_toArray, List.set_cons_zero, List.set_cons_succ]; refine hK _ ?_; clear hK K) | (refine seq_skipc (by rfl) ?_; intro K hK; simp only [Act.put, List.setIfInBounds_toArray, List.set_cons_zero, List.set_cons_succ]; refine hK _ ?_; clear hK K) | (refine seq_read (by rfl) (by rfl) ?_; intro K hK; go_big_quiet_op; first | go_big_quiet_on | (refine ⟨_, fun _ _ => rfl, ?_⟩; go_big_quiet_on))))
        refine seq_load rfl rfl (fun x hx => Blk.ext (h2) hx) rfl Tryd.underlying28 (by kernel_rfl) (by rfl) ?_; intro K hK; simp only [Act.put, List.setIfInBounds_toArray, List.set_cons_zero, List.set_cons_succ]; refine hK _ ?_; clear hK K
        refine seq_load rfl rfl (fun x hx => Blk.ext (h2) hx) rfl Tryd.underlying28 (by kernel_rfl) (by rfl) ?_; intro K hK; simp only [Act.put, List.setIfInBounds_toArray, List.set_cons_zero, List.set_cons_succ]; refine hK _ ?_; clear hK K
        (repeat (first | (refine seq_skip (by rfl) ?_; intro K hK; simp only [Act.put, List.setIfInBounds_toArray, List.set_cons_zero, List.set_cons_succ]; refine hK _ ?_; clear hK K) | (refine seq_skipc (by rfl) ?_; intro K hK; simp only [Act.put, List.setIfInBounds_toArray, List.set_cons_zero, List.set_cons_succ]; refine hK _ ?_; clear hK K) | (refine seq_read (by rfl) (by rfl) ?_; intro K hK; go_big_quiet_op; first | go_big_quiet_on | (refine ⟨_, fun _ _ => rfl, ?_⟩; go_big_quiet_on))))
        refine seq_call (cad _) rfl Tryd.func12 (by kernel_rfl) (by kernel_rfl) (by rfl) (by rfl) ?_; intro K hK; rintro e w' ⟨rfl, hE⟩; refine ⟨_, rfl, hE, ?_⟩; simp only [Act.put, List.setIfInBounds_toArray, List.set_cons_zero, List.set_cons_succ]; refine hK _ _ ?_; clear hK K; (try replace hb := hb.ext hE); (try replace hm := hm.ext hE); (try replace h1 := h1.ext hE); (try replace h2 := h2.ext hE); (try replace hM := hM.ext hE); (try replace HE := Lib.hid (HE.out.trans hE)); (try replace HF := Lib.hid (HF.out.trans hE)); (try replace r0 := r0.ext hE); (try replace r1 := r1.ext hE); (try replace r2 := r2.ext hE); (try replace r3 := r3.ext hE); (try replace r4 := r4.ext hE); (try replace r5 := r5.ext hE); (try replace r6 := r6.ext hE); clear hE
        refine seq_call (cn3 _ (hT.ext HE.out)) rfl Tryd.func14 (by kernel_rfl) (by kernel_rfl) (by rfl) (by rfl) ?_; intro K hK; rintro e w' ⟨rfl, hE⟩; refine ⟨_, rfl, hE, ?_⟩; simp only [Act.put, List.setIfInBounds_toArray, List.set_cons_zero, List.set_cons_succ]; refine hK _ _ ?_; clear hK K; (try replace hb := hb.ext hE); (try replace hm := hm.ext hE); (try replace h1 := h1.ext hE); (try replace h2 := h2.ext hE); (try replace hM := hM.ext hE); (try replace HE := Lib.hid (HE.out.trans hE)); (try replace HF := Lib.hid (HF.out.trans hE)); (try replace r0 := r0.ext hE); (try replace r1 := r1.ext hE); (try replace r2 := r2.ext hE); (try replace r3 := r3.ext hE); (try replace r4 := r4.ext hE); (try replace r5 := r5.ext hE); (try replace r6 := r6.ext hE); clear hE
        refine seq_call (cc _) rfl Tryd.func24 (by kernel_rfl) (by kernel_rfl) (by rfl) (by rfl) ?_; intro K hK; rintro e w' ⟨rfl, hE⟩; refine ⟨_, rfl, hE, ?_⟩; simp only [Act.put, List.setIfInBounds_toArray, List.set_cons_zero, List.set_cons_succ]; refine hK _ _ ?_; clear hK K; (try replace hb := hb.ext hE); (try replace hm := hm.ext hE); (try replace h1 := h1.ext hE); (try replace h2 := h2.ext hE); (try replace hM := hM.ext hE); (try replace HE := Lib.hid (HE.out.trans hE)); (try replace HF := Lib.hid (HF.out.trans hE)); (try replace r0 := r0.ext hE); (try replace r1 := r1.ext hE); (try replace r2 := r2.ext hE); (try replace r3 := r3.ext hE); (try replace r4 := r4.ext hE); (try replace r5 := r5.ext hE); (try replace r6 := r6.ext hE); clear hE
        (repeat (first | (refine seq_skip (by rfl) ?_; intro K hK; simp only [Act.put, List.setIfInBounds_toArray, List.set_cons_zero, List.set_cons_succ]; refine hK _ ?_; clear hK K) | (refine seq_skipc (by rfl) ?_; intro K hK; simp only [Act.put, List.setIfInBounds_toArray, List.set_cons_zero, List.set_cons_succ]; refine hK _ ?_; clear hK K) | (refine seq_read (by rfl) (by rfl) ?_; intro K hK; go_big_quiet_op; first | go_big_quiet_on | (refine ⟨_, fun _ _ => rfl, ?_⟩; go_big_quiet_on))))
        refine seq_done ?_
        go_wp2
        go_roundw
        case rel => exact ⟨k + 1, by omega, by go_num, HF.out⟩
        case measure => simp [intOf]; omega
    · obtain rfl : k = M.length := by omega
      have HE := Lib.hid (HE0.out.trans HB.out)
      have h1 := b1.ext HB.out
      clear hrx hmy ccv cnm cas HE0 HB b1
      go_wp2_with fail
      go_cut [11, 12, 13, 14] from 87 to 98 (fun c1 c2 c3 c4 wx => c4 = .bool false ∧ Blk wx w.heap.size 37 #[.slice A L.length c] ∧ Ext w wx)
      case first =>
        go_wp2_with fail
        (try replace hb := Blk.drew hb); (try replace hm := Blk.drew hm); (try replace h1 := Blk.drew h1); (try replace h2 := Blk.drew h2); replace HE := Lib.hid HE.out.drew; (try replace HF := Lib.hid HF.out.drew)
        refine wp_region_plan (.fork [(0, false), (1, false), (4, false), (5, false)] 2 (.fork [] 3 (.fork [] 6 (.last [(7, false), (8, false), (9, false), (10, false), (11, false), (12, true), (13, true), (14, false), (15, false), (16, false)]) 12 (.last [(6, true), (7, false), (8, false), (9, false), (10, false), (11, false), (13, true), (14, false), (15, false), (16, false)])) 12 (.last [(3, true), (6, true), (7, false), (8, false), (9, false), (10, false), (11, false), (13, true), (14, false), (15, false), (16, false)])) 12 (.last [(2, true), (3, true), (6, true), (7, false), (8, false), (9, false), (10, false), (11, false), (13, true), (14, false), (15, false), (16, false)])) (Below wr.drew.heap.size) (by kernel_rfl) (by kernel_rfl) (Below.refl _) (fun _ _ _ => Below.trans) ?_
        simp only [Plan.wp, List.map, nth_z, nth_s]
        have hs0 : wr.drew.heap.size ≤ wr.drew.heap.size := Nat.le_refl _
        have l1 := h1.lt
        generalize hBB : wr.drew.heap.size = B at l1 hs0 ⊢
        rw [← hBB] at hs0
        generalize wr.drew = wd at *
        rw [hBB] at hs0
        replace hs0 : B ≤ wd.heap.size := by omega
        clear hBB
        refine seq_load rfl rfl (fun x hx => Blk.lower (h1) hx (by omega)) rfl Tryd.underlying37 (by kernel_rfl) (by rfl) ?_; intro K hK; simp only [Act.put, List.setIfInBounds_toArray, List.set_cons_zero, List.set_cons_succ]; refine hK _ ?_; clear hK K
        (repeat (first | (refine seq_skip (by rfl) ?_; intro K hK; simp only [Act.put, List.setIfInBounds_toArray, List.set_cons_zero, List.set_cons_succ]; refine hK _ ?_; clear hK K) | (refine seq_skipc (by rfl) ?_; intro K hK; simp only [Act.put, List.setIfInBounds_toArray, List.set_cons_zero, List.set_cons_succ]; refine hK _ ?_; clear hK K) | (refine seq_read (by rfl) (by rfl) ?_; intro K hK; go_big_quiet_op; first | go_big_quiet_on | (refine ⟨_, fun _ _ => rfl, ?_⟩; go_big_quiet_on))))
        refine seq_done ?_
        refine ⟨?_, ?_⟩
        · skip
          refine seq_call (cad _) rfl Tryd.func12 (by kernel_rfl) (by kernel_rfl) (by rfl) (by rfl) ?_; intro K hK; rintro e w' ⟨rfl, hE⟩; refine ⟨_, rfl, (Below.mono hE hs0), ?_⟩; simp only [Act.put, List.setIfInBounds_toArray, List.set_cons_zero, List.set_cons_succ]; refine hK _ _ ?_; clear hK K
          replace h1 := h1.ext hE
          replace HE := Lib.hid (HE.out.trans hE)
          replace hs0 := Nat.le_trans hs0 hE.size
          clear hE
          refine seq_done ?_
          (try simp only [Plan.wp, List.map, nth_z, nth_s])
          refine seq_done ?_
          refine ⟨?_, ?_⟩
          · skip
            refine seq_call (cd1 _ (hrow _ HE.out) (hT.ext HE.out)) rfl Tryd.func20 (by kernel_rfl) (by kernel_rfl) (by rfl) (by rfl) ?_; intro K hK; rintro e w' ⟨A4, c4, rfl, r4, -, hE⟩; refine ⟨_, rfl, (Below.mono hE hs0), ?_⟩; simp only [Act.put, List.setIfInBounds_toArray, List.set_cons_zero, List.set_cons_succ]; refine hK _ _ ?_; clear hK K
            replace h1 := h1.ext hE
            replace HE := Lib.hid (HE.out.trans hE)
            replace hs0 := Nat.le_trans hs0 hE.size
            clear hE
            refine seq_done ?_
            (try simp only [Plan.wp, List.map, nth_z, nth_s])
            refine seq_done ?_
            refine ⟨?_, ?_⟩
            · skip
              refine seq_call (cf1 _ _ _ r4) rfl Tryd.func25 (by kernel_rfl) (by kernel_rfl) (by rfl) (by rfl) ?_; intro K hK; rintro e w' ⟨rfl, hE⟩; refine ⟨_, rfl, (Below.mono hE hs0), ?_⟩; simp only [Act.put, List.setIfInBounds_toArray, List.set_cons_zero, List.set_cons_succ]; refine hK _ _ ?_; clear hK K
              replace h1 := h1.ext hE
              replace r4 := r4.ext hE
              replace HE := Lib.hid (HE.out.trans hE)
              replace hs0 := Nat.le_trans hs0 hE.size
              clear hE
              refine seq_done ?_
              (try simp only [Plan.wp, List.map, nth_z, nth_s])
              (repeat (first | (refine seq_skip (by rfl) ?_; intro K hK; simp only [Act.put, List.setIfInBounds_toArray, List.set_cons_zero, List.set_cons_succ]; refine hK _ ?_; clear hK K) | (refine seq_skipc (by rfl) ?_; intro K hK; simp only [Act.put, List.setIfInBounds_toArray, List.set_cons_zero, List.set_cons_succ]; refine hK _ ?_; clear hK K) | (refine seq_read (by rfl) (by rfl) ?_; intro K hK; go_big_quiet_op; first | go_big_quiet_on | (refine ⟨_, fun _ _ => rfl, ?_⟩; go_big_quiet_on))))
              have hn := Blk.new w' 28 #[.bool false, .int .u64 0, .bool false, .int .i64 0, .int .u64 0, .int .u64 0, .bool false, .bool false, .bool false, .bool false, .bool false]
              have hgB : B ≤ w'.heap.size := hs0
              refine seq_run (.pointer (some ⟨w'.heap.size, 0, none⟩)) (w'.alloc (.cells #[.bool false, .int .u64 0, .bool false, .int .i64 0, .int .u64 0, .int .u64 0, .bool false, .bool false, .bool false, .bool false, .bool false] 28)) (by rfl) ?_ ((Below.refl _ _).alloc hs0 _) ?_; (simp [go_sem, execOp, Act.eval]); intro K hK; simp only [Act.put, List.setIfInBounds_toArray, List.set_cons_zero, List.set_cons_succ]; refine hK _ _ ?_; clear hK K
              have hE := (Ext.refl w').alloc (.cells #[.bool false, .int .u64 0, .bool false, .int .i64 0, .int .u64 0, .int .u64 0, .bool false, .bool false, .bool false, .bool false, .bool false] 28)
              have hgw : w.heap.size ≤ w'.heap.size := HE.out.size
              replace h1 := h1.ext hE
              replace r4 := r4.ext hE
              replace HE := Lib.hid (HE.out.trans hE)
              replace hs0 := Nat.le_trans hs0 hE.size
              clear hE
              generalize w'.alloc (.cells #[.bool false, .int .u64 0, .bool false, .int .i64 0, .int .u64 0, .int .u64 0, .bool false, .bool false, .bool false, .bool false, .bool false] 28) = WA at *
              generalize w'.heap.size = gq at *
              refine seq_store_row rfl rfl rfl (hn) (en_info _) (by simp [enC_size]) (enC_one _) (by rfl) ((below_row (Below.refl _ _) hgB _)) ?_; intro K hK; simp only [Act.put, List.setIfInBounds_toArray, List.set_cons_zero, List.set_cons_succ]; refine hK _ _ ?_; clear hK K
              (repeat (first | (refine seq_skip (by rfl) ?_; intro K hK; simp only [Act.put, List.setIfInBounds_toArray, List.set_cons_zero, List.set_cons_succ]; refine hK _ ?_; clear hK K) | (refine seq_skipc (by rfl) ?_; intro K hK; simp only [Act.put, List.setIfInBounds_toArray, List.set_cons_zero, List.set_cons_succ]; refine hK _ ?_; clear hK K) | (refine seq_read (by rfl) (by rfl) ?_; intro K hK; go_big_quiet_op; first | go_big_quiet_on | (refine ⟨_, fun _ _ => rfl, ?_⟩; go_big_quiet_on))))
              refine seq_done ?_
              have hm := hn.row (enC X1)
              replace h1 := h1.apart (k := gq) (by omega) (enC X1)
              replace HE := Lib.hid (Ext.row HE.out hgw (enC X1))
              go_wp2_with fail
              go_meet
              case rel => exact ⟨rfl, h1, HE.out⟩
            · skip
              have hn := Blk.new w' 28 #[.bool false, .int .u64 0, .bool false, .int .i64 0, .int .u64 0, .int .u64 0, .bool false, .bool false, .bool false, .bool false, .bool false]
              have hgB : B ≤ w'.heap.size := hs0
              refine seq_run (.pointer (some ⟨w'.heap.size, 0, none⟩)) (w'.alloc (.cells #[.bool false, .int .u64 0, .bool false, .int .i64 0, .int .u64 0, .int .u64 0, .bool false, .bool false, .bool false, .bool false, .bool false] 28)) (by rfl) ?_ ((Below.refl _ _).alloc hs0 _) ?_; (simp [go_sem, execOp, Act.eval]); intro K hK; simp only [Act.put, List.setIfInBounds_toArray, List.set_cons_zero, List.set_cons_succ]; refine hK _ _ ?_; clear hK K
              have hE := (Ext.refl w').alloc (.cells #[.bool false, .int .u64 0, .bool false, .int .i64 0, .int .u64 0, .int .u64 0, .bool false, .bool false, .bool false, .bool false, .bool false] 28)
              have hgw : w.heap.size ≤ w'.heap.size := HE.out.size
              replace h1 := h1.ext hE
              replace r4 := r4.ext hE
              replace HE := Lib.hid (HE.out.trans hE)
              replace hs0 := Nat.le_trans hs0 hE.size
              clear hE
              generalize w'.alloc (.cells #[.bool false, .int .u64 0, .bool false, .int .i64 0, .int .u64 0, .int .u64 0, .bool false, .bool false, .bool false, .bool false, .bool false] 28) = WA at *
              generalize w'.heap.size = gq at *
              refine seq_done ?_
              (try simp only [Plan.wp, List.map, nth_z, nth_s])
              refine seq_call (cf1 _ _ _ r4) rfl Tryd.func25 (by kernel_rfl) (by kernel_rfl) (by rfl) (by rfl) ?_; intro K hK; rintro e w' ⟨rfl, hE⟩; refine ⟨_, rfl, (Below.mono hE hs0), ?_⟩; simp only [Act.put, List.setIfInBounds_toArray, List.set_cons_zero, List.set_cons_succ]; refine hK _ _ ?_; clear hK K
              replace h1 := h1.ext hE
              replace r4 := r4.ext hE
              replace hn := hn.ext hE
              replace HE := Lib.hid (HE.out.trans hE)
              replace hs0 := Nat.le_trans hs0 hE.size
              clear hE
              (repeat (first | (refine seq_skip (by rfl) ?_; intro K hK; simp only [Act.put, List.setIfInBounds_toArray, List.set_cons_zero, List.set_cons_succ]; refine hK _ ?_; clear hK K) | (refine seq_skipc (by rfl) ?_; intro K hK; simp only [Act.put, List.setIfInBounds_toArray, List.set_cons_zero, List.set_cons_succ]; refine hK _ ?_; clear hK K) | (refine seq_read (by rfl) (by rfl) ?_; intro K hK; go_big_quiet_op; first | go_big_quiet_on | (refine ⟨_, fun _ _ => rfl, ?_⟩; go_big_quiet_on))))
              refine seq_store_row rfl rfl rfl (hn) (en_info _) (by simp [enC_size]) (enC_one _) (by rfl) ((below_row (Below.refl _ _) hgB _)) ?_; intro K hK; simp only [Act.put, List.setIfInBounds_toArray, List.set_cons_zero, List.set_cons_succ]; refine hK _ _ ?_; clear hK K
              (repeat (first | (refine seq_skip (by rfl) ?_; intro K hK; simp only [Act.put, List.setIfInBounds_toArray, List.set_cons_zero, List.set_cons_succ]; refine hK _ ?_; clear hK K) | (refine seq_skipc (by rfl) ?_; intro K hK; simp only [Act.put, List.setIfInBounds_toArray, List.set_cons_zero, List.set_cons_succ]; refine hK _ ?_; clear hK K) | (refine seq_read (by rfl) (by rfl) ?_; intro K hK; go_big_quiet_op; first | go_big_quiet_on | (refine ⟨_, fun _ _ => rfl, ?_⟩; go_big_quiet_on))))
              refine seq_done ?_
              have hm := hn.row (enC X1)
              replace h1 := h1.apart (k := gq) (by omega) (enC X1)
              replace HE := Lib.hid (Ext.row HE.out hgw (enC X1))
              go_wp2_with fail
              go_meet
              case rel => exact ⟨rfl, h1, HE.out⟩
          · skip
            have hn := Blk.new w' 28 #[.bool false, .int .u64 0, .bool false, .int .i64 0, .int .u64 0, .int .u64 0, .bool false, .bool false, .bool false, .bool false, .bool false]
            have hgB : B ≤ w'.heap.size := hs0
            refine seq_run (.pointer (some ⟨w'.heap.size, 0, none⟩)) (w'.alloc (.cells #[.bool false, .int .u64 0, .bool false, .int .i64 0, .int .u64 0, .int .u64 0, .bool false, .bool false, .bool false, .bool false, .bool false] 28)) (by rfl) ?_ ((Below.refl _ _).alloc hs0 _) ?_; (simp [go_sem, execOp, Act.eval]); intro K hK; simp only [Act.put, List.setIfInBounds_toArray, List.set_cons_zero, List.set_cons_succ]; refine hK _ _ ?_; clear hK K
            have hE := (Ext.refl w').alloc (.cells #[.bool false, .int .u64 0, .bool false, .int .i64 0, .int .u64 0, .int .u64 0, .bool false, .bool false, .bool false, .bool false, .bool false] 28)
            have hgw : w.heap.size ≤ w'.heap.size := HE.out.size
            replace h1 := h1.ext hE
            replace HE := Lib.hid (HE.out.trans hE)
            replace hs0 := Nat.le_trans hs0 hE.size
            clear hE
            generalize w'.alloc (.cells #[.bool false, .int .u64 0, .bool false, .int .i64 0, .int .u64 0, .int .u64 0, .bool false, .bool false, .bool false, .bool false, .bool false] 28) = WA at *
            generalize w'.heap.size = gq at *
            refine seq_done ?_
            (try simp only [Plan.wp, List.map, nth_z, nth_s])
            refine seq_call (cd1 _ (hrow _ HE.out) (hT.ext HE.out)) rfl Tryd.func20 (by kernel_rfl) (by kernel_rfl) (by rfl) (by rfl) ?_; intro K hK; rintro e w' ⟨A4, c4, rfl, r4, -, hE⟩; refine ⟨_, rfl, (Below.mono hE hs0), ?_⟩; simp only [Act.put, List.setIfInBounds_toArray, List.set_cons_zero, List.set_cons_succ]; refine hK _ _ ?_; clear hK K
            replace h1 := h1.ext hE
            replace hn := hn.ext hE
            replace HE := Lib.hid (HE.out.trans hE)
            replace hs0 := Nat.le_trans hs0 hE.size
            clear hE
            refine seq_call (cf1 _ _ _ r4) rfl Tryd.func25 (by kernel_rfl) (by kernel_rfl) (by rfl) (by rfl) ?_; intro K hK; rintro e w' ⟨rfl, hE⟩; refine ⟨_, rfl, (Below.mono hE hs0), ?_⟩; simp only [Act.put, List.setIfInBounds_toArray, List.set_cons_zero, List.set_cons_succ]; refine hK _ _ ?_; clear hK K
            replace h1 := h1.ext hE
            replace r4 := r4.ext hE
            replace hn := hn.ext hE
            replace HE := Lib.hid (HE.out.trans hE)
            replace hs0 := Nat.le_trans hs0 hE.size
            clear hE
            (repeat (first | (refine seq_skip (by rfl) ?_; intro K hK; simp only [Act.put, List.setIfInBounds_toArray, List.set_cons_zero, List.set_cons_succ]; refine hK _ ?_; clear hK K) | (refine seq_skipc (by rfl) ?_; intro K hK; simp only [Act.put, List.setIfInBounds_toArray, List.set_cons_zero, List.set_cons_succ]; refine hK _ ?_; clear hK K) | (refine seq_read (by rfl) (by rfl) ?_; intro K hK; go_big_quiet_op; first | go_big_quiet_on | (refine ⟨_, fun _ _ => rfl, ?_⟩; go_big_quiet_on))))
            refine seq_store_row rfl rfl rfl (hn) (en_info _) (by simp [enC_size]) (enC_one _) (by rfl) ((below_row (Below.refl _ _) hgB _)) ?_; intro K hK; simp only [Act.put, List.setIfInBounds_toArray, List.set_cons_zero, List.set_cons_succ]; refine hK _ _ ?_; clear hK K
            (repeat (first | (refine seq_skip (by rfl) ?_; intro K hK; simp only [Act.put, List.setIfInBounds_toArray, List.set_cons_zero, List.set_cons_succ]; refine hK _ ?_; clear hK K) | (refine seq_skipc (by rfl) ?_; intro K hK; simp only [Act.put, List.setIfInBounds_toArray, List.set_cons_zero, List.set_cons_succ]; refine hK _ ?_; clear hK K) | (refine seq_read (by rfl) (by rfl) ?_; intro K hK; go_big_quiet_op; first | go_big_quiet_on | (refine ⟨_, fun _ _ => rfl, ?_⟩; go_big_quiet_on))))
            refine seq_done ?_
            have hm := hn.row (enC X1)
            replace h1 := h1.apart (k := gq) (by omega) (enC X1)
            replace HE := Lib.hid (Ext.row HE.out hgw (enC X1))
            go_wp2_with fail
            go_meet
            case rel => exact ⟨rfl, h1, HE.out⟩
        · skip
          have hn := Blk.new wd 28 #[.bool false, .int .u64 0, .bool false, .int .i64 0, .int .u64 0, .int .u64 0, .bool false, .bool false, .bool false, .bool false, .bool false]
          have hgB : B ≤ wd.heap.size := hs0
          refine seq_run (.pointer (some ⟨wd.heap.size, 0, none⟩)) (wd.alloc (.cells #[.bool false, .int .u64 0, .bool false, .int .i64 0, .int .u64 0, .int .u64 0, .bool false, .bool false, .bool false, .bool false, .bool false] 28)) (by rfl) ?_ ((Below.refl _ _).alloc hs0 _) ?_; (simp [go_sem, execOp, Act.eval]); intro K hK; simp only [Act.put, List.setIfInBounds_toArray, List.set_cons_zero, List.set_cons_succ]; refine hK _ _ ?_; clear hK K
          have hE := (Ext.refl wd).alloc (.cells #[.bool false, .int .u64 0, .bool false, .int .i64 0, .int .u64 0, .int .u64 0, .bool false, .bool false, .bool false, .bool false, .bool false] 28)
          have hgw : w.heap.size ≤ wd.heap.size := HE.out.size
          replace h1 := h1.ext hE
          replace HE := Lib.hid (HE.out.trans hE)
          replace hs0 := Nat.le_trans hs0 hE.size
          clear hE
          generalize wd.alloc (.cells #[.bool false, .int .u64 0, .bool false, .int .i64 0, .int .u64 0, .int .u64 0, .bool false, .bool false, .bool false, .bool false, .bool false] 28) = WA at *
          refine seq_done ?_
          (try simp only [Plan.wp, List.map, nth_z, nth_s])
          refine seq_call (cad _) rfl Tryd.func12 (by kernel_rfl) (by kernel_rfl) (by rfl) (by rfl) ?_; intro K hK; rintro e w' ⟨rfl, hE⟩; refine ⟨_, rfl, (Below.mono hE hs0), ?_⟩; simp only [Act.put, List.setIfInBounds_toArray, List.set_cons_zero, List.set_cons_succ]; refine hK _ _ ?_; clear hK K
          replace h1 := h1.ext hE
          replace hn := hn.ext hE
          replace HE := Lib.hid (HE.out.trans hE)
          replace hs0 := Nat.le_trans hs0 hE.size
          clear hE
          refine seq_call (cd1 _ (hrow _ HE.out) (hT.ext HE.out)) rfl Tryd.func20 (by kernel_rfl) (by kernel_rfl) (by rfl) (by rfl) ?_; intro K hK; rintro e w' ⟨A4, c4, rfl, r4, -, hE⟩; refine ⟨_, rfl, (Below.mono hE hs0), ?_⟩; simp only [Act.put, List.setIfInBounds_toArray, List.set_cons_zero, List.set_cons_succ]; refine hK _ _ ?_; clear hK K
          replace h1 := h1.ext hE
          replace hn := hn.ext hE
          replace HE := Lib.hid (HE.out.trans hE)
          replace hs0 := Nat.le_trans hs0 hE.size
          clear hE
          refine seq_call (cf1 _ _ _ r4) rfl Tryd.func25 (by kernel_rfl) (by kernel_rfl) (by rfl) (by rfl) ?_; intro K hK; rintro e w' ⟨rfl, hE⟩; refine ⟨_, rfl, (Below.mono hE hs0), ?_⟩; simp only [Act.put, List.setIfInBounds_toArray, List.set_cons_zero, List.set_cons_succ]; refine hK _ _ ?_; clear hK K
          replace h1 := h1.ext hE
          replace r4 := r4.ext hE
          replace hn := hn.ext hE
          replace HE := Lib.hid (HE.out.trans hE)
          replace hs0 := Nat.le_trans hs0 hE.size
          clear hE
          (repeat (first | (refine seq_skip (by rfl) ?_; intro K hK; simp only [Act.put, List.setIfInBounds_toArray, List.set_cons_zero, List.set_cons_succ]; refine hK _ ?_; clear hK K) | (refine seq_skipc (by rfl) ?_; intro K hK; simp only [Act.put, List.setIfInBounds_toArray, List.set_cons_zero, List.set_cons_succ]; refine hK _ ?_; clear hK K) | (refine seq_read (by rfl) (by rfl) ?_; intro K hK; go_big_quiet_op; first | go_big_quiet_on | (refine ⟨_, fun _ _ => rfl, ?_⟩; go_big_quiet_on))))
          refine seq_store_row rfl rfl rfl (hn) (en_info _) (by simp [enC_size]) (enC_one _) (by rfl) ((below_row (Below.refl _ _) hgB _)) ?_; intro K hK; simp only [Act.put, List.setIfInBounds_toArray, List.set_cons_zero, List.set_cons_succ]; refine hK _ _ ?_; clear hK K
          (repeat (first | (refine seq_skip (by rfl) ?_; intro K hK; simp only [Act.put, List.setIfInBounds_toArray, List.set_cons_zero, List.set_cons_succ]; refine hK _ ?_; clear hK K) | (refine seq_skipc (by rfl) ?_; intro K hK; simp only [Act.put, List.setIfInBounds_toArray, List.set_cons_zero, List.set_cons_succ]; refine hK _ ?_; clear hK K) | (refine seq_read (by rfl) (by rfl) ?_; intro K hK; go_big_quiet_op; first | go_big_quiet_on | (refine ⟨_, fun _ _ => rfl, ?_⟩; go_big_quiet_on))))
          refine seq_done ?_
          have hm := hn.row (enC X1)
          replace h1 := h1.apart (k := wd.heap.size) (by omega) (enC X1)
          replace HE := Lib.hid (Ext.row HE.out hgw (enC X1))
          go_wp2_with fail
          go_meet
          case rel => exact ⟨rfl, h1, HE.out⟩
      case rest =>
        clear h1 HE cad cd1 cf1
        obtain ⟨rfl, h1, hE⟩ := hcut
        have HE := Lib.hid hE
        clear hE
        go_wp2_with fail
        go_cut [15, 16, 17, 18] from 99 to 111 (fun c1 c2 c3 c4 wx => ∃ g, c1 = .pointer (some ⟨g, 0, none⟩) ∧ c4 = .bool o2 ∧ Blk wx g 28 (enC X2) ∧ Ext w wx)
        case first =>
          go_wp2_with fail
          (try replace hb := Blk.drew hb); (try replace hm := Blk.drew hm); (try replace h1 := Blk.drew h1); (try replace h2 := Blk.drew h2); replace HE := Lib.hid HE.out.drew; (try replace HF := Lib.hid HF.out.drew)
          refine wp_region_plan (.fork [(0, false), (1, false), (2, false), (5, false), (6, false)] 3 (.fork [] 4 (.fork [] 7 (.last [(8, false), (9, false), (10, false), (11, false), (12, false), (13, true), (14, true), (15, false), (16, false), (17, false)]) 13 (.last [(7, true), (8, false), (9, false), (10, false), (11, false), (12, false), (14, true), (15, false), (16, false), (17, false)])) 13 (.last [(4, true), (7, true), (8, false), (9, false), (10, false), (11, false), (12, false), (14, true), (15, false), (16, false), (17, false)])) 13 (.last [(3, true), (4, true), (7, true), (8, false), (9, false), (10, false), (11, false), (12, false), (14, true), (15, false), (16, false), (17, false)])) (Below wc.drew.heap.size) (by kernel_rfl) (by kernel_rfl) (Below.refl _) (fun _ _ _ => Below.trans) ?_
          simp only [Plan.wp, List.map, nth_z, nth_s]
          have hs0 : wc.drew.heap.size ≤ wc.drew.heap.size := Nat.le_refl _
          have l1 := h1.lt
          generalize hBB : wc.drew.heap.size = B at l1 hs0 ⊢
          rw [← hBB] at hs0
          generalize wc.drew = wd at *
          rw [hBB] at hs0
          replace hs0 : B ≤ wd.heap.size := by omega
          clear hBB
          refine seq_load rfl rfl (fun x hx => Blk.lower (h1) hx (by omega)) rfl Tryd.underlying37 (by kernel_rfl) (by rfl) ?_; intro K hK; simp only [Act.put, List.setIfInBounds_toArray, List.set_cons_zero, List.set_cons_succ]; refine hK _ ?_; clear hK K
          (repeat (first | (refine seq_skip (by rfl) ?_; intro K hK; simp only [Act.put, List.setIfInBounds_toArray, List.set_cons_zero, List.set_cons_succ]; refine hK _ ?_; clear hK K) | (refine seq_skipc (by rfl) ?_; intro K hK; simp only [Act.put, List.setIfInBounds_toArray, List.set_cons_zero, List.set_cons_succ]; refine hK _ ?_; clear hK K) | (refine seq_read (by rfl) (by rfl) ?_; intro K hK; go_big_quiet_op; first | go_big_quiet_on | (refine ⟨_, fun _ _ => rfl, ?_⟩; go_big_quiet_on))))
          refine seq_done ?_
          refine ⟨?_, ?_⟩
          · skip
            refine seq_call (cof _) rfl Tryd.func10 (by kernel_rfl) (by kernel_rfl) (by rfl) (by rfl) ?_; intro K hK; rintro e w' ⟨rfl, hE⟩; refine ⟨_, rfl, (Below.mono hE hs0), ?_⟩; simp only [Act.put, List.setIfInBounds_toArray, List.set_cons_zero, List.set_cons_succ]; refine hK _ _ ?_; clear hK K
            replace h1 := h1.ext hE
            replace HE := Lib.hid (HE.out.trans hE)
            replace hs0 := Nat.le_trans hs0 hE.size
            clear hE
            refine seq_done ?_
            (try simp only [Plan.wp, List.map, nth_z, nth_s])
            refine seq_done ?_
            refine ⟨?_, ?_⟩
            · skip
              refine seq_call (cd2 _ (hrow _ HE.out) (hT.ext HE.out)) rfl Tryd.func20 (by kernel_rfl) (by kernel_rfl) (by rfl) (by rfl) ?_; intro K hK; rintro e w' ⟨A4, c4, rfl, r4, -, hE⟩; refine ⟨_, rfl, (Below.mono hE hs0), ?_⟩; simp only [Act.put, List.setIfInBounds_toArray, List.set_cons_zero, List.set_cons_succ]; refine hK _ _ ?_; clear hK K
              replace h1 := h1.ext hE
              replace HE := Lib.hid (HE.out.trans hE)
              replace hs0 := Nat.le_trans hs0 hE.size
              clear hE
              refine seq_done ?_
              (try simp only [Plan.wp, List.map, nth_z, nth_s])
              refine seq_done ?_
              refine ⟨?_, ?_⟩
              · skip
                refine seq_call (cf2 _ _ _ r4) rfl Tryd.func25 (by kernel_rfl) (by kernel_rfl) (by rfl) (by rfl) ?_; intro K hK; rintro e w' ⟨rfl, hE⟩; refine ⟨_, rfl, (Below.mono hE hs0), ?_⟩; simp only [Act.put, List.setIfInBounds_toArray, List.set_cons_zero, List.set_cons_succ]; refine hK _ _ ?_; clear hK K
                replace h1 := h1.ext hE
                replace r4 := r4.ext hE
                replace HE := Lib.hid (HE.out.trans hE)
                replace hs0 := Nat.le_trans hs0 hE.size
                clear hE
                refine seq_done ?_
                (try simp only [Plan.wp, List.map, nth_z, nth_s])
                (repeat (first | (refine seq_skip (by rfl) ?_; intro K hK; simp only [Act.put, List.setIfInBounds_toArray, List.set_cons_zero, List.set_cons_succ]; refine hK _ ?_; clear hK K) | (refine seq_skipc (by rfl) ?_; intro K hK; simp only [Act.put, List.setIfInBounds_toArray, List.set_cons_zero, List.set_cons_succ]; refine hK _ ?_; clear hK K) | (refine seq_read (by rfl) (by rfl) ?_; intro K hK; go_big_quiet_op; first | go_big_quiet_on | (refine ⟨_, fun _ _ => rfl, ?_⟩; go_big_quiet_on))))
                have hn := Blk.new w' 28 #[.bool false, .int .u64 0, .bool false, .int .i64 0, .int .u64 0, .int .u64 0, .bool false, .bool false, .bool false, .bool false, .bool false]
                have hgB : B ≤ w'.heap.size := hs0
                refine seq_run (.pointer (some ⟨w'.heap.size, 0, none⟩)) (w'.alloc (.cells #[.bool false, .int .u64 0, .bool false, .int .i64 0, .int .u64 0, .int .u64 0, .bool false, .bool false, .bool false, .bool false, .bool false] 28)) (by rfl) ?_ ((Below.refl _ _).alloc hs0 _) ?_; (simp [go_sem, execOp, Act.eval]); intro K hK; simp only [Act.put, List.setIfInBounds_toArray, List.set_cons_zero, List.set_cons_succ]; refine hK _ _ ?_; clear hK K
                have hE := (Ext.refl w').alloc (.cells #[.bool false, .int .u64 0, .bool false, .int .i64 0, .int .u64 0, .int .u64 0, .bool false, .bool false, .bool false, .bool false, .bool false] 28)
                have hgw : w.heap.size ≤ w'.heap.size := HE.out.size
                replace h1 := h1.ext hE
                replace r4 := r4.ext hE
                replace HE := Lib.hid (HE.out.trans hE)
                replace hs0 := Nat.le_trans hs0 hE.size
                clear hE
                generalize w'.alloc (.cells #[.bool false, .int .u64 0, .bool false, .int .i64 0, .int .u64 0, .int .u64 0, .bool false, .bool false, .bool false, .bool false, .bool false] 28) = WA at *
                generalize w'.heap.size = gq at *
                refine seq_store_row rfl rfl rfl (hn) (en_info _) (by simp [enC_size]) (enC_one _) (by rfl) ((below_row (Below.refl _ _) hgB _)) ?_; intro K hK; simp only [Act.put, List.setIfInBounds_toArray, List.set_cons_zero, List.set_cons_succ]; refine hK _ _ ?_; clear hK K
                (repeat (first | (refine seq_skip (by rfl) ?_; intro K hK; simp only [Act.put, List.setIfInBounds_toArray, List.set_cons_zero, List.set_cons_succ]; refine hK _ ?_; clear hK K) | (refine seq_skipc (by rfl) ?_; intro K hK; simp only [Act.put, List.setIfInBounds_toArray, List.set_cons_zero, List.set_cons_succ]; refine hK _ ?_; clear hK K) | (refine seq_read (by rfl) (by rfl) ?_; intro K hK; go_big_quiet_op; first | go_big_quiet_on | (refine ⟨_, fun _ _ => rfl, ?_⟩; go_big_quiet_on))))
                refine seq_done ?_
                have hm := hn.row (enC X2)
                replace h1 := h1.apart (k := gq) (by omega) (enC X2)
                replace HE := Lib.hid (Ext.row HE.out hgw (enC X2))
                go_wp2_with fail
                go_meet
                case rel => exact ⟨_, rfl, rfl, hm, HE.out⟩
              · skip
                have hn := Blk.new w' 28 #[.bool false, .int .u64 0, .bool false, .int .i64 0, .int .u64 0, .int .u64 0, .bool false, .bool false, .bool false, .bool false, .bool false]
                have hgB : B ≤ w'.heap.size := hs0
                refine seq_run (.pointer (some ⟨w'.heap.size, 0, none⟩)) (w'.alloc (.cells #[.bool false, .int .u64 0, .bool false, .int .i64 0, .int .u64 0, .int .u64 0, .bool false, .bool false, .bool false, .bool false, .bool false] 28)) (by rfl) ?_ ((Below.refl _ _).alloc hs0 _) ?_; (simp [go_sem, execOp, Act.eval]); intro K hK; simp only [Act.put, List.setIfInBounds_toArray, List.set_cons_zero, List.set_cons_succ]; refine hK _ _ ?_; clear hK K
                have hE := (Ext.refl w').alloc (.cells #[.bool false, .int .u64 0, .bool false, .int .i64 0, .int .u64 0, .int .u64 0, .bool false, .bool false, .bool false, .bool false, .bool false] 28)
                have hgw : w.heap.size ≤ w'.heap.size := HE.out.size
                replace h1 := h1.ext hE
                replace r4 := r4.ext hE
                replace HE := Lib.hid (HE.out.trans hE)
                replace hs0 := Nat.le_trans hs0 hE.size
                clear hE
                generalize w'.alloc (.cells #[.bool false, .int .u64 0, .bool false, .int .i64 0, .int .u64 0, .int .u64 0, .bool false, .bool false, .bool false, .bool false, .bool false] 28) = WA at *
                generalize w'.heap.size = gq at *
                refine seq_done ?_
                (try simp only [Plan.wp, List.map, nth_z, nth_s])
                refine seq_call (cf2 _ _ _ r4) rfl Tryd.func25 (by kernel_rfl) (by kernel_rfl) (by rfl) (by rfl) ?_; intro K hK; rintro e w' ⟨rfl, hE⟩; refine ⟨_, rfl, (Below.mono hE hs0), ?_⟩; simp only [Act.put, List.setIfInBounds_toArray, List.set_cons_zero, List.set_cons_succ]; refine hK _ _ ?_; clear hK K
                replace h1 := h1.ext hE
                replace r4 := r4.ext hE
                replace hn := hn.ext hE
                replace HE := Lib.hid (HE.out.trans hE)
                replace hs0 := Nat.le_trans hs0 hE.size
                clear hE
                (repeat (first | (refine seq_skip (by rfl) ?_; intro K hK; simp only [Act.put, List.setIfInBounds_toArray, List.set_cons_zero, List.set_cons_succ]; refine hK _ ?_; clear hK K) | (refine seq_skipc (by rfl) ?_; intro K hK; simp only [Act.put, List.setIfInBounds_toArray, List.set_cons_zero, List.set_cons_succ]; refine hK _ ?_; clear hK K) | (refine seq_read (by rfl) (by rfl) ?_; intro K hK; go_big_quiet_op; first | go_big_quiet_on | (refine ⟨_, fun _ _ => rfl, ?_⟩; go_big_quiet_on))))
                refine seq_store_row rfl rfl rfl (hn) (en_info _) (by simp [enC_size]) (enC_one _) (by rfl) ((below_row (Below.refl _ _) hgB _)) ?_; intro K hK; simp only [Act.put, List.setIfInBounds_toArray, List.set_cons_zero, List.set_cons_succ]; refine hK _ _ ?_; clear hK K
                (repeat (first | (refine seq_skip (by rfl) ?_; intro K hK; simp only [Act.put, List.setIfInBounds_toArray, List.set_cons_zero, List.set_cons_succ]; refine hK _ ?_; clear hK K) | (refine seq_skipc (by rfl) ?_; intro K hK; simp only [Act.put, List.setIfInBounds_toArray, List.set_cons_zero, List.set_cons_succ]; refine hK _ ?_; clear hK K) | (refine seq_read (by rfl) (by rfl) ?_; intro K hK; go_big_quiet_op; first | go_big_quiet_on | (refine ⟨_, fun _ _ => rfl, ?_⟩; go_big_quiet_on))))
                refine seq_done ?_
                have hm := hn.row (enC X2)
                replace h1 := h1.apart (k := gq) (by omega) (enC X2)
                replace HE := Lib.hid (Ext.row HE.out hgw (enC X2))
                go_wp2_with fail
                go_meet
                case rel => exact ⟨_, rfl, rfl, hm, HE.out⟩
            · skip
              have hn := Blk.new w' 28 #[.bool false, .int .u64 0, .bool false, .int .i64 0, .int .u64 0, .int .u64 0, .bool false, .bool false, .bool false, .bool false, .bool false]
              have hgB : B ≤ w'.heap.size := hs0
              refine seq_run (.pointer (some ⟨w'.heap.size, 0, none⟩)) (w'.alloc (.cells #[.bool false, .int .u64 0, .bool false, .int .i64 0, .int .u64 0, .int .u64 0, .bool false, .bool false, .bool false, .bool false, .bool false] 28)) (by rfl) ?_ ((Below.refl _ _).alloc hs0 _) ?_; (simp [go_sem, execOp, Act.eval]); intro K hK; simp only [Act.put, List.setIfInBounds_toArray, List.set_cons_zero, List.set_cons_succ]; refine hK _ _ ?_; clear hK K
              have hE := (Ext.refl w').alloc (.cells #[.bool false, .int .u64 0, .bool false, .int .i64 0, .int .u64 0, .int .u64 0, .bool false, .bool false, .bool false, .bool false, .bool false] 28)
              have hgw : w.heap.size ≤ w'.heap.size := HE.out.size
              replace h1 := h1.ext hE
              replace HE := Lib.hid (HE.out.trans hE)
              replace hs0 := Nat.le_trans hs0 hE.size
              clear hE
              generalize w'.alloc (.cells #[.bool false, .int .u64 0, .bool false, .int .i64 0, .int .u64 0, .int .u64 0, .bool false, .bool false, .bool false, .bool false, .bool false] 28) = WA at *
              generalize w'.heap.size = gq at *
              refine seq_done ?_
              (try simp only [Plan.wp, List.map, nth_z, nth_s])
              refine seq_call (cd2 _ (hrow _ HE.out) (hT.ext HE.out)) rfl Tryd.func20 (by kernel_rfl) (by kernel_rfl) (by rfl) (by rfl) ?_; intro K hK; rintro e w' ⟨A4, c4, rfl, r4, -, hE⟩; refine ⟨_, rfl, (Below.mono hE hs0), ?_⟩; simp only [Act.put, List.setIfInBounds_toArray, List.set_cons_zero, List.set_cons_succ]; refine hK _ _ ?_; clear hK K
              replace h1 := h1.ext hE
              replace hn := hn.ext hE
              replace HE := Lib.hid (HE.out.trans hE)
              replace hs0 := Nat.le_trans hs0 hE.size
              clear hE
              refine seq_call (cf2 _ _ _ r4) rfl Tryd.func25 (by kernel_rfl) (by kernel_rfl) (by rfl) (by rfl) ?_; intro K hK; rintro e w' ⟨rfl, hE⟩; refine ⟨_, rfl, (Below.mono hE hs0), ?_⟩; simp only [Act.put, List.setIfInBounds_toArray, List.set_cons_zero, List.set_cons_succ]; refine hK _ _ ?_; clear hK K
              replace h1 := h1.ext hE
              replace r4 := r4.ext hE
              replace hn := hn.ext hE
              replace HE := Lib.hid (HE.out.trans hE)
              replace hs0 := Nat.le_trans hs0 hE.size
              clear hE
              (repeat (first | (refine seq_skip (by rfl) ?_; intro K hK; simp only [Act.put, List.setIfInBounds_toArray, List.set_cons_zero, List.set_cons_succ]; refine hK _ ?_; clear hK K) | (refine seq_skipc (by rfl) ?_; intro K hK; simp only [Act.put, List.setIfInBounds_toArray, List.set_cons_zero, List.set_cons_succ]; refine hK _ ?_; clear hK K) | (refine seq_read (by rfl) (by rfl) ?_; intro K hK; go_big_quiet_op; first | go_big_quiet_on | (refine ⟨_, fun _ _ => rfl, ?_⟩; go_big_quiet_on))))
              refine seq_store_row rfl rfl rfl (hn) (en_info _) (by simp [enC_size]) (enC_one _) (by rfl) ((below_row (Below.refl _ _) hgB _)) ?_; intro K hK; simp only [Act.put, List.setIfInBounds_toArray, List.set_cons_zero, List.set_cons_succ]; refine hK _ _ ?_; clear hK K
              (repeat (first | (refine seq_skip (by rfl) ?_; intro K hK; simp only [Act.put, List.setIfInBounds_toArray, List.set_cons_zero, List.set_cons_succ]; refine hK _ ?_; clear hK K) | (refine seq_skipc (by rfl) ?_; intro K hK; simp only [Act.put, List.setIfInBounds_toArray, List.set_cons_zero, List.set_cons_succ]; refine hK _ ?_; clear hK K) | (refine seq_read (by rfl) (by rfl) ?_; intro K hK; go_big_quiet_op; first | go_big_quiet_on | (refine ⟨_, fun _ _ => rfl, ?_⟩; go_big_quiet_on))))
              refine seq_done ?_
              have hm := hn.row (enC X2)
              replace h1 := h1.apart (k := gq) (by omega) (enC X2)
              replace HE := Lib.hid (Ext.row HE.out hgw (enC X2))
              go_wp2_with fail
              go_meet
              case rel => exact ⟨_, rfl, rfl, hm, HE.out⟩
          · skip
            have hn := Blk.new wd 28 #[.bool false, .int .u64 0, .bool false, .int .i64 0, .int .u64 0, .int .u64 0, .bool false, .bool false, .bool false, .bool false, .bool false]
            have hgB : B ≤ wd.heap.size := hs0
            refine seq_run (.pointer (some ⟨wd.heap.size, 0, none⟩)) (wd.alloc (.cells #[.bool false, .int .u64 0, .bool false, .int .i64 0, .int .u64 0, .int .u64 0, .bool false, .bool false, .bool false, .bool false, .bool false] 28)) (by rfl) ?_ ((Below.refl _ _).alloc hs0 _) ?_; (simp [go_sem, execOp, Act.eval]); intro K hK; simp only [Act.put, List.setIfInBounds_toArray, List.set_cons_zero, List.set_cons_succ]; refine hK _ _ ?_; clear hK K
            have hE := (Ext.refl wd).alloc (.cells #[.bool false, .int .u64 0, .bool false, .int .i64 0, .int .u64 0, .int .u64 0, .bool false, .bool false, .bool false, .bool false, .bool false] 28)
            have hgw : w.heap.size ≤ wd.heap.size := HE.out.size
            replace h1 := h1.ext hE
            replace HE := Lib.hid (HE.out.trans hE)
            replace hs0 := Nat.le_trans hs0 hE.size
            clear hE
            generalize wd.alloc (.cells #[.bool false, .int .u64 0, .bool false, .int .i64 0, .int .u64 0, .int .u64 0, .bool false, .bool false, .bool false, .bool false, .bool false] 28) = WA at *
            refine seq_done ?_
            (try simp only [Plan.wp, List.map, nth_z, nth_s])
            refine seq_call (cof _) rfl Tryd.func10 (by kernel_rfl) (by kernel_rfl) (by rfl) (by rfl) ?_; intro K hK; rintro e w' ⟨rfl, hE⟩; refine ⟨_, rfl, (Below.mono hE hs0), ?_⟩; simp only [Act.put, List.setIfInBounds_toArray, List.set_cons_zero, List.set_cons_succ]; refine hK _ _ ?_; clear hK K
            replace h1 := h1.ext hE
            replace hn := hn.ext hE
            replace HE := Lib.hid (HE.out.trans hE)
            replace hs0 := Nat.le_trans hs0 hE.size
            clear hE
            refine seq_call (cd2 _ (hrow _ HE.out) (hT.ext HE.out)) rfl Tryd.func20 (by kernel_rfl) (by kernel_rfl) (by rfl) (by rfl) ?_; intro K hK; rintro e w' ⟨A4, c4, rfl, r4, -, hE⟩; refine ⟨_, rfl, (Below.mono hE hs0), ?_⟩; simp only [Act.put, List.setIfInBounds_toArray, List.set_cons_zero, List.set_cons_succ]; refine hK _ _ ?_; clear hK K
            replace h1 := h1.ext hE
            replace hn := hn.ext hE
            replace HE := Lib.hid (HE.out.trans hE)
            replace hs0 := Nat.le_trans hs0 hE.size
            clear hE
            refine seq_call (cf2 _ _ _ r4) rfl Tryd.func25 (by kernel_rfl) (by kernel_rfl) (by rfl) (by rfl) ?_; intro K hK; rintro e w' ⟨rfl, hE⟩; refine ⟨_, rfl, (Below.mono hE hs0), ?_⟩; simp only [Act.put, List.setIfInBounds_toArray, List.set_cons_zero, List.set_cons_succ]; refine hK _ _ ?_; clear hK K
            replace h1 := h1.ext hE
            replace r4 := r4.ext hE
            replace hn := hn.ext hE
            replace HE := Lib.hid (HE.out.trans hE)
            replace hs0 := Nat.le_trans hs0 hE.size
            clear hE
            (repeat (first | (refine seq_skip (by rfl) ?_; intro K hK; simp only [Act.put, List.setIfInBounds_toArray, List.set_cons_zero, List.set_cons_succ]; refine hK _ ?_; clear hK K) | (refine seq_skipc (by rfl) ?_; intro K hK; simp only [Act.put, List.setIfInBounds_toArray, List.set_cons_zero, List.set_cons_succ]; refine hK _ ?_; clear hK K) | (refine seq_read (by rfl) (by rfl) ?_; intro K hK; go_big_quiet_op; first | go_big_quiet_on | (refine ⟨_, fun _ _ => rfl, ?_⟩; go_big_quiet_on))))
            refine seq_store_row rfl rfl rfl (hn) (en_info _) (by simp [enC_size]) (enC_one _) (by rfl) ((below_row (Below.refl _ _) hgB _)) ?_; intro K hK; simp only [Act.put, List.setIfInBounds_toArray, List.set_cons_zero, List.set_cons_succ]; refine hK _ _ ?_; clear hK K
            (repeat (first | (refine seq_skip (by rfl) ?_; intro K hK; simp only [Act.put, List.setIfInBounds_toArray, List.set_cons_zero, List.set_cons_succ]; refine hK _ ?_; clear hK K) | (refine seq_skipc (by rfl) ?_; intro K hK; simp only [Act.put, List.setIfInBounds_toArray, List.set_cons_zero, List.set_cons_succ]; refine hK _ ?_; clear hK K) | (refine seq_read (by rfl) (by rfl) ?_; intro K hK; go_big_quiet_op; first | go_big_quiet_on | (refine ⟨_, fun _ _ => rfl, ?_⟩; go_big_quiet_on))))
            refine seq_done ?_
            have hm := hn.row (enC X2)
            replace h1 := h1.apart (k := wd.heap.size) (by omega) (enC X2)
            replace HE := Lib.hid (Ext.row HE.out hgw (enC X2))
            go_wp2_with fail
            go_meet
            case rel => exact ⟨_, rfl, rfl, hm, HE.out⟩
        case rest =>
          clear h1 HE
          obtain ⟨g, rfl, rfl, h2, hE⟩ := hcut
          have HE := Lib.hid hE
          clear hE cof cd2 cf2
          cases o2
          · clear hgl
            go_wp2
            go_ret
            exact ⟨rfl, HE.out⟩
          · have x0 := h2.en_g
            rw [hgl rfl] at x0
            clear hgl
            go_wp2
            go_ret
            exact ⟨rfl, HE.out⟩
end Go.Proofs.YtlimipjfdecbfaaDoor
