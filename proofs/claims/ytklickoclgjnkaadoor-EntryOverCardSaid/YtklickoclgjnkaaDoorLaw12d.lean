/- EntryOver, EntrySame. -/
import Derived.Test.YtklickoclgjnkaaDoorLaw12a
namespace Go.Proofs.YtklickoclgjnkaaDoor
open Go.ChangeShapes Go.WideShapes Go.ChangeAt Go.RowKit
set_option linter.unusedVariables false
set_option linter.unusedSimpArgs false

set_option maxRecDepth 100000 in
set_option maxHeartbeats 8000000 in
theorem EntryOver_w (e f : En) (he : e.ok) (hf : f.ok) (a : Nat) (ha : a < 18446744073709551616) (w : World) (hT : Siz w) :
    Calls Tryd.prog 6 #[.agg (enC e), .agg (enC f), .int .u64 (a : Int)] w fun r w' => r = .returned (.bool true) ∧ Ext w w' := by
  obtain ⟨h1, h2⟩ := blk_two (Ext.refl ((w.alloc (.cells (enC e) 30)).alloc (.cells (enC f) 30)))
  have HE := Lib.hid (((Ext.refl w).alloc (.cells (enC e) 30)).alloc (.cells (enC f) 30))
  have HT := Lib.hid (hT.ext HE.out)
  clear hT
  have rme := fun w => rmay12_c e w
  have rmf := fun w => rmay12_c f w
  have cis := fun w => ris5_c (a : Int) (by omega) (by omega) w
  cases hme : mayE e
  · rw [hme] at rme
    go_enter Tryd.func6, Tryd.ntmps6
    go_wp2_with ((refine wpList_load_blk (by rfl) 30 _ rfl rfl (by first | exact h1 | exact h2 | exact k1 | exact k2 | exact k3) Tryd.underlying30 rfl (by kernel_rfl) ?_)); refine (awake12_c _ HT.out).mono ?_; rintro e w' ⟨rfl, hE⟩; (try replace h1 := h1.ext hE); (try replace h2 := h2.ext hE); (try replace k1 := k1.ext hE); (try replace k2 := k2.ext hE); (try replace k3 := k3.ext hE); (try replace hO := hO.ext hE); (try replace HT := Lib.hid (HT.out.ext hE)); (try replace HE := Lib.hid (HE.out.trans hE))
    clear hE
    go_wp2_with ((refine wpList_load_blk (by rfl) 30 _ rfl rfl (by first | exact h1 | exact h2 | exact k1 | exact k2 | exact k3) Tryd.underlying30 rfl (by kernel_rfl) ?_)); refine (rme _).mono ?_; rintro e w' ⟨rfl, hE⟩; (try replace h1 := h1.ext hE); (try replace h2 := h2.ext hE); (try replace k1 := k1.ext hE); (try replace k2 := k2.ext hE); (try replace k3 := k3.ext hE); (try replace hO := hO.ext hE); (try replace HT := Lib.hid (HT.out.ext hE)); (try replace HE := Lib.hid (HE.out.trans hE))
    clear hE
    go_wp2_with ((refine wpList_load_blk (by rfl) 30 _ rfl rfl (by first | exact h1 | exact h2 | exact k1 | exact k2 | exact k3) Tryd.underlying30 rfl (by kernel_rfl) ?_)); refine (awake12_c _ HT.out).mono ?_; rintro e w' ⟨rfl, hE⟩; (try replace h1 := h1.ext hE); (try replace h2 := h2.ext hE); (try replace k1 := k1.ext hE); (try replace k2 := k2.ext hE); (try replace k3 := k3.ext hE); (try replace hO := hO.ext hE); (try replace HT := Lib.hid (HT.out.ext hE)); (try replace HE := Lib.hid (HE.out.trans hE))
    clear hE
    go_wp2
    go_ret
    exact ⟨rfl, HE.out⟩
  rw [hme] at rme
  cases hmf : mayE f
  · rw [hmf] at rmf
    go_enter Tryd.func6, Tryd.ntmps6
    go_wp2_with ((refine wpList_load_blk (by rfl) 30 _ rfl rfl (by first | exact h1 | exact h2 | exact k1 | exact k2 | exact k3) Tryd.underlying30 rfl (by kernel_rfl) ?_)); refine (awake12_c _ HT.out).mono ?_; rintro e w' ⟨rfl, hE⟩; (try replace h1 := h1.ext hE); (try replace h2 := h2.ext hE); (try replace k1 := k1.ext hE); (try replace k2 := k2.ext hE); (try replace k3 := k3.ext hE); (try replace hO := hO.ext hE); (try replace HT := Lib.hid (HT.out.ext hE)); (try replace HE := Lib.hid (HE.out.trans hE))
    clear hE
    go_wp2_with ((refine wpList_load_blk (by rfl) 30 _ rfl rfl (by first | exact h1 | exact h2 | exact k1 | exact k2 | exact k3) Tryd.underlying30 rfl (by kernel_rfl) ?_)); refine (rme _).mono ?_; rintro e w' ⟨rfl, hE⟩; (try replace h1 := h1.ext hE); (try replace h2 := h2.ext hE); (try replace k1 := k1.ext hE); (try replace k2 := k2.ext hE); (try replace k3 := k3.ext hE); (try replace hO := hO.ext hE); (try replace HT := Lib.hid (HT.out.ext hE)); (try replace HE := Lib.hid (HE.out.trans hE))
    clear hE
    go_wp2_with ((refine wpList_load_blk (by rfl) 30 _ rfl rfl (by first | exact h1 | exact h2 | exact k1 | exact k2 | exact k3) Tryd.underlying30 rfl (by kernel_rfl) ?_)); refine (rmf _).mono ?_; rintro e w' ⟨rfl, hE⟩; (try replace h1 := h1.ext hE); (try replace h2 := h2.ext hE); (try replace k1 := k1.ext hE); (try replace k2 := k2.ext hE); (try replace k3 := k3.ext hE); (try replace hO := hO.ext hE); (try replace HT := Lib.hid (HT.out.ext hE)); (try replace HE := Lib.hid (HE.out.trans hE))
    clear hE
    go_wp2_with ((refine wpList_load_blk (by rfl) 30 _ rfl rfl (by first | exact h1 | exact h2 | exact k1 | exact k2 | exact k3) Tryd.underlying30 rfl (by kernel_rfl) ?_)); refine (awake12_c _ HT.out).mono ?_; rintro e w' ⟨rfl, hE⟩; (try replace h1 := h1.ext hE); (try replace h2 := h2.ext hE); (try replace k1 := k1.ext hE); (try replace k2 := k2.ext hE); (try replace k3 := k3.ext hE); (try replace hO := hO.ext hE); (try replace HT := Lib.hid (HT.out.ext hE)); (try replace HE := Lib.hid (HE.out.trans hE))
    clear hE
    go_wp2
    go_ret
    exact ⟨rfl, HE.out⟩
  rw [hmf] at rmf
  cases hva : vaB (a : Int)
  · rw [hva] at cis
    go_enter Tryd.func6, Tryd.ntmps6
    go_wp2_with ((refine wpList_load_blk (by rfl) 30 _ rfl rfl (by first | exact h1 | exact h2 | exact k1 | exact k2 | exact k3) Tryd.underlying30 rfl (by kernel_rfl) ?_)); refine (awake12_c _ HT.out).mono ?_; rintro e w' ⟨rfl, hE⟩; (try replace h1 := h1.ext hE); (try replace h2 := h2.ext hE); (try replace k1 := k1.ext hE); (try replace k2 := k2.ext hE); (try replace k3 := k3.ext hE); (try replace hO := hO.ext hE); (try replace HT := Lib.hid (HT.out.ext hE)); (try replace HE := Lib.hid (HE.out.trans hE))
    clear hE
    go_wp2_with ((refine wpList_load_blk (by rfl) 30 _ rfl rfl (by first | exact h1 | exact h2 | exact k1 | exact k2 | exact k3) Tryd.underlying30 rfl (by kernel_rfl) ?_)); refine (rme _).mono ?_; rintro e w' ⟨rfl, hE⟩; (try replace h1 := h1.ext hE); (try replace h2 := h2.ext hE); (try replace k1 := k1.ext hE); (try replace k2 := k2.ext hE); (try replace k3 := k3.ext hE); (try replace hO := hO.ext hE); (try replace HT := Lib.hid (HT.out.ext hE)); (try replace HE := Lib.hid (HE.out.trans hE))
    clear hE
    go_wp2_with ((refine wpList_load_blk (by rfl) 30 _ rfl rfl (by first | exact h1 | exact h2 | exact k1 | exact k2 | exact k3) Tryd.underlying30 rfl (by kernel_rfl) ?_)); refine (rmf _).mono ?_; rintro e w' ⟨rfl, hE⟩; (try replace h1 := h1.ext hE); (try replace h2 := h2.ext hE); (try replace k1 := k1.ext hE); (try replace k2 := k2.ext hE); (try replace k3 := k3.ext hE); (try replace hO := hO.ext hE); (try replace HT := Lib.hid (HT.out.ext hE)); (try replace HE := Lib.hid (HE.out.trans hE))
    clear hE
    go_wp2_with ((refine wpList_load_blk (by rfl) 30 _ rfl rfl (by first | exact h1 | exact h2 | exact k1 | exact k2 | exact k3) Tryd.underlying30 rfl (by kernel_rfl) ?_)); refine (calls_ext (cis _)).mono ?_; rintro e w' ⟨rfl, hE⟩; (try replace h1 := h1.ext hE); (try replace h2 := h2.ext hE); (try replace k1 := k1.ext hE); (try replace k2 := k2.ext hE); (try replace k3 := k3.ext hE); (try replace hO := hO.ext hE); (try replace HT := Lib.hid (HT.out.ext hE)); (try replace HE := Lib.hid (HE.out.trans hE))
    clear hE
    go_wp2_with ((refine wpList_load_blk (by rfl) 30 _ rfl rfl (by first | exact h1 | exact h2 | exact k1 | exact k2 | exact k3) Tryd.underlying30 rfl (by kernel_rfl) ?_)); refine (awake12_c _ HT.out).mono ?_; rintro e w' ⟨rfl, hE⟩; (try replace h1 := h1.ext hE); (try replace h2 := h2.ext hE); (try replace k1 := k1.ext hE); (try replace k2 := k2.ext hE); (try replace k3 := k3.ext hE); (try replace hO := hO.ext hE); (try replace HT := Lib.hid (HT.out.ext hE)); (try replace HE := Lib.hid (HE.out.trans hE))
    clear hE
    go_wp2
    go_ret
    exact ⟨rfl, HE.out⟩
  rw [hva] at cis
  have el := may_lv hme
  have fl := may_lv hmf
  have a0 : 0 ≤ (a : Int) := by omega
  have a1 : (a : Int) < 18446744073709551616 := by omega
  have x1 := of_lt (e.vp : Int)
  have y1 := of_lt (f.vp : Int)
  have ev := he.2.2.1
  have fv := hf.2.2.1
  have cov := fun w h => over_c e f (fun _ => el) (fun _ => fl) ev fv w h
  have cvo := fun w h => over_c f e (fun _ => fl) (fun _ => el) fv ev w h
  rw [over_swap] at cvo
  have coo := fun w h => over_c e e (fun _ => el) (fun _ => el) ev ev w h
  rw [over_self hme] at coo
  have cce := fun w h => covers_c e (fun _ => el) a a0 a1 w h
  have ccf := fun w h => covers_c f (fun _ => fl) a a0 a1 w h
  have cof1 := fun w => rof5_c (e.vp : Int) (by omega) (by omega) w
  have cof2 := fun w => rof5_c (f.vp : Int) (by omega) (by omega) w
  have cea := fun w h => covers_c e (fun _ => el) (ofI e.vp) x1.1 x1.2 w h
  have ceb := fun w h => covers_c e (fun _ => el) (ofI f.vp) y1.1 y1.2 w h
  have cfa := fun w h => covers_c f (fun _ => fl) (ofI e.vp) x1.1 x1.2 w h
  have cfb := fun w h => covers_c f (fun _ => fl) (ofI f.vp) y1.1 y1.2 w h
  have hcv : ¬ (covE e a = true ∧ covE f a = true ∧ overE e f = false) := fun ⟨k1, k2, k3⟩ => by rw [over_cov hme hmf k1 k2] at k3; cases k3
  have hon := fun h => over_one hme hmf h
  have hwe := fun h => cov_own hme h
  have hwf := fun h => cov_own hmf h
  clear hva el fl a0 a1 ev fv he hf hme hmf
  generalize covE e a = C1 at *
  generalize covE f a = C2 at *
  cases hO : overE e f
  · rw [hO] at cov cvo hcv
    clear hon hwe hwf cea ceb cfa cfb hO
    cases C1
    · skip
      go_enter Tryd.func6, Tryd.ntmps6
      go_wp2_with ((refine wpList_load_blk (by rfl) 30 _ rfl rfl (by first | exact h1 | exact h2 | exact k1 | exact k2 | exact k3) Tryd.underlying30 rfl (by kernel_rfl) ?_)); refine (awake12_c _ HT.out).mono ?_; rintro e w' ⟨rfl, hE⟩; (try replace h1 := h1.ext hE); (try replace h2 := h2.ext hE); (try replace k1 := k1.ext hE); (try replace k2 := k2.ext hE); (try replace k3 := k3.ext hE); (try replace hO := hO.ext hE); (try replace HT := Lib.hid (HT.out.ext hE)); (try replace HE := Lib.hid (HE.out.trans hE))
      clear hE
      go_wp2_with ((refine wpList_load_blk (by rfl) 30 _ rfl rfl (by first | exact h1 | exact h2 | exact k1 | exact k2 | exact k3) Tryd.underlying30 rfl (by kernel_rfl) ?_)); refine (rme _).mono ?_; rintro e w' ⟨rfl, hE⟩; (try replace h1 := h1.ext hE); (try replace h2 := h2.ext hE); (try replace k1 := k1.ext hE); (try replace k2 := k2.ext hE); (try replace k3 := k3.ext hE); (try replace hO := hO.ext hE); (try replace HT := Lib.hid (HT.out.ext hE)); (try replace HE := Lib.hid (HE.out.trans hE))
      clear hE
      go_wp2_with ((refine wpList_load_blk (by rfl) 30 _ rfl rfl (by first | exact h1 | exact h2 | exact k1 | exact k2 | exact k3) Tryd.underlying30 rfl (by kernel_rfl) ?_)); refine (rmf _).mono ?_; rintro e w' ⟨rfl, hE⟩; (try replace h1 := h1.ext hE); (try replace h2 := h2.ext hE); (try replace k1 := k1.ext hE); (try replace k2 := k2.ext hE); (try replace k3 := k3.ext hE); (try replace hO := hO.ext hE); (try replace HT := Lib.hid (HT.out.ext hE)); (try replace HE := Lib.hid (HE.out.trans hE))
      clear hE
      go_wp2_with ((refine wpList_load_blk (by rfl) 30 _ rfl rfl (by first | exact h1 | exact h2 | exact k1 | exact k2 | exact k3) Tryd.underlying30 rfl (by kernel_rfl) ?_)); refine (calls_ext (cis _)).mono ?_; rintro e w' ⟨rfl, hE⟩; (try replace h1 := h1.ext hE); (try replace h2 := h2.ext hE); (try replace k1 := k1.ext hE); (try replace k2 := k2.ext hE); (try replace k3 := k3.ext hE); (try replace hO := hO.ext hE); (try replace HT := Lib.hid (HT.out.ext hE)); (try replace HE := Lib.hid (HE.out.trans hE))
      clear hE
      go_wp2_with ((refine wpList_load_blk (by rfl) 30 _ rfl rfl (by first | exact h1 | exact h2 | exact k1 | exact k2 | exact k3) Tryd.underlying30 rfl (by kernel_rfl) ?_)); refine (cov _ HT.out).mono ?_; rintro e w' ⟨rfl, hE⟩; (try replace h1 := h1.ext hE); (try replace h2 := h2.ext hE); (try replace k1 := k1.ext hE); (try replace k2 := k2.ext hE); (try replace k3 := k3.ext hE); (try replace hO := hO.ext hE); (try replace HT := Lib.hid (HT.out.ext hE)); (try replace HE := Lib.hid (HE.out.trans hE))
      clear hE cov
      go_wp2_with fail
      (try replace h1 := Blk.drew h1); (try replace h2 := Blk.drew h2); (try replace k1 := Blk.drew k1); (try replace k2 := Blk.drew k2); (try replace k3 := Blk.drew k3); replace HE := Lib.hid HE.out.drew
      replace HT := Lib.hid (HT.out.ext (Ext.refl _).drew)
      refine wp_region_seq [(0, false), (1, false), (3, false), (2, true), (4, false), (5, false), (6, false), (7, false), (8, true), (9, false), (10, false), (11, false), (12, true), (13, false), (14, false), (15, false), (16, false), (17, false), (18, false), (19, false), (20, false), (21, false), (23, false), (24, false), (22, true), (25, false), (26, false)] Ext (by kernel_rfl) (by kernel_rfl) Ext.refl (fun _ _ _ => Ext.trans) ?_; simp only [List.map, nth_z, nth_s]
      refine seq_load rfl rfl (fun x hx => Blk.ext (h2) hx) rfl Tryd.underlying30 (by kernel_rfl) (by rfl) ?_; intro K hK; simp only [Act.put, List.setIfInBounds_toArray, List.set_cons_zero, List.set_cons_succ]; refine hK _ ?_; clear hK K
      refine seq_load rfl rfl (fun x hx => Blk.ext (h1) hx) rfl Tryd.underlying30 (by kernel_rfl) (by rfl) ?_; intro K hK; simp only [Act.put, List.setIfInBounds_toArray, List.set_cons_zero, List.set_cons_succ]; refine hK _ ?_; clear hK K
      (repeat (first | (refine seq_skip (by rfl) ?_; intro K hK; simp only [Act.put, List.setIfInBounds_toArray, List.set_cons_zero, List.set_cons_succ]; refine hK _ ?_; clear hK K) | (refine seq_skipc (by rfl) ?_; intro K hK; simp only [Act.put, List.setIfInBounds_toArray, List.set_cons_zero, List.set_cons_succ]; refine hK _ ?_; clear hK K) | (refine seq_read (by rfl) (by rfl) ?_; intro K hK; go_big_quiet_op; first | go_big_quiet_on | (refine ⟨_, fun _ _ => rfl, ?_⟩; go_big_quiet_on))))
      refine seq_call (cvo _ HT.out) rfl Tryd.func19 (by kernel_rfl) (by kernel_rfl) (by rfl) (by rfl) ?_; intro K hK; rintro e w' ⟨rfl, hE⟩; refine ⟨_, rfl, hE, ?_⟩; simp only [Act.put, List.setIfInBounds_toArray, List.set_cons_zero, List.set_cons_succ]; refine hK _ _ ?_; clear hK K; (try replace h1 := h1.ext hE); (try replace h2 := h2.ext hE); (try replace k1 := k1.ext hE); (try replace k2 := k2.ext hE); (try replace k3 := k3.ext hE); (try replace hO := hO.ext hE); (try replace HT := Lib.hid (HT.out.ext hE)); (try replace HE := Lib.hid (HE.out.trans hE))
      clear hE cvo
      (repeat (first | (refine seq_skip (by rfl) ?_; intro K hK; simp only [Act.put, List.setIfInBounds_toArray, List.set_cons_zero, List.set_cons_succ]; refine hK _ ?_; clear hK K) | (refine seq_skipc (by rfl) ?_; intro K hK; simp only [Act.put, List.setIfInBounds_toArray, List.set_cons_zero, List.set_cons_succ]; refine hK _ ?_; clear hK K) | (refine seq_read (by rfl) (by rfl) ?_; intro K hK; go_big_quiet_op; first | go_big_quiet_on | (refine ⟨_, fun _ _ => rfl, ?_⟩; go_big_quiet_on))))
      refine seq_load rfl rfl (fun x hx => Blk.ext (h1) hx) rfl Tryd.underlying30 (by kernel_rfl) (by rfl) ?_; intro K hK; simp only [Act.put, List.setIfInBounds_toArray, List.set_cons_zero, List.set_cons_succ]; refine hK _ ?_; clear hK K
      (repeat (first | (refine seq_skip (by rfl) ?_; intro K hK; simp only [Act.put, List.setIfInBounds_toArray, List.set_cons_zero, List.set_cons_succ]; refine hK _ ?_; clear hK K) | (refine seq_skipc (by rfl) ?_; intro K hK; simp only [Act.put, List.setIfInBounds_toArray, List.set_cons_zero, List.set_cons_succ]; refine hK _ ?_; clear hK K) | (refine seq_read (by rfl) (by rfl) ?_; intro K hK; go_big_quiet_op; first | go_big_quiet_on | (refine ⟨_, fun _ _ => rfl, ?_⟩; go_big_quiet_on))))
      refine seq_call (cce _ HT.out) rfl Tryd.func15 (by kernel_rfl) (by kernel_rfl) (by rfl) (by rfl) ?_; intro K hK; rintro e w' ⟨rfl, hE⟩; refine ⟨_, rfl, hE, ?_⟩; simp only [Act.put, List.setIfInBounds_toArray, List.set_cons_zero, List.set_cons_succ]; refine hK _ _ ?_; clear hK K; (try replace h1 := h1.ext hE); (try replace h2 := h2.ext hE); (try replace k1 := k1.ext hE); (try replace k2 := k2.ext hE); (try replace k3 := k3.ext hE); (try replace hO := hO.ext hE); (try replace HT := Lib.hid (HT.out.ext hE)); (try replace HE := Lib.hid (HE.out.trans hE))
      clear hE cce
      (repeat (first | (refine seq_skip (by rfl) ?_; intro K hK; simp only [Act.put, List.setIfInBounds_toArray, List.set_cons_zero, List.set_cons_succ]; refine hK _ ?_; clear hK K) | (refine seq_skipc (by rfl) ?_; intro K hK; simp only [Act.put, List.setIfInBounds_toArray, List.set_cons_zero, List.set_cons_succ]; refine hK _ ?_; clear hK K) | (refine seq_read (by rfl) (by rfl) ?_; intro K hK; go_big_quiet_op; first | go_big_quiet_on | (refine ⟨_, fun _ _ => rfl, ?_⟩; go_big_quiet_on))))
      refine seq_load rfl rfl (fun x hx => Blk.ext (h1) hx) rfl Tryd.underlying30 (by kernel_rfl) (by rfl) ?_; intro K hK; simp only [Act.put, List.setIfInBounds_toArray, List.set_cons_zero, List.set_cons_succ]; refine hK _ ?_; clear hK K
      refine seq_load rfl rfl (fun x hx => Blk.ext (h1) hx) rfl Tryd.underlying30 (by kernel_rfl) (by rfl) ?_; intro K hK; simp only [Act.put, List.setIfInBounds_toArray, List.set_cons_zero, List.set_cons_succ]; refine hK _ ?_; clear hK K
      (repeat (first | (refine seq_skip (by rfl) ?_; intro K hK; simp only [Act.put, List.setIfInBounds_toArray, List.set_cons_zero, List.set_cons_succ]; refine hK _ ?_; clear hK K) | (refine seq_skipc (by rfl) ?_; intro K hK; simp only [Act.put, List.setIfInBounds_toArray, List.set_cons_zero, List.set_cons_succ]; refine hK _ ?_; clear hK K) | (refine seq_read (by rfl) (by rfl) ?_; intro K hK; go_big_quiet_op; first | go_big_quiet_on | (refine ⟨_, fun _ _ => rfl, ?_⟩; go_big_quiet_on))))
      refine seq_value (.bool e.v) (by rfl) (fun x hx => by have hq := ext_cell hx (h1.en_v); simp [go_sem, execOp, Act.eval, hq]) ?_; intro K hK; simp only [Act.put, List.setIfInBounds_toArray, List.set_cons_zero, List.set_cons_succ]; refine hK _ ?_; clear hK K
      refine seq_call (coo _ HT.out) rfl Tryd.func19 (by kernel_rfl) (by kernel_rfl) (by rfl) (by rfl) ?_; intro K hK; rintro e w' ⟨rfl, hE⟩; refine ⟨_, rfl, hE, ?_⟩; simp only [Act.put, List.setIfInBounds_toArray, List.set_cons_zero, List.set_cons_succ]; refine hK _ _ ?_; clear hK K; (try replace h1 := h1.ext hE); (try replace h2 := h2.ext hE); (try replace k1 := k1.ext hE); (try replace k2 := k2.ext hE); (try replace k3 := k3.ext hE); (try replace hO := hO.ext hE); (try replace HT := Lib.hid (HT.out.ext hE)); (try replace HE := Lib.hid (HE.out.trans hE))
      clear hE coo
      (repeat (first | (refine seq_skip (by rfl) ?_; intro K hK; simp only [Act.put, List.setIfInBounds_toArray, List.set_cons_zero, List.set_cons_succ]; refine hK _ ?_; clear hK K) | (refine seq_skipc (by rfl) ?_; intro K hK; simp only [Act.put, List.setIfInBounds_toArray, List.set_cons_zero, List.set_cons_succ]; refine hK _ ?_; clear hK K) | (refine seq_read (by rfl) (by rfl) ?_; intro K hK; go_big_quiet_op; first | go_big_quiet_on | (refine ⟨_, fun _ _ => rfl, ?_⟩; go_big_quiet_on))))
      refine seq_done ?_
      have x4 := h1.en_vp
      go_wp2_with fail; refine (cof1 _).mono ?_; rintro e w' ⟨rfl, hE⟩; (try replace h1 := h1.ext hE); (try replace h2 := h2.ext hE); (try replace k1 := k1.ext hE); (try replace k2 := k2.ext hE); (try replace k3 := k3.ext hE); (try replace hO := hO.ext hE); (try replace HT := Lib.hid (HT.out.ext hE)); (try replace HE := Lib.hid (HE.out.trans hE))
      clear hE cof1 x4
      have x5 := h2.en_vp
      go_wp2_with fail; refine (cof2 _).mono ?_; rintro e w' ⟨rfl, hE⟩; (try replace h1 := h1.ext hE); (try replace h2 := h2.ext hE); (try replace k1 := k1.ext hE); (try replace k2 := k2.ext hE); (try replace k3 := k3.ext hE); (try replace hO := hO.ext hE); (try replace HT := Lib.hid (HT.out.ext hE)); (try replace HE := Lib.hid (HE.out.trans hE))
      clear hE cof2 x5
      go_wp2
      go_ret
      exact ⟨rfl, HE.out⟩
    · cases C2
      · skip
        go_enter Tryd.func6, Tryd.ntmps6
        go_wp2_with ((refine wpList_load_blk (by rfl) 30 _ rfl rfl (by first | exact h1 | exact h2 | exact k1 | exact k2 | exact k3) Tryd.underlying30 rfl (by kernel_rfl) ?_)); refine (awake12_c _ HT.out).mono ?_; rintro e w' ⟨rfl, hE⟩; (try replace h1 := h1.ext hE); (try replace h2 := h2.ext hE); (try replace k1 := k1.ext hE); (try replace k2 := k2.ext hE); (try replace k3 := k3.ext hE); (try replace hO := hO.ext hE); (try replace HT := Lib.hid (HT.out.ext hE)); (try replace HE := Lib.hid (HE.out.trans hE))
        clear hE
        go_wp2_with ((refine wpList_load_blk (by rfl) 30 _ rfl rfl (by first | exact h1 | exact h2 | exact k1 | exact k2 | exact k3) Tryd.underlying30 rfl (by kernel_rfl) ?_)); refine (rme _).mono ?_; rintro e w' ⟨rfl, hE⟩; (try replace h1 := h1.ext hE); (try replace h2 := h2.ext hE); (try replace k1 := k1.ext hE); (try replace k2 := k2.ext hE); (try replace k3 := k3.ext hE); (try replace hO := hO.ext hE); (try replace HT := Lib.hid (HT.out.ext hE)); (try replace HE := Lib.hid (HE.out.trans hE))
        clear hE
        go_wp2_with ((refine wpList_load_blk (by rfl) 30 _ rfl rfl (by first | exact h1 | exact h2 | exact k1 | exact k2 | exact k3) Tryd.underlying30 rfl (by kernel_rfl) ?_)); refine (rmf _).mono ?_; rintro e w' ⟨rfl, hE⟩; (try replace h1 := h1.ext hE); (try replace h2 := h2.ext hE); (try replace k1 := k1.ext hE); (try replace k2 := k2.ext hE); (try replace k3 := k3.ext hE); (try replace hO := hO.ext hE); (try replace HT := Lib.hid (HT.out.ext hE)); (try replace HE := Lib.hid (HE.out.trans hE))
        clear hE
        go_wp2_with ((refine wpList_load_blk (by rfl) 30 _ rfl rfl (by first | exact h1 | exact h2 | exact k1 | exact k2 | exact k3) Tryd.underlying30 rfl (by kernel_rfl) ?_)); refine (calls_ext (cis _)).mono ?_; rintro e w' ⟨rfl, hE⟩; (try replace h1 := h1.ext hE); (try replace h2 := h2.ext hE); (try replace k1 := k1.ext hE); (try replace k2 := k2.ext hE); (try replace k3 := k3.ext hE); (try replace hO := hO.ext hE); (try replace HT := Lib.hid (HT.out.ext hE)); (try replace HE := Lib.hid (HE.out.trans hE))
        clear hE
        go_wp2_with ((refine wpList_load_blk (by rfl) 30 _ rfl rfl (by first | exact h1 | exact h2 | exact k1 | exact k2 | exact k3) Tryd.underlying30 rfl (by kernel_rfl) ?_)); refine (cov _ HT.out).mono ?_; rintro e w' ⟨rfl, hE⟩; (try replace h1 := h1.ext hE); (try replace h2 := h2.ext hE); (try replace k1 := k1.ext hE); (try replace k2 := k2.ext hE); (try replace k3 := k3.ext hE); (try replace hO := hO.ext hE); (try replace HT := Lib.hid (HT.out.ext hE)); (try replace HE := Lib.hid (HE.out.trans hE))
        clear hE cov
        go_wp2_with fail
        (try replace h1 := Blk.drew h1); (try replace h2 := Blk.drew h2); (try replace k1 := Blk.drew k1); (try replace k2 := Blk.drew k2); (try replace k3 := Blk.drew k3); replace HE := Lib.hid HE.out.drew
        replace HT := Lib.hid (HT.out.ext (Ext.refl _).drew)
        refine wp_region_seq [(0, false), (1, false), (3, false), (2, true), (4, false), (5, false), (6, false), (7, false), (8, true), (9, false), (10, false), (11, false), (12, true), (13, false), (14, false), (15, false), (16, false), (17, false), (18, false), (19, false), (20, false), (21, false), (23, false), (24, false), (22, true), (25, false), (26, false)] Ext (by kernel_rfl) (by kernel_rfl) Ext.refl (fun _ _ _ => Ext.trans) ?_; simp only [List.map, nth_z, nth_s]
        refine seq_load rfl rfl (fun x hx => Blk.ext (h2) hx) rfl Tryd.underlying30 (by kernel_rfl) (by rfl) ?_; intro K hK; simp only [Act.put, List.setIfInBounds_toArray, List.set_cons_zero, List.set_cons_succ]; refine hK _ ?_; clear hK K
        refine seq_load rfl rfl (fun x hx => Blk.ext (h1) hx) rfl Tryd.underlying30 (by kernel_rfl) (by rfl) ?_; intro K hK; simp only [Act.put, List.setIfInBounds_toArray, List.set_cons_zero, List.set_cons_succ]; refine hK _ ?_; clear hK K
        (repeat (first | (refine seq_skip (by rfl) ?_; intro K hK; simp only [Act.put, List.setIfInBounds_toArray, List.set_cons_zero, List.set_cons_succ]; refine hK _ ?_; clear hK K) | (refine seq_skipc (by rfl) ?_; intro K hK; simp only [Act.put, List.setIfInBounds_toArray, List.set_cons_zero, List.set_cons_succ]; refine hK _ ?_; clear hK K) | (refine seq_read (by rfl) (by rfl) ?_; intro K hK; go_big_quiet_op; first | go_big_quiet_on | (refine ⟨_, fun _ _ => rfl, ?_⟩; go_big_quiet_on))))
        refine seq_call (cvo _ HT.out) rfl Tryd.func19 (by kernel_rfl) (by kernel_rfl) (by rfl) (by rfl) ?_; intro K hK; rintro e w' ⟨rfl, hE⟩; refine ⟨_, rfl, hE, ?_⟩; simp only [Act.put, List.setIfInBounds_toArray, List.set_cons_zero, List.set_cons_succ]; refine hK _ _ ?_; clear hK K; (try replace h1 := h1.ext hE); (try replace h2 := h2.ext hE); (try replace k1 := k1.ext hE); (try replace k2 := k2.ext hE); (try replace k3 := k3.ext hE); (try replace hO := hO.ext hE); (try replace HT := Lib.hid (HT.out.ext hE)); (try replace HE := Lib.hid (HE.out.trans hE))
        clear hE cvo
        (repeat (first | (refine seq_skip (by rfl) ?_; intro K hK; simp only [Act.put, List.setIfInBounds_toArray, List.set_cons_zero, List.set_cons_succ]; refine hK _ ?_; clear hK K) | (refine seq_skipc (by rfl) ?_; intro K hK; simp only [Act.put, List.setIfInBounds_toArray, List.set_cons_zero, List.set_cons_succ]; refine hK _ ?_; clear hK K) | (refine seq_read (by rfl) (by rfl) ?_; intro K hK; go_big_quiet_op; first | go_big_quiet_on | (refine ⟨_, fun _ _ => rfl, ?_⟩; go_big_quiet_on))))
        refine seq_load rfl rfl (fun x hx => Blk.ext (h1) hx) rfl Tryd.underlying30 (by kernel_rfl) (by rfl) ?_; intro K hK; simp only [Act.put, List.setIfInBounds_toArray, List.set_cons_zero, List.set_cons_succ]; refine hK _ ?_; clear hK K
        (repeat (first | (refine seq_skip (by rfl) ?_; intro K hK; simp only [Act.put, List.setIfInBounds_toArray, List.set_cons_zero, List.set_cons_succ]; refine hK _ ?_; clear hK K) | (refine seq_skipc (by rfl) ?_; intro K hK; simp only [Act.put, List.setIfInBounds_toArray, List.set_cons_zero, List.set_cons_succ]; refine hK _ ?_; clear hK K) | (refine seq_read (by rfl) (by rfl) ?_; intro K hK; go_big_quiet_op; first | go_big_quiet_on | (refine ⟨_, fun _ _ => rfl, ?_⟩; go_big_quiet_on))))
        refine seq_call (cce _ HT.out) rfl Tryd.func15 (by kernel_rfl) (by kernel_rfl) (by rfl) (by rfl) ?_; intro K hK; rintro e w' ⟨rfl, hE⟩; refine ⟨_, rfl, hE, ?_⟩; simp only [Act.put, List.setIfInBounds_toArray, List.set_cons_zero, List.set_cons_succ]; refine hK _ _ ?_; clear hK K; (try replace h1 := h1.ext hE); (try replace h2 := h2.ext hE); (try replace k1 := k1.ext hE); (try replace k2 := k2.ext hE); (try replace k3 := k3.ext hE); (try replace hO := hO.ext hE); (try replace HT := Lib.hid (HT.out.ext hE)); (try replace HE := Lib.hid (HE.out.trans hE))
        clear hE cce
        (repeat (first | (refine seq_skip (by rfl) ?_; intro K hK; simp only [Act.put, List.setIfInBounds_toArray, List.set_cons_zero, List.set_cons_succ]; refine hK _ ?_; clear hK K) | (refine seq_skipc (by rfl) ?_; intro K hK; simp only [Act.put, List.setIfInBounds_toArray, List.set_cons_zero, List.set_cons_succ]; refine hK _ ?_; clear hK K) | (refine seq_read (by rfl) (by rfl) ?_; intro K hK; go_big_quiet_op; first | go_big_quiet_on | (refine ⟨_, fun _ _ => rfl, ?_⟩; go_big_quiet_on))))
        refine seq_load rfl rfl (fun x hx => Blk.ext (h2) hx) rfl Tryd.underlying30 (by kernel_rfl) (by rfl) ?_; intro K hK; simp only [Act.put, List.setIfInBounds_toArray, List.set_cons_zero, List.set_cons_succ]; refine hK _ ?_; clear hK K
        (repeat (first | (refine seq_skip (by rfl) ?_; intro K hK; simp only [Act.put, List.setIfInBounds_toArray, List.set_cons_zero, List.set_cons_succ]; refine hK _ ?_; clear hK K) | (refine seq_skipc (by rfl) ?_; intro K hK; simp only [Act.put, List.setIfInBounds_toArray, List.set_cons_zero, List.set_cons_succ]; refine hK _ ?_; clear hK K) | (refine seq_read (by rfl) (by rfl) ?_; intro K hK; go_big_quiet_op; first | go_big_quiet_on | (refine ⟨_, fun _ _ => rfl, ?_⟩; go_big_quiet_on))))
        refine seq_call (ccf _ HT.out) rfl Tryd.func15 (by kernel_rfl) (by kernel_rfl) (by rfl) (by rfl) ?_; intro K hK; rintro e w' ⟨rfl, hE⟩; refine ⟨_, rfl, hE, ?_⟩; simp only [Act.put, List.setIfInBounds_toArray, List.set_cons_zero, List.set_cons_succ]; refine hK _ _ ?_; clear hK K; (try replace h1 := h1.ext hE); (try replace h2 := h2.ext hE); (try replace k1 := k1.ext hE); (try replace k2 := k2.ext hE); (try replace k3 := k3.ext hE); (try replace hO := hO.ext hE); (try replace HT := Lib.hid (HT.out.ext hE)); (try replace HE := Lib.hid (HE.out.trans hE))
        clear hE ccf
        (repeat (first | (refine seq_skip (by rfl) ?_; intro K hK; simp only [Act.put, List.setIfInBounds_toArray, List.set_cons_zero, List.set_cons_succ]; refine hK _ ?_; clear hK K) | (refine seq_skipc (by rfl) ?_; intro K hK; simp only [Act.put, List.setIfInBounds_toArray, List.set_cons_zero, List.set_cons_succ]; refine hK _ ?_; clear hK K) | (refine seq_read (by rfl) (by rfl) ?_; intro K hK; go_big_quiet_op; first | go_big_quiet_on | (refine ⟨_, fun _ _ => rfl, ?_⟩; go_big_quiet_on))))
        refine seq_load rfl rfl (fun x hx => Blk.ext (h1) hx) rfl Tryd.underlying30 (by kernel_rfl) (by rfl) ?_; intro K hK; simp only [Act.put, List.setIfInBounds_toArray, List.set_cons_zero, List.set_cons_succ]; refine hK _ ?_; clear hK K
        refine seq_load rfl rfl (fun x hx => Blk.ext (h1) hx) rfl Tryd.underlying30 (by kernel_rfl) (by rfl) ?_; intro K hK; simp only [Act.put, List.setIfInBounds_toArray, List.set_cons_zero, List.set_cons_succ]; refine hK _ ?_; clear hK K
        (repeat (first | (refine seq_skip (by rfl) ?_; intro K hK; simp only [Act.put, List.setIfInBounds_toArray, List.set_cons_zero, List.set_cons_succ]; refine hK _ ?_; clear hK K) | (refine seq_skipc (by rfl) ?_; intro K hK; simp only [Act.put, List.setIfInBounds_toArray, List.set_cons_zero, List.set_cons_succ]; refine hK _ ?_; clear hK K) | (refine seq_read (by rfl) (by rfl) ?_; intro K hK; go_big_quiet_op; first | go_big_quiet_on | (refine ⟨_, fun _ _ => rfl, ?_⟩; go_big_quiet_on))))
        refine seq_value (.bool e.v) (by rfl) (fun x hx => by have hq := ext_cell hx (h1.en_v); simp [go_sem, execOp, Act.eval, hq]) ?_; intro K hK; simp only [Act.put, List.setIfInBounds_toArray, List.set_cons_zero, List.set_cons_succ]; refine hK _ ?_; clear hK K
        refine seq_call (coo _ HT.out) rfl Tryd.func19 (by kernel_rfl) (by kernel_rfl) (by rfl) (by rfl) ?_; intro K hK; rintro e w' ⟨rfl, hE⟩; refine ⟨_, rfl, hE, ?_⟩; simp only [Act.put, List.setIfInBounds_toArray, List.set_cons_zero, List.set_cons_succ]; refine hK _ _ ?_; clear hK K; (try replace h1 := h1.ext hE); (try replace h2 := h2.ext hE); (try replace k1 := k1.ext hE); (try replace k2 := k2.ext hE); (try replace k3 := k3.ext hE); (try replace hO := hO.ext hE); (try replace HT := Lib.hid (HT.out.ext hE)); (try replace HE := Lib.hid (HE.out.trans hE))
        clear hE coo
        (repeat (first | (refine seq_skip (by rfl) ?_; intro K hK; simp only [Act.put, List.setIfInBounds_toArray, List.set_cons_zero, List.set_cons_succ]; refine hK _ ?_; clear hK K) | (refine seq_skipc (by rfl) ?_; intro K hK; simp only [Act.put, List.setIfInBounds_toArray, List.set_cons_zero, List.set_cons_succ]; refine hK _ ?_; clear hK K) | (refine seq_read (by rfl) (by rfl) ?_; intro K hK; go_big_quiet_op; first | go_big_quiet_on | (refine ⟨_, fun _ _ => rfl, ?_⟩; go_big_quiet_on))))
        refine seq_done ?_
        have x4 := h1.en_vp
        go_wp2_with fail; refine (cof1 _).mono ?_; rintro e w' ⟨rfl, hE⟩; (try replace h1 := h1.ext hE); (try replace h2 := h2.ext hE); (try replace k1 := k1.ext hE); (try replace k2 := k2.ext hE); (try replace k3 := k3.ext hE); (try replace hO := hO.ext hE); (try replace HT := Lib.hid (HT.out.ext hE)); (try replace HE := Lib.hid (HE.out.trans hE))
        clear hE cof1 x4
        have x5 := h2.en_vp
        go_wp2_with fail; refine (cof2 _).mono ?_; rintro e w' ⟨rfl, hE⟩; (try replace h1 := h1.ext hE); (try replace h2 := h2.ext hE); (try replace k1 := k1.ext hE); (try replace k2 := k2.ext hE); (try replace k3 := k3.ext hE); (try replace hO := hO.ext hE); (try replace HT := Lib.hid (HT.out.ext hE)); (try replace HE := Lib.hid (HE.out.trans hE))
        clear hE cof2 x5
        go_wp2
        go_ret
        exact ⟨rfl, HE.out⟩
      · exact absurd ⟨rfl, rfl, rfl⟩ hcv
  · obtain ⟨hv, hw, hor⟩ := hon hO
    rw [hO] at cov cvo
    rw [hwe hv] at cea
    rw [hwf hw] at cfb
    clear hon hwe hwf hO hcv hv hw
    generalize covE f (ofI e.vp) = D1 at *
    generalize covE e (ofI f.vp) = D2 at *
    generalize ofI (e.vp : Int) = x at *
    generalize ofI (f.vp : Int) = y at *
    cases C1
    · skip
      go_enter Tryd.func6, Tryd.ntmps6
      go_wp2_with ((refine wpList_load_blk (by rfl) 30 _ rfl rfl (by first | exact h1 | exact h2 | exact k1 | exact k2 | exact k3) Tryd.underlying30 rfl (by kernel_rfl) ?_)); refine (awake12_c _ HT.out).mono ?_; rintro e w' ⟨rfl, hE⟩; (try replace h1 := h1.ext hE); (try replace h2 := h2.ext hE); (try replace k1 := k1.ext hE); (try replace k2 := k2.ext hE); (try replace k3 := k3.ext hE); (try replace hO := hO.ext hE); (try replace HT := Lib.hid (HT.out.ext hE)); (try replace HE := Lib.hid (HE.out.trans hE))
      clear hE
      go_wp2_with ((refine wpList_load_blk (by rfl) 30 _ rfl rfl (by first | exact h1 | exact h2 | exact k1 | exact k2 | exact k3) Tryd.underlying30 rfl (by kernel_rfl) ?_)); refine (rme _).mono ?_; rintro e w' ⟨rfl, hE⟩; (try replace h1 := h1.ext hE); (try replace h2 := h2.ext hE); (try replace k1 := k1.ext hE); (try replace k2 := k2.ext hE); (try replace k3 := k3.ext hE); (try replace hO := hO.ext hE); (try replace HT := Lib.hid (HT.out.ext hE)); (try replace HE := Lib.hid (HE.out.trans hE))
      clear hE
      go_wp2_with ((refine wpList_load_blk (by rfl) 30 _ rfl rfl (by first | exact h1 | exact h2 | exact k1 | exact k2 | exact k3) Tryd.underlying30 rfl (by kernel_rfl) ?_)); refine (rmf _).mono ?_; rintro e w' ⟨rfl, hE⟩; (try replace h1 := h1.ext hE); (try replace h2 := h2.ext hE); (try replace k1 := k1.ext hE); (try replace k2 := k2.ext hE); (try replace k3 := k3.ext hE); (try replace hO := hO.ext hE); (try replace HT := Lib.hid (HT.out.ext hE)); (try replace HE := Lib.hid (HE.out.trans hE))
      clear hE
      go_wp2_with ((refine wpList_load_blk (by rfl) 30 _ rfl rfl (by first | exact h1 | exact h2 | exact k1 | exact k2 | exact k3) Tryd.underlying30 rfl (by kernel_rfl) ?_)); refine (calls_ext (cis _)).mono ?_; rintro e w' ⟨rfl, hE⟩; (try replace h1 := h1.ext hE); (try replace h2 := h2.ext hE); (try replace k1 := k1.ext hE); (try replace k2 := k2.ext hE); (try replace k3 := k3.ext hE); (try replace hO := hO.ext hE); (try replace HT := Lib.hid (HT.out.ext hE)); (try replace HE := Lib.hid (HE.out.trans hE))
      clear hE
      go_wp2_with ((refine wpList_load_blk (by rfl) 30 _ rfl rfl (by first | exact h1 | exact h2 | exact k1 | exact k2 | exact k3) Tryd.underlying30 rfl (by kernel_rfl) ?_)); refine (cov _ HT.out).mono ?_; rintro e w' ⟨rfl, hE⟩; (try replace h1 := h1.ext hE); (try replace h2 := h2.ext hE); (try replace k1 := k1.ext hE); (try replace k2 := k2.ext hE); (try replace k3 := k3.ext hE); (try replace hO := hO.ext hE); (try replace HT := Lib.hid (HT.out.ext hE)); (try replace HE := Lib.hid (HE.out.trans hE))
      clear hE cov
      go_wp2_with fail
      (try replace h1 := Blk.drew h1); (try replace h2 := Blk.drew h2); (try replace k1 := Blk.drew k1); (try replace k2 := Blk.drew k2); (try replace k3 := Blk.drew k3); replace HE := Lib.hid HE.out.drew
      replace HT := Lib.hid (HT.out.ext (Ext.refl _).drew)
      refine wp_region_seq [(0, false), (1, false), (3, false), (2, true), (4, false), (5, false), (6, false), (7, false), (8, true), (9, false), (10, false), (11, false), (12, true), (13, false), (14, false), (15, false), (16, false), (17, false), (18, false), (19, false), (20, false), (21, false), (23, false), (24, false), (22, true), (25, false), (26, false)] Ext (by kernel_rfl) (by kernel_rfl) Ext.refl (fun _ _ _ => Ext.trans) ?_; simp only [List.map, nth_z, nth_s]
      refine seq_load rfl rfl (fun x hx => Blk.ext (h2) hx) rfl Tryd.underlying30 (by kernel_rfl) (by rfl) ?_; intro K hK; simp only [Act.put, List.setIfInBounds_toArray, List.set_cons_zero, List.set_cons_succ]; refine hK _ ?_; clear hK K
      refine seq_load rfl rfl (fun x hx => Blk.ext (h1) hx) rfl Tryd.underlying30 (by kernel_rfl) (by rfl) ?_; intro K hK; simp only [Act.put, List.setIfInBounds_toArray, List.set_cons_zero, List.set_cons_succ]; refine hK _ ?_; clear hK K
      (repeat (first | (refine seq_skip (by rfl) ?_; intro K hK; simp only [Act.put, List.setIfInBounds_toArray, List.set_cons_zero, List.set_cons_succ]; refine hK _ ?_; clear hK K) | (refine seq_skipc (by rfl) ?_; intro K hK; simp only [Act.put, List.setIfInBounds_toArray, List.set_cons_zero, List.set_cons_succ]; refine hK _ ?_; clear hK K) | (refine seq_read (by rfl) (by rfl) ?_; intro K hK; go_big_quiet_op; first | go_big_quiet_on | (refine ⟨_, fun _ _ => rfl, ?_⟩; go_big_quiet_on))))
      refine seq_call (cvo _ HT.out) rfl Tryd.func19 (by kernel_rfl) (by kernel_rfl) (by rfl) (by rfl) ?_; intro K hK; rintro e w' ⟨rfl, hE⟩; refine ⟨_, rfl, hE, ?_⟩; simp only [Act.put, List.setIfInBounds_toArray, List.set_cons_zero, List.set_cons_succ]; refine hK _ _ ?_; clear hK K; (try replace h1 := h1.ext hE); (try replace h2 := h2.ext hE); (try replace k1 := k1.ext hE); (try replace k2 := k2.ext hE); (try replace k3 := k3.ext hE); (try replace hO := hO.ext hE); (try replace HT := Lib.hid (HT.out.ext hE)); (try replace HE := Lib.hid (HE.out.trans hE))
      clear hE cvo
      (repeat (first | (refine seq_skip (by rfl) ?_; intro K hK; simp only [Act.put, List.setIfInBounds_toArray, List.set_cons_zero, List.set_cons_succ]; refine hK _ ?_; clear hK K) | (refine seq_skipc (by rfl) ?_; intro K hK; simp only [Act.put, List.setIfInBounds_toArray, List.set_cons_zero, List.set_cons_succ]; refine hK _ ?_; clear hK K) | (refine seq_read (by rfl) (by rfl) ?_; intro K hK; go_big_quiet_op; first | go_big_quiet_on | (refine ⟨_, fun _ _ => rfl, ?_⟩; go_big_quiet_on))))
      refine seq_load rfl rfl (fun x hx => Blk.ext (h1) hx) rfl Tryd.underlying30 (by kernel_rfl) (by rfl) ?_; intro K hK; simp only [Act.put, List.setIfInBounds_toArray, List.set_cons_zero, List.set_cons_succ]; refine hK _ ?_; clear hK K
      (repeat (first | (refine seq_skip (by rfl) ?_; intro K hK; simp only [Act.put, List.setIfInBounds_toArray, List.set_cons_zero, List.set_cons_succ]; refine hK _ ?_; clear hK K) | (refine seq_skipc (by rfl) ?_; intro K hK; simp only [Act.put, List.setIfInBounds_toArray, List.set_cons_zero, List.set_cons_succ]; refine hK _ ?_; clear hK K) | (refine seq_read (by rfl) (by rfl) ?_; intro K hK; go_big_quiet_op; first | go_big_quiet_on | (refine ⟨_, fun _ _ => rfl, ?_⟩; go_big_quiet_on))))
      refine seq_call (cce _ HT.out) rfl Tryd.func15 (by kernel_rfl) (by kernel_rfl) (by rfl) (by rfl) ?_; intro K hK; rintro e w' ⟨rfl, hE⟩; refine ⟨_, rfl, hE, ?_⟩; simp only [Act.put, List.setIfInBounds_toArray, List.set_cons_zero, List.set_cons_succ]; refine hK _ _ ?_; clear hK K; (try replace h1 := h1.ext hE); (try replace h2 := h2.ext hE); (try replace k1 := k1.ext hE); (try replace k2 := k2.ext hE); (try replace k3 := k3.ext hE); (try replace hO := hO.ext hE); (try replace HT := Lib.hid (HT.out.ext hE)); (try replace HE := Lib.hid (HE.out.trans hE))
      clear hE cce
      (repeat (first | (refine seq_skip (by rfl) ?_; intro K hK; simp only [Act.put, List.setIfInBounds_toArray, List.set_cons_zero, List.set_cons_succ]; refine hK _ ?_; clear hK K) | (refine seq_skipc (by rfl) ?_; intro K hK; simp only [Act.put, List.setIfInBounds_toArray, List.set_cons_zero, List.set_cons_succ]; refine hK _ ?_; clear hK K) | (refine seq_read (by rfl) (by rfl) ?_; intro K hK; go_big_quiet_op; first | go_big_quiet_on | (refine ⟨_, fun _ _ => rfl, ?_⟩; go_big_quiet_on))))
      refine seq_load rfl rfl (fun x hx => Blk.ext (h1) hx) rfl Tryd.underlying30 (by kernel_rfl) (by rfl) ?_; intro K hK; simp only [Act.put, List.setIfInBounds_toArray, List.set_cons_zero, List.set_cons_succ]; refine hK _ ?_; clear hK K
      refine seq_load rfl rfl (fun x hx => Blk.ext (h1) hx) rfl Tryd.underlying30 (by kernel_rfl) (by rfl) ?_; intro K hK; simp only [Act.put, List.setIfInBounds_toArray, List.set_cons_zero, List.set_cons_succ]; refine hK _ ?_; clear hK K
      (repeat (first | (refine seq_skip (by rfl) ?_; intro K hK; simp only [Act.put, List.setIfInBounds_toArray, List.set_cons_zero, List.set_cons_succ]; refine hK _ ?_; clear hK K) | (refine seq_skipc (by rfl) ?_; intro K hK; simp only [Act.put, List.setIfInBounds_toArray, List.set_cons_zero, List.set_cons_succ]; refine hK _ ?_; clear hK K) | (refine seq_read (by rfl) (by rfl) ?_; intro K hK; go_big_quiet_op; first | go_big_quiet_on | (refine ⟨_, fun _ _ => rfl, ?_⟩; go_big_quiet_on))))
      refine seq_value (.bool e.v) (by rfl) (fun x hx => by have hq := ext_cell hx (h1.en_v); simp [go_sem, execOp, Act.eval, hq]) ?_; intro K hK; simp only [Act.put, List.setIfInBounds_toArray, List.set_cons_zero, List.set_cons_succ]; refine hK _ ?_; clear hK K
      refine seq_call (coo _ HT.out) rfl Tryd.func19 (by kernel_rfl) (by kernel_rfl) (by rfl) (by rfl) ?_; intro K hK; rintro e w' ⟨rfl, hE⟩; refine ⟨_, rfl, hE, ?_⟩; simp only [Act.put, List.setIfInBounds_toArray, List.set_cons_zero, List.set_cons_succ]; refine hK _ _ ?_; clear hK K; (try replace h1 := h1.ext hE); (try replace h2 := h2.ext hE); (try replace k1 := k1.ext hE); (try replace k2 := k2.ext hE); (try replace k3 := k3.ext hE); (try replace hO := hO.ext hE); (try replace HT := Lib.hid (HT.out.ext hE)); (try replace HE := Lib.hid (HE.out.trans hE))
      clear hE coo
      (repeat (first | (refine seq_skip (by rfl) ?_; intro K hK; simp only [Act.put, List.setIfInBounds_toArray, List.set_cons_zero, List.set_cons_succ]; refine hK _ ?_; clear hK K) | (refine seq_skipc (by rfl) ?_; intro K hK; simp only [Act.put, List.setIfInBounds_toArray, List.set_cons_zero, List.set_cons_succ]; refine hK _ ?_; clear hK K) | (refine seq_read (by rfl) (by rfl) ?_; intro K hK; go_big_quiet_op; first | go_big_quiet_on | (refine ⟨_, fun _ _ => rfl, ?_⟩; go_big_quiet_on))))
      refine seq_done ?_
      have x4 := h1.en_vp
      go_wp2_with fail; refine (cof1 _).mono ?_; rintro e w' ⟨rfl, hE⟩; (try replace h1 := h1.ext hE); (try replace h2 := h2.ext hE); (try replace k1 := k1.ext hE); (try replace k2 := k2.ext hE); (try replace k3 := k3.ext hE); (try replace hO := hO.ext hE); (try replace HT := Lib.hid (HT.out.ext hE)); (try replace HE := Lib.hid (HE.out.trans hE))
      clear hE cof1 x4
      have x5 := h2.en_vp
      go_wp2_with fail; refine (cof2 _).mono ?_; rintro e w' ⟨rfl, hE⟩; (try replace h1 := h1.ext hE); (try replace h2 := h2.ext hE); (try replace k1 := k1.ext hE); (try replace k2 := k2.ext hE); (try replace k3 := k3.ext hE); (try replace hO := hO.ext hE); (try replace HT := Lib.hid (HT.out.ext hE)); (try replace HE := Lib.hid (HE.out.trans hE))
      clear hE cof2 x5
      cases D1
      · replace hor := hor.resolve_left (by decide)
        subst hor
        go_wp2_with ((refine wpList_load_blk (by rfl) 30 _ rfl rfl (by first | exact h1 | exact h2 | exact k1 | exact k2 | exact k3) Tryd.underlying30 rfl (by kernel_rfl) ?_)); refine (cea _ HT.out).mono ?_; rintro e w' ⟨rfl, hE⟩; (try replace h1 := h1.ext hE); (try replace h2 := h2.ext hE); (try replace k1 := k1.ext hE); (try replace k2 := k2.ext hE); (try replace k3 := k3.ext hE); (try replace hO := hO.ext hE); (try replace HT := Lib.hid (HT.out.ext hE)); (try replace HE := Lib.hid (HE.out.trans hE))
        clear hE
        go_wp2_with ((refine wpList_load_blk (by rfl) 30 _ rfl rfl (by first | exact h1 | exact h2 | exact k1 | exact k2 | exact k3) Tryd.underlying30 rfl (by kernel_rfl) ?_)); refine (cfa _ HT.out).mono ?_; rintro e w' ⟨rfl, hE⟩; (try replace h1 := h1.ext hE); (try replace h2 := h2.ext hE); (try replace k1 := k1.ext hE); (try replace k2 := k2.ext hE); (try replace k3 := k3.ext hE); (try replace hO := hO.ext hE); (try replace HT := Lib.hid (HT.out.ext hE)); (try replace HE := Lib.hid (HE.out.trans hE))
        clear hE
        go_wp2_with ((refine wpList_load_blk (by rfl) 30 _ rfl rfl (by first | exact h1 | exact h2 | exact k1 | exact k2 | exact k3) Tryd.underlying30 rfl (by kernel_rfl) ?_)); refine (ceb _ HT.out).mono ?_; rintro e w' ⟨rfl, hE⟩; (try replace h1 := h1.ext hE); (try replace h2 := h2.ext hE); (try replace k1 := k1.ext hE); (try replace k2 := k2.ext hE); (try replace k3 := k3.ext hE); (try replace hO := hO.ext hE); (try replace HT := Lib.hid (HT.out.ext hE)); (try replace HE := Lib.hid (HE.out.trans hE))
        clear hE
        go_wp2_with ((refine wpList_load_blk (by rfl) 30 _ rfl rfl (by first | exact h1 | exact h2 | exact k1 | exact k2 | exact k3) Tryd.underlying30 rfl (by kernel_rfl) ?_)); refine (cfb _ HT.out).mono ?_; rintro e w' ⟨rfl, hE⟩; (try replace h1 := h1.ext hE); (try replace h2 := h2.ext hE); (try replace k1 := k1.ext hE); (try replace k2 := k2.ext hE); (try replace k3 := k3.ext hE); (try replace hO := hO.ext hE); (try replace HT := Lib.hid (HT.out.ext hE)); (try replace HE := Lib.hid (HE.out.trans hE))
        clear hE
        go_wp2
        go_ret
        exact ⟨rfl, HE.out⟩
      · go_wp2_with ((refine wpList_load_blk (by rfl) 30 _ rfl rfl (by first | exact h1 | exact h2 | exact k1 | exact k2 | exact k3) Tryd.underlying30 rfl (by kernel_rfl) ?_)); refine (cea _ HT.out).mono ?_; rintro e w' ⟨rfl, hE⟩; (try replace h1 := h1.ext hE); (try replace h2 := h2.ext hE); (try replace k1 := k1.ext hE); (try replace k2 := k2.ext hE); (try replace k3 := k3.ext hE); (try replace hO := hO.ext hE); (try replace HT := Lib.hid (HT.out.ext hE)); (try replace HE := Lib.hid (HE.out.trans hE))
        clear hE
        go_wp2_with ((refine wpList_load_blk (by rfl) 30 _ rfl rfl (by first | exact h1 | exact h2 | exact k1 | exact k2 | exact k3) Tryd.underlying30 rfl (by kernel_rfl) ?_)); refine (cfa _ HT.out).mono ?_; rintro e w' ⟨rfl, hE⟩; (try replace h1 := h1.ext hE); (try replace h2 := h2.ext hE); (try replace k1 := k1.ext hE); (try replace k2 := k2.ext hE); (try replace k3 := k3.ext hE); (try replace hO := hO.ext hE); (try replace HT := Lib.hid (HT.out.ext hE)); (try replace HE := Lib.hid (HE.out.trans hE))
        clear hE
        go_wp2
        go_ret
        exact ⟨rfl, HE.out⟩
    · cases C2
      all_goals
        go_enter Tryd.func6, Tryd.ntmps6
        go_wp2_with ((refine wpList_load_blk (by rfl) 30 _ rfl rfl (by first | exact h1 | exact h2 | exact k1 | exact k2 | exact k3) Tryd.underlying30 rfl (by kernel_rfl) ?_)); refine (awake12_c _ HT.out).mono ?_; rintro e w' ⟨rfl, hE⟩; (try replace h1 := h1.ext hE); (try replace h2 := h2.ext hE); (try replace k1 := k1.ext hE); (try replace k2 := k2.ext hE); (try replace k3 := k3.ext hE); (try replace hO := hO.ext hE); (try replace HT := Lib.hid (HT.out.ext hE)); (try replace HE := Lib.hid (HE.out.trans hE))
        clear hE
        go_wp2_with ((refine wpList_load_blk (by rfl) 30 _ rfl rfl (by first | exact h1 | exact h2 | exact k1 | exact k2 | exact k3) Tryd.underlying30 rfl (by kernel_rfl) ?_)); refine (rme _).mono ?_; rintro e w' ⟨rfl, hE⟩; (try replace h1 := h1.ext hE); (try replace h2 := h2.ext hE); (try replace k1 := k1.ext hE); (try replace k2 := k2.ext hE); (try replace k3 := k3.ext hE); (try replace hO := hO.ext hE); (try replace HT := Lib.hid (HT.out.ext hE)); (try replace HE := Lib.hid (HE.out.trans hE))
        clear hE
        go_wp2_with ((refine wpList_load_blk (by rfl) 30 _ rfl rfl (by first | exact h1 | exact h2 | exact k1 | exact k2 | exact k3) Tryd.underlying30 rfl (by kernel_rfl) ?_)); refine (rmf _).mono ?_; rintro e w' ⟨rfl, hE⟩; (try replace h1 := h1.ext hE); (try replace h2 := h2.ext hE); (try replace k1 := k1.ext hE); (try replace k2 := k2.ext hE); (try replace k3 := k3.ext hE); (try replace hO := hO.ext hE); (try replace HT := Lib.hid (HT.out.ext hE)); (try replace HE := Lib.hid (HE.out.trans hE))
        clear hE
        go_wp2_with ((refine wpList_load_blk (by rfl) 30 _ rfl rfl (by first | exact h1 | exact h2 | exact k1 | exact k2 | exact k3) Tryd.underlying30 rfl (by kernel_rfl) ?_)); refine (calls_ext (cis _)).mono ?_; rintro e w' ⟨rfl, hE⟩; (try replace h1 := h1.ext hE); (try replace h2 := h2.ext hE); (try replace k1 := k1.ext hE); (try replace k2 := k2.ext hE); (try replace k3 := k3.ext hE); (try replace hO := hO.ext hE); (try replace HT := Lib.hid (HT.out.ext hE)); (try replace HE := Lib.hid (HE.out.trans hE))
        clear hE
        go_wp2_with ((refine wpList_load_blk (by rfl) 30 _ rfl rfl (by first | exact h1 | exact h2 | exact k1 | exact k2 | exact k3) Tryd.underlying30 rfl (by kernel_rfl) ?_)); refine (cov _ HT.out).mono ?_; rintro e w' ⟨rfl, hE⟩; (try replace h1 := h1.ext hE); (try replace h2 := h2.ext hE); (try replace k1 := k1.ext hE); (try replace k2 := k2.ext hE); (try replace k3 := k3.ext hE); (try replace hO := hO.ext hE); (try replace HT := Lib.hid (HT.out.ext hE)); (try replace HE := Lib.hid (HE.out.trans hE))
        clear hE cov
        go_wp2_with fail
        (try replace h1 := Blk.drew h1); (try replace h2 := Blk.drew h2); (try replace k1 := Blk.drew k1); (try replace k2 := Blk.drew k2); (try replace k3 := Blk.drew k3); replace HE := Lib.hid HE.out.drew
        replace HT := Lib.hid (HT.out.ext (Ext.refl _).drew)
        refine wp_region_seq [(0, false), (1, false), (3, false), (2, true), (4, false), (5, false), (6, false), (7, false), (8, true), (9, false), (10, false), (11, false), (12, true), (13, false), (14, false), (15, false), (16, false), (17, false), (18, false), (19, false), (20, false), (21, false), (23, false), (24, false), (22, true), (25, false), (26, false)] Ext (by kernel_rfl) (by kernel_rfl) Ext.refl (fun _ _ _ => Ext.trans) ?_; simp only [List.map, nth_z, nth_s]
        refine seq_load rfl rfl (fun x hx => Blk.ext (h2) hx) rfl Tryd.underlying30 (by kernel_rfl) (by rfl) ?_; intro K hK; simp only [Act.put, List.setIfInBounds_toArray, List.set_cons_zero, List.set_cons_succ]; refine hK _ ?_; clear hK K
        refine seq_load rfl rfl (fun x hx => Blk.ext (h1) hx) rfl Tryd.underlying30 (by kernel_rfl) (by rfl) ?_; intro K hK; simp only [Act.put, List.setIfInBounds_toArray, List.set_cons_zero, List.set_cons_succ]; refine hK _ ?_; clear hK K
        (repeat (first | (refine seq_skip (by rfl) ?_; intro K hK; simp only [Act.put, List.setIfInBounds_toArray, List.set_cons_zero, List.set_cons_succ]; refine hK _ ?_; clear hK K) | (refine seq_skipc (by rfl) ?_; intro K hK; simp only [Act.put, List.setIfInBounds_toArray, List.set_cons_zero, List.set_cons_succ]; refine hK _ ?_; clear hK K) | (refine seq_read (by rfl) (by rfl) ?_; intro K hK; go_big_quiet_op; first | go_big_quiet_on | (refine ⟨_, fun _ _ => rfl, ?_⟩; go_big_quiet_on))))
        refine seq_call (cvo _ HT.out) rfl Tryd.func19 (by kernel_rfl) (by kernel_rfl) (by rfl) (by rfl) ?_; intro K hK; rintro e w' ⟨rfl, hE⟩; refine ⟨_, rfl, hE, ?_⟩; simp only [Act.put, List.setIfInBounds_toArray, List.set_cons_zero, List.set_cons_succ]; refine hK _ _ ?_; clear hK K; (try replace h1 := h1.ext hE); (try replace h2 := h2.ext hE); (try replace k1 := k1.ext hE); (try replace k2 := k2.ext hE); (try replace k3 := k3.ext hE); (try replace hO := hO.ext hE); (try replace HT := Lib.hid (HT.out.ext hE)); (try replace HE := Lib.hid (HE.out.trans hE))
        clear hE cvo
        (repeat (first | (refine seq_skip (by rfl) ?_; intro K hK; simp only [Act.put, List.setIfInBounds_toArray, List.set_cons_zero, List.set_cons_succ]; refine hK _ ?_; clear hK K) | (refine seq_skipc (by rfl) ?_; intro K hK; simp only [Act.put, List.setIfInBounds_toArray, List.set_cons_zero, List.set_cons_succ]; refine hK _ ?_; clear hK K) | (refine seq_read (by rfl) (by rfl) ?_; intro K hK; go_big_quiet_op; first | go_big_quiet_on | (refine ⟨_, fun _ _ => rfl, ?_⟩; go_big_quiet_on))))
        refine seq_load rfl rfl (fun x hx => Blk.ext (h1) hx) rfl Tryd.underlying30 (by kernel_rfl) (by rfl) ?_; intro K hK; simp only [Act.put, List.setIfInBounds_toArray, List.set_cons_zero, List.set_cons_succ]; refine hK _ ?_; clear hK K
        (repeat (first | (refine seq_skip (by rfl) ?_; intro K hK; simp only [Act.put, List.setIfInBounds_toArray, List.set_cons_zero, List.set_cons_succ]; refine hK _ ?_; clear hK K) | (refine seq_skipc (by rfl) ?_; intro K hK; simp only [Act.put, List.setIfInBounds_toArray, List.set_cons_zero, List.set_cons_succ]; refine hK _ ?_; clear hK K) | (refine seq_read (by rfl) (by rfl) ?_; intro K hK; go_big_quiet_op; first | go_big_quiet_on | (refine ⟨_, fun _ _ => rfl, ?_⟩; go_big_quiet_on))))
        refine seq_call (cce _ HT.out) rfl Tryd.func15 (by kernel_rfl) (by kernel_rfl) (by rfl) (by rfl) ?_; intro K hK; rintro e w' ⟨rfl, hE⟩; refine ⟨_, rfl, hE, ?_⟩; simp only [Act.put, List.setIfInBounds_toArray, List.set_cons_zero, List.set_cons_succ]; refine hK _ _ ?_; clear hK K; (try replace h1 := h1.ext hE); (try replace h2 := h2.ext hE); (try replace k1 := k1.ext hE); (try replace k2 := k2.ext hE); (try replace k3 := k3.ext hE); (try replace hO := hO.ext hE); (try replace HT := Lib.hid (HT.out.ext hE)); (try replace HE := Lib.hid (HE.out.trans hE))
        clear hE cce
        (repeat (first | (refine seq_skip (by rfl) ?_; intro K hK; simp only [Act.put, List.setIfInBounds_toArray, List.set_cons_zero, List.set_cons_succ]; refine hK _ ?_; clear hK K) | (refine seq_skipc (by rfl) ?_; intro K hK; simp only [Act.put, List.setIfInBounds_toArray, List.set_cons_zero, List.set_cons_succ]; refine hK _ ?_; clear hK K) | (refine seq_read (by rfl) (by rfl) ?_; intro K hK; go_big_quiet_op; first | go_big_quiet_on | (refine ⟨_, fun _ _ => rfl, ?_⟩; go_big_quiet_on))))
        refine seq_load rfl rfl (fun x hx => Blk.ext (h2) hx) rfl Tryd.underlying30 (by kernel_rfl) (by rfl) ?_; intro K hK; simp only [Act.put, List.setIfInBounds_toArray, List.set_cons_zero, List.set_cons_succ]; refine hK _ ?_; clear hK K
        (repeat (first | (refine seq_skip (by rfl) ?_; intro K hK; simp only [Act.put, List.setIfInBounds_toArray, List.set_cons_zero, List.set_cons_succ]; refine hK _ ?_; clear hK K) | (refine seq_skipc (by rfl) ?_; intro K hK; simp only [Act.put, List.setIfInBounds_toArray, List.set_cons_zero, List.set_cons_succ]; refine hK _ ?_; clear hK K) | (refine seq_read (by rfl) (by rfl) ?_; intro K hK; go_big_quiet_op; first | go_big_quiet_on | (refine ⟨_, fun _ _ => rfl, ?_⟩; go_big_quiet_on))))
        refine seq_call (ccf _ HT.out) rfl Tryd.func15 (by kernel_rfl) (by kernel_rfl) (by rfl) (by rfl) ?_; intro K hK; rintro e w' ⟨rfl, hE⟩; refine ⟨_, rfl, hE, ?_⟩; simp only [Act.put, List.setIfInBounds_toArray, List.set_cons_zero, List.set_cons_succ]; refine hK _ _ ?_; clear hK K; (try replace h1 := h1.ext hE); (try replace h2 := h2.ext hE); (try replace k1 := k1.ext hE); (try replace k2 := k2.ext hE); (try replace k3 := k3.ext hE); (try replace hO := hO.ext hE); (try replace HT := Lib.hid (HT.out.ext hE)); (try replace HE := Lib.hid (HE.out.trans hE))
        clear hE ccf
        (repeat (first | (refine seq_skip (by rfl) ?_; intro K hK; simp only [Act.put, List.setIfInBounds_toArray, List.set_cons_zero, List.set_cons_succ]; refine hK _ ?_; clear hK K) | (refine seq_skipc (by rfl) ?_; intro K hK; simp only [Act.put, List.setIfInBounds_toArray, List.set_cons_zero, List.set_cons_succ]; refine hK _ ?_; clear hK K) | (refine seq_read (by rfl) (by rfl) ?_; intro K hK; go_big_quiet_op; first | go_big_quiet_on | (refine ⟨_, fun _ _ => rfl, ?_⟩; go_big_quiet_on))))
        refine seq_load rfl rfl (fun x hx => Blk.ext (h1) hx) rfl Tryd.underlying30 (by kernel_rfl) (by rfl) ?_; intro K hK; simp only [Act.put, List.setIfInBounds_toArray, List.set_cons_zero, List.set_cons_succ]; refine hK _ ?_; clear hK K
        refine seq_load rfl rfl (fun x hx => Blk.ext (h1) hx) rfl Tryd.underlying30 (by kernel_rfl) (by rfl) ?_; intro K hK; simp only [Act.put, List.setIfInBounds_toArray, List.set_cons_zero, List.set_cons_succ]; refine hK _ ?_; clear hK K
        (repeat (first | (refine seq_skip (by rfl) ?_; intro K hK; simp only [Act.put, List.setIfInBounds_toArray, List.set_cons_zero, List.set_cons_succ]; refine hK _ ?_; clear hK K) | (refine seq_skipc (by rfl) ?_; intro K hK; simp only [Act.put, List.setIfInBounds_toArray, List.set_cons_zero, List.set_cons_succ]; refine hK _ ?_; clear hK K) | (refine seq_read (by rfl) (by rfl) ?_; intro K hK; go_big_quiet_op; first | go_big_quiet_on | (refine ⟨_, fun _ _ => rfl, ?_⟩; go_big_quiet_on))))
        refine seq_value (.bool e.v) (by rfl) (fun x hx => by have hq := ext_cell hx (h1.en_v); simp [go_sem, execOp, Act.eval, hq]) ?_; intro K hK; simp only [Act.put, List.setIfInBounds_toArray, List.set_cons_zero, List.set_cons_succ]; refine hK _ ?_; clear hK K
        refine seq_call (coo _ HT.out) rfl Tryd.func19 (by kernel_rfl) (by kernel_rfl) (by rfl) (by rfl) ?_; intro K hK; rintro e w' ⟨rfl, hE⟩; refine ⟨_, rfl, hE, ?_⟩; simp only [Act.put, List.setIfInBounds_toArray, List.set_cons_zero, List.set_cons_succ]; refine hK _ _ ?_; clear hK K; (try replace h1 := h1.ext hE); (try replace h2 := h2.ext hE); (try replace k1 := k1.ext hE); (try replace k2 := k2.ext hE); (try replace k3 := k3.ext hE); (try replace hO := hO.ext hE); (try replace HT := Lib.hid (HT.out.ext hE)); (try replace HE := Lib.hid (HE.out.trans hE))
        clear hE coo
        (repeat (first | (refine seq_skip (by rfl) ?_; intro K hK; simp only [Act.put, List.setIfInBounds_toArray, List.set_cons_zero, List.set_cons_succ]; refine hK _ ?_; clear hK K) | (refine seq_skipc (by rfl) ?_; intro K hK; simp only [Act.put, List.setIfInBounds_toArray, List.set_cons_zero, List.set_cons_succ]; refine hK _ ?_; clear hK K) | (refine seq_read (by rfl) (by rfl) ?_; intro K hK; go_big_quiet_op; first | go_big_quiet_on | (refine ⟨_, fun _ _ => rfl, ?_⟩; go_big_quiet_on))))
        refine seq_done ?_
        have x4 := h1.en_vp
        go_wp2_with fail; refine (cof1 _).mono ?_; rintro e w' ⟨rfl, hE⟩; (try replace h1 := h1.ext hE); (try replace h2 := h2.ext hE); (try replace k1 := k1.ext hE); (try replace k2 := k2.ext hE); (try replace k3 := k3.ext hE); (try replace hO := hO.ext hE); (try replace HT := Lib.hid (HT.out.ext hE)); (try replace HE := Lib.hid (HE.out.trans hE))
        clear hE cof1 x4
        have x5 := h2.en_vp
        go_wp2_with fail; refine (cof2 _).mono ?_; rintro e w' ⟨rfl, hE⟩; (try replace h1 := h1.ext hE); (try replace h2 := h2.ext hE); (try replace k1 := k1.ext hE); (try replace k2 := k2.ext hE); (try replace k3 := k3.ext hE); (try replace hO := hO.ext hE); (try replace HT := Lib.hid (HT.out.ext hE)); (try replace HE := Lib.hid (HE.out.trans hE))
        clear hE cof2 x5
        cases D1
        · replace hor := hor.resolve_left (by decide)
          subst hor
          go_wp2_with ((refine wpList_load_blk (by rfl) 30 _ rfl rfl (by first | exact h1 | exact h2 | exact k1 | exact k2 | exact k3) Tryd.underlying30 rfl (by kernel_rfl) ?_)); refine (cea _ HT.out).mono ?_; rintro e w' ⟨rfl, hE⟩; (try replace h1 := h1.ext hE); (try replace h2 := h2.ext hE); (try replace k1 := k1.ext hE); (try replace k2 := k2.ext hE); (try replace k3 := k3.ext hE); (try replace hO := hO.ext hE); (try replace HT := Lib.hid (HT.out.ext hE)); (try replace HE := Lib.hid (HE.out.trans hE))
          clear hE
          go_wp2_with ((refine wpList_load_blk (by rfl) 30 _ rfl rfl (by first | exact h1 | exact h2 | exact k1 | exact k2 | exact k3) Tryd.underlying30 rfl (by kernel_rfl) ?_)); refine (cfa _ HT.out).mono ?_; rintro e w' ⟨rfl, hE⟩; (try replace h1 := h1.ext hE); (try replace h2 := h2.ext hE); (try replace k1 := k1.ext hE); (try replace k2 := k2.ext hE); (try replace k3 := k3.ext hE); (try replace hO := hO.ext hE); (try replace HT := Lib.hid (HT.out.ext hE)); (try replace HE := Lib.hid (HE.out.trans hE))
          clear hE
          go_wp2_with ((refine wpList_load_blk (by rfl) 30 _ rfl rfl (by first | exact h1 | exact h2 | exact k1 | exact k2 | exact k3) Tryd.underlying30 rfl (by kernel_rfl) ?_)); refine (ceb _ HT.out).mono ?_; rintro e w' ⟨rfl, hE⟩; (try replace h1 := h1.ext hE); (try replace h2 := h2.ext hE); (try replace k1 := k1.ext hE); (try replace k2 := k2.ext hE); (try replace k3 := k3.ext hE); (try replace hO := hO.ext hE); (try replace HT := Lib.hid (HT.out.ext hE)); (try replace HE := Lib.hid (HE.out.trans hE))
          clear hE
          go_wp2_with ((refine wpList_load_blk (by rfl) 30 _ rfl rfl (by first | exact h1 | exact h2 | exact k1 | exact k2 | exact k3) Tryd.underlying30 rfl (by kernel_rfl) ?_)); refine (cfb _ HT.out).mono ?_; rintro e w' ⟨rfl, hE⟩; (try replace h1 := h1.ext hE); (try replace h2 := h2.ext hE); (try replace k1 := k1.ext hE); (try replace k2 := k2.ext hE); (try replace k3 := k3.ext hE); (try replace hO := hO.ext hE); (try replace HT := Lib.hid (HT.out.ext hE)); (try replace HE := Lib.hid (HE.out.trans hE))
          clear hE
          go_wp2
          go_ret
          exact ⟨rfl, HE.out⟩
        · go_wp2_with ((refine wpList_load_blk (by rfl) 30 _ rfl rfl (by first | exact h1 | exact h2 | exact k1 | exact k2 | exact k3) Tryd.underlying30 rfl (by kernel_rfl) ?_)); refine (cea _ HT.out).mono ?_; rintro e w' ⟨rfl, hE⟩; (try replace h1 := h1.ext hE); (try replace h2 := h2.ext hE); (try replace k1 := k1.ext hE); (try replace k2 := k2.ext hE); (try replace k3 := k3.ext hE); (try replace hO := hO.ext hE); (try replace HT := Lib.hid (HT.out.ext hE)); (try replace HE := Lib.hid (HE.out.trans hE))
          clear hE
          go_wp2_with ((refine wpList_load_blk (by rfl) 30 _ rfl rfl (by first | exact h1 | exact h2 | exact k1 | exact k2 | exact k3) Tryd.underlying30 rfl (by kernel_rfl) ?_)); refine (cfa _ HT.out).mono ?_; rintro e w' ⟨rfl, hE⟩; (try replace h1 := h1.ext hE); (try replace h2 := h2.ext hE); (try replace k1 := k1.ext hE); (try replace k2 := k2.ext hE); (try replace k3 := k3.ext hE); (try replace hO := hO.ext hE); (try replace HT := Lib.hid (HT.out.ext hE)); (try replace HE := Lib.hid (HE.out.trans hE))
          clear hE
          go_wp2
          go_ret
          exact ⟨rfl, HE.out⟩
set_option maxRecDepth 100000 in
set_option maxHeartbeats 8000000 in
theorem EntrySame_w (e f : En) (he : e.ok) (hf : f.ok) (w : World) (hT : Siz w) :
    Calls Tryd.prog 7 #[.agg (enC e), .agg (enC f)] w fun r w' => r = .returned (.bool true) ∧ Ext w w' := by
  obtain ⟨h1, h2⟩ := blk_two (Ext.refl ((w.alloc (.cells (enC e) 30)).alloc (.cells (enC f) 30)))
  have HE := Lib.hid (((Ext.refl w).alloc (.cells (enC e) 30)).alloc (.cells (enC f) 30))
  have HT := Lib.hid (hT.ext HE.out)
  clear hT
  have rme := fun w => rmay12_c e w
  have rmf := fun w => rmay12_c f w
  cases hme : mayE e
  · rw [hme] at rme
    go_enter Tryd.func7, Tryd.ntmps7
    go_wp2_with ((refine wpList_load_blk (by rfl) 30 _ rfl rfl (by first | exact h1 | exact h2) Tryd.underlying30 rfl (by kernel_rfl) ?_)); refine (awake12_c _ HT.out).mono ?_; rintro e w' ⟨rfl, hE⟩; (try replace h1 := h1.ext hE); (try replace h2 := h2.ext hE); (try replace HT := Lib.hid (HT.out.ext hE)); (try replace HE := Lib.hid (HE.out.trans hE))
    clear hE
    go_wp2_with ((refine wpList_load_blk (by rfl) 30 _ rfl rfl (by first | exact h1 | exact h2) Tryd.underlying30 rfl (by kernel_rfl) ?_)); refine (rme _).mono ?_; rintro e w' ⟨rfl, hE⟩; (try replace h1 := h1.ext hE); (try replace h2 := h2.ext hE); (try replace HT := Lib.hid (HT.out.ext hE)); (try replace HE := Lib.hid (HE.out.trans hE))
    clear hE
    go_wp2_with ((refine wpList_load_blk (by rfl) 30 _ rfl rfl (by first | exact h1 | exact h2) Tryd.underlying30 rfl (by kernel_rfl) ?_)); refine (awake12_c _ HT.out).mono ?_; rintro e w' ⟨rfl, hE⟩; (try replace h1 := h1.ext hE); (try replace h2 := h2.ext hE); (try replace HT := Lib.hid (HT.out.ext hE)); (try replace HE := Lib.hid (HE.out.trans hE))
    clear hE
    go_wp2
    go_ret
    exact ⟨rfl, HE.out⟩
  rw [hme] at rme
  cases hmf : mayE f
  · rw [hmf] at rmf
    go_enter Tryd.func7, Tryd.ntmps7
    go_wp2_with ((refine wpList_load_blk (by rfl) 30 _ rfl rfl (by first | exact h1 | exact h2) Tryd.underlying30 rfl (by kernel_rfl) ?_)); refine (awake12_c _ HT.out).mono ?_; rintro e w' ⟨rfl, hE⟩; (try replace h1 := h1.ext hE); (try replace h2 := h2.ext hE); (try replace HT := Lib.hid (HT.out.ext hE)); (try replace HE := Lib.hid (HE.out.trans hE))
    clear hE
    go_wp2_with ((refine wpList_load_blk (by rfl) 30 _ rfl rfl (by first | exact h1 | exact h2) Tryd.underlying30 rfl (by kernel_rfl) ?_)); refine (rme _).mono ?_; rintro e w' ⟨rfl, hE⟩; (try replace h1 := h1.ext hE); (try replace h2 := h2.ext hE); (try replace HT := Lib.hid (HT.out.ext hE)); (try replace HE := Lib.hid (HE.out.trans hE))
    clear hE
    go_wp2_with ((refine wpList_load_blk (by rfl) 30 _ rfl rfl (by first | exact h1 | exact h2) Tryd.underlying30 rfl (by kernel_rfl) ?_)); refine (rmf _).mono ?_; rintro e w' ⟨rfl, hE⟩; (try replace h1 := h1.ext hE); (try replace h2 := h2.ext hE); (try replace HT := Lib.hid (HT.out.ext hE)); (try replace HE := Lib.hid (HE.out.trans hE))
    clear hE
    go_wp2_with ((refine wpList_load_blk (by rfl) 30 _ rfl rfl (by first | exact h1 | exact h2) Tryd.underlying30 rfl (by kernel_rfl) ?_)); refine (awake12_c _ HT.out).mono ?_; rintro e w' ⟨rfl, hE⟩; (try replace h1 := h1.ext hE); (try replace h2 := h2.ext hE); (try replace HT := Lib.hid (HT.out.ext hE)); (try replace HE := Lib.hid (HE.out.trans hE))
    clear hE
    go_wp2
    go_ret
    exact ⟨rfl, HE.out⟩
  rw [hmf] at rmf
  cases hv : e.v
  · skip
    go_enter Tryd.func7, Tryd.ntmps7
    go_wp2_with ((refine wpList_load_blk (by rfl) 30 _ rfl rfl (by first | exact h1 | exact h2) Tryd.underlying30 rfl (by kernel_rfl) ?_)); refine (awake12_c _ HT.out).mono ?_; rintro e w' ⟨rfl, hE⟩; (try replace h1 := h1.ext hE); (try replace h2 := h2.ext hE); (try replace HT := Lib.hid (HT.out.ext hE)); (try replace HE := Lib.hid (HE.out.trans hE))
    clear hE
    go_wp2_with ((refine wpList_load_blk (by rfl) 30 _ rfl rfl (by first | exact h1 | exact h2) Tryd.underlying30 rfl (by kernel_rfl) ?_)); refine (rme _).mono ?_; rintro e w' ⟨rfl, hE⟩; (try replace h1 := h1.ext hE); (try replace h2 := h2.ext hE); (try replace HT := Lib.hid (HT.out.ext hE)); (try replace HE := Lib.hid (HE.out.trans hE))
    clear hE
    go_wp2_with ((refine wpList_load_blk (by rfl) 30 _ rfl rfl (by first | exact h1 | exact h2) Tryd.underlying30 rfl (by kernel_rfl) ?_)); refine (rmf _).mono ?_; rintro e w' ⟨rfl, hE⟩; (try replace h1 := h1.ext hE); (try replace h2 := h2.ext hE); (try replace HT := Lib.hid (HT.out.ext hE)); (try replace HE := Lib.hid (HE.out.trans hE))
    clear hE
    have x0 := h1.en_v
    rw [hv] at x0
    go_wp2_with ((refine wpList_load_blk (by rfl) 30 _ rfl rfl (by first | exact h1 | exact h2) Tryd.underlying30 rfl (by kernel_rfl) ?_)); refine (awake12_c _ HT.out).mono ?_; rintro e w' ⟨rfl, hE⟩; (try replace h1 := h1.ext hE); (try replace h2 := h2.ext hE); (try replace HT := Lib.hid (HT.out.ext hE)); (try replace HE := Lib.hid (HE.out.trans hE))
    clear hE x0
    go_wp2
    go_ret
    exact ⟨rfl, HE.out⟩
  cases hw : f.v
  · skip
    go_enter Tryd.func7, Tryd.ntmps7
    go_wp2_with ((refine wpList_load_blk (by rfl) 30 _ rfl rfl (by first | exact h1 | exact h2) Tryd.underlying30 rfl (by kernel_rfl) ?_)); refine (awake12_c _ HT.out).mono ?_; rintro e w' ⟨rfl, hE⟩; (try replace h1 := h1.ext hE); (try replace h2 := h2.ext hE); (try replace HT := Lib.hid (HT.out.ext hE)); (try replace HE := Lib.hid (HE.out.trans hE))
    clear hE
    go_wp2_with ((refine wpList_load_blk (by rfl) 30 _ rfl rfl (by first | exact h1 | exact h2) Tryd.underlying30 rfl (by kernel_rfl) ?_)); refine (rme _).mono ?_; rintro e w' ⟨rfl, hE⟩; (try replace h1 := h1.ext hE); (try replace h2 := h2.ext hE); (try replace HT := Lib.hid (HT.out.ext hE)); (try replace HE := Lib.hid (HE.out.trans hE))
    clear hE
    go_wp2_with ((refine wpList_load_blk (by rfl) 30 _ rfl rfl (by first | exact h1 | exact h2) Tryd.underlying30 rfl (by kernel_rfl) ?_)); refine (rmf _).mono ?_; rintro e w' ⟨rfl, hE⟩; (try replace h1 := h1.ext hE); (try replace h2 := h2.ext hE); (try replace HT := Lib.hid (HT.out.ext hE)); (try replace HE := Lib.hid (HE.out.trans hE))
    clear hE
    have x0 := h1.en_v
    rw [hv] at x0
    have y0 := h2.en_v
    rw [hw] at y0
    go_wp2_with ((refine wpList_load_blk (by rfl) 30 _ rfl rfl (by first | exact h1 | exact h2) Tryd.underlying30 rfl (by kernel_rfl) ?_)); refine (awake12_c _ HT.out).mono ?_; rintro e w' ⟨rfl, hE⟩; (try replace h1 := h1.ext hE); (try replace h2 := h2.ext hE); (try replace HT := Lib.hid (HT.out.ext hE)); (try replace HE := Lib.hid (HE.out.trans hE))
    clear hE x0 y0
    go_wp2
    go_ret
    exact ⟨rfl, HE.out⟩
  have el := may_lv hme
  have fl := may_lv hmf
  have em := may_lt hme
  have ev := he.2.2.1
  have fv := hf.2.2.1
  have hp := pag_pos el.1 el.2
  have cov := fun w h => over_c e f (fun _ => el) (fun _ => fl) ev fv w h
  have hos := fun h => over_same hme hmf hv hw h
  have cpg := fun w => rpages_c e.l el.1 el.2 w
  have b0 := of_lt (e.vp : Int)
  have b1 := of_lt ((e.vp : Int) + pagI e.l - 1)
  have b2 := of_lt ((e.vp : Int) + 134217728 - 1)
  have b3 := of_lt ((e.vp : Int) + pagI e.l)
  have cof0 := fun w => rof5_c (e.vp : Int) (by omega) (by omega) w
  have cof1 := fun w => rof5_c ((e.vp : Int) + pagI e.l - 1) (by omega) (by omega) w
  have cof2 := fun w => rof5_c ((e.vp : Int) + 134217728 - 1) (by omega) (by omega) w
  have cof3 := fun w => rof5_c ((e.vp : Int) + pagI e.l) (by omega) (by omega) w
  have cc0 := fun w h => covers_c e (fun _ => el) _ b0.1 b0.2 w h
  rw [cov_own hme hv] at cc0
  have cc1 := fun w h => covers_c e (fun _ => el) _ b1.1 b1.2 w h
  rw [cov_last hme hv] at cc1
  have cc2 := fun w h => covers_c e (fun _ => el) _ b2.1 b2.2 w h
  rw [cov_ahead hme hv] at cc2
  have cc3 := fun w h => covers_c e (fun _ => el) _ b3.1 b3.2 w h
  rw [cov_behind hme hv] at cc3
  have cp0 := fun w h => physical12_c e el.1 el.2 em.2.1 _ b0.1 b0.2 w h
  rw [phy_first hme hv] at cp0
  have cp1 := fun w h => physical12_c e el.1 el.2 em.2.1 _ b1.1 b1.2 w h
  rw [phy_last hme hv] at cp1
  clear hme hmf he hf b0 b1 b2 b3 fl fv
  generalize pagI e.l = p at *
  generalize hx0 : ofI (e.vp : Int) = o0 at cof0 cc0 cp0
  generalize ofI ((e.vp : Int) + p - 1) = o1 at cof1 cc1 cp1
  generalize ofI ((e.vp : Int) + 134217728 - 1) = o2 at cof2 cc2
  generalize ofI ((e.vp : Int) + p) = o3 at cof3 cc3
  clear hx0
  have w1 : IntKind.u64.wrap ((e.vp : Int) + p) = (e.vp : Int) + p := IntWalk.u64_in _ (by omega)
  have w2 : IntKind.u64.wrap ((e.vp : Int) + p - 1) = (e.vp : Int) + p - 1 := IntWalk.u64_in _ (by omega)
  have w3 : IntKind.u64.wrap ((e.vp : Int) + 134217728) = (e.vp : Int) + 134217728 := IntWalk.u64_in _ (by omega)
  have w4 : IntKind.u64.wrap ((e.vp : Int) + 134217728 - 1) = (e.vp : Int) + 134217728 - 1 := IntWalk.u64_in _ (by omega)
  have w5 : IntKind.u64.wrap (4096 * (e.pp : Int)) = 4096 * (e.pp : Int) := IntWalk.u64_in _ (by omega)
  have w6 : IntKind.u64.wrap ((e.pp : Int) + p) = (e.pp : Int) + p := IntWalk.u64_in _ (by omega)
  have w7 : IntKind.u64.wrap ((e.pp : Int) + p - 1) = (e.pp : Int) + p - 1 := IntWalk.u64_in _ (by omega)
  have w8 : IntKind.u64.wrap (4096 * ((e.pp : Int) + p - 1)) = 4096 * ((e.pp : Int) + p - 1) := IntWalk.u64_in _ (by omega)
  clear el em hp ev
  have HV := Lib.hid hv
  have HW := Lib.hid hw
  clear hv hw
  cases hlv : (e.l == f.l)
  all_goals
    go_enter Tryd.func7, Tryd.ntmps7
    go_wp2_with ((refine wpList_load_blk (by rfl) 30 _ rfl rfl (by first | exact h1 | exact h2) Tryd.underlying30 rfl (by kernel_rfl) ?_)); refine (awake12_c _ HT.out).mono ?_; rintro e w' ⟨rfl, hE⟩; (try replace h1 := h1.ext hE); (try replace h2 := h2.ext hE); (try replace HT := Lib.hid (HT.out.ext hE)); (try replace HE := Lib.hid (HE.out.trans hE))
    clear hE
    go_wp2_with ((refine wpList_load_blk (by rfl) 30 _ rfl rfl (by first | exact h1 | exact h2) Tryd.underlying30 rfl (by kernel_rfl) ?_)); refine (rme _).mono ?_; rintro e w' ⟨rfl, hE⟩; (try replace h1 := h1.ext hE); (try replace h2 := h2.ext hE); (try replace HT := Lib.hid (HT.out.ext hE)); (try replace HE := Lib.hid (HE.out.trans hE))
    clear hE
    go_wp2_with ((refine wpList_load_blk (by rfl) 30 _ rfl rfl (by first | exact h1 | exact h2) Tryd.underlying30 rfl (by kernel_rfl) ?_)); refine (rmf _).mono ?_; rintro e w' ⟨rfl, hE⟩; (try replace h1 := h1.ext hE); (try replace h2 := h2.ext hE); (try replace HT := Lib.hid (HT.out.ext hE)); (try replace HE := Lib.hid (HE.out.trans hE))
    clear hE
    have x0 := h1.en_v
    rw [HV.out] at x0
    have y0 := h2.en_v
    rw [HW.out] at y0
    go_wp2_with fail
    clear x0 y0
    (try replace h1 := Blk.drew h1); (try replace h2 := Blk.drew h2); replace HE := Lib.hid HE.out.drew
    replace HT := Lib.hid (HT.out.ext (Ext.refl _).drew)
    refine wp_region_seq [(0, false), (1, false), (2, false), (3, false), (4, false), (5, false), (6, false), (7, false), (9, false), (10, false), (11, false), (12, false), (13, false), (8, true), (14, false), (15, false)] Ext (by kernel_rfl) (by kernel_rfl) Ext.refl (fun _ _ _ => Ext.trans) ?_; simp only [List.map, nth_z, nth_s]
    (try simp only [Act.put, List.setIfInBounds_toArray, List.set_cons_zero, List.set_cons_succ])
    (repeat (first | (refine seq_skip (by rfl) ?_; intro K hK; simp only [Act.put, List.setIfInBounds_toArray, List.set_cons_zero, List.set_cons_succ]; refine hK _ ?_; clear hK K) | (refine seq_skipc (by rfl) ?_; intro K hK; simp only [Act.put, List.setIfInBounds_toArray, List.set_cons_zero, List.set_cons_succ]; refine hK _ ?_; clear hK K) | (refine seq_read (by rfl) (by rfl) ?_; intro K hK; go_big_quiet_op; first | go_big_quiet_on | (refine ⟨_, fun _ _ => rfl, ?_⟩; go_big_quiet_on))))
    refine seq_value (.int .i64 e.l) (by rfl) (fun x hx => by have hq := ext_cell hx (h1.en_l); simp [go_sem, execOp, Act.eval, hq]) ?_; intro K hK; simp only [Act.put, List.setIfInBounds_toArray, List.set_cons_zero, List.set_cons_succ]; refine hK _ ?_; clear hK K
    (repeat (first | (refine seq_skip (by rfl) ?_; intro K hK; simp only [Act.put, List.setIfInBounds_toArray, List.set_cons_zero, List.set_cons_succ]; refine hK _ ?_; clear hK K) | (refine seq_skipc (by rfl) ?_; intro K hK; simp only [Act.put, List.setIfInBounds_toArray, List.set_cons_zero, List.set_cons_succ]; refine hK _ ?_; clear hK K) | (refine seq_read (by rfl) (by rfl) ?_; intro K hK; go_big_quiet_op; first | go_big_quiet_on | (refine ⟨_, fun _ _ => rfl, ?_⟩; go_big_quiet_on))))
    refine seq_value (.int .i64 f.l) (by rfl) (fun x hx => by have hq := ext_cell hx (h2.en_l); simp [go_sem, execOp, Act.eval, hq]) ?_; intro K hK; simp only [Act.put, List.setIfInBounds_toArray, List.set_cons_zero, List.set_cons_succ]; refine hK _ ?_; clear hK K
    (repeat (first | (refine seq_skip (by rfl) ?_; intro K hK; simp only [Act.put, List.setIfInBounds_toArray, List.set_cons_zero, List.set_cons_succ]; refine hK _ ?_; clear hK K) | (refine seq_skipc (by rfl) ?_; intro K hK; simp only [Act.put, List.setIfInBounds_toArray, List.set_cons_zero, List.set_cons_succ]; refine hK _ ?_; clear hK K) | (refine seq_read (by rfl) (by rfl) ?_; intro K hK; go_big_quiet_op; first | go_big_quiet_on | (refine ⟨_, fun _ _ => rfl, ?_⟩; go_big_quiet_on))))
  · refine seq_done ?_
    have x3 := h1.en_l
    clear hos cov
    go_wp2_with ((refine wpList_load_blk (by rfl) 30 _ rfl rfl (by first | exact h1 | exact h2) Tryd.underlying30 rfl (by kernel_rfl) ?_)); refine (cpg _).mono ?_; rintro e w' ⟨rfl, rfl⟩; (try replace h1 := h1.ext hE); (try replace h2 := h2.ext hE); (try replace HT := Lib.hid (HT.out.ext hE)); (try replace HE := Lib.hid (HE.out.trans hE))
    clear cpg
    have x4 := h1.en_vp
    go_wp2_with fail; refine (cof0 _).mono ?_; rintro e w' ⟨rfl, hE⟩; (try replace h1 := h1.ext hE); (try replace h2 := h2.ext hE); (try replace HT := Lib.hid (HT.out.ext hE)); (try replace HE := Lib.hid (HE.out.trans hE))
    clear hE cof0 x4
    have x4 := h1.en_vp
    go_wp2_with fail; refine (cof1 _).mono ?_; rintro e w' ⟨rfl, hE⟩; (try replace h1 := h1.ext hE); (try replace h2 := h2.ext hE); (try replace HT := Lib.hid (HT.out.ext hE)); (try replace HE := Lib.hid (HE.out.trans hE))
    clear hE cof1 x4
    have x4 := h1.en_vp
    go_wp2_with fail; refine (cof2 _).mono ?_; rintro e w' ⟨rfl, hE⟩; (try replace h1 := h1.ext hE); (try replace h2 := h2.ext hE); (try replace HT := Lib.hid (HT.out.ext hE)); (try replace HE := Lib.hid (HE.out.trans hE))
    clear hE cof2 x4
    have x4 := h1.en_vp
    go_wp2_with fail; refine (cof3 _).mono ?_; rintro e w' ⟨rfl, hE⟩; (try replace h1 := h1.ext hE); (try replace h2 := h2.ext hE); (try replace HT := Lib.hid (HT.out.ext hE)); (try replace HE := Lib.hid (HE.out.trans hE))
    clear hE cof3 x4
    go_wp2_with fail
    (try replace h1 := Blk.drew h1); (try replace h2 := Blk.drew h2); replace HE := Lib.hid HE.out.drew
    replace HT := Lib.hid (HT.out.ext (Ext.refl _).drew)
    refine wp_region_seq [(0, false), (1, false), (2, true), (3, false), (4, false), (5, false), (6, true), (7, false), (8, false), (9, false), (10, false), (11, true), (12, false), (13, false), (14, false), (15, false), (16, false), (17, true), (18, false), (19, false), (20, false), (21, false), (22, false), (24, false), (25, false), (26, false), (23, true), (27, false), (28, false), (29, false), (30, false), (31, false), (33, false), (34, false), (35, false), (36, false), (37, false), (38, false), (32, true), (39, false), (40, false), (41, false)] Ext (by kernel_rfl) (by kernel_rfl) Ext.refl (fun _ _ _ => Ext.trans) ?_; simp only [List.map, nth_z, nth_s]
    (try simp only [Act.put, List.setIfInBounds_toArray, List.set_cons_zero, List.set_cons_succ])
    refine seq_load rfl rfl (fun x hx => Blk.ext (h1) hx) rfl Tryd.underlying30 (by kernel_rfl) (by rfl) ?_; intro K hK; simp only [Act.put, List.setIfInBounds_toArray, List.set_cons_zero, List.set_cons_succ]; refine hK _ ?_; clear hK K
    (repeat (first | (refine seq_skip (by rfl) ?_; intro K hK; simp only [Act.put, List.setIfInBounds_toArray, List.set_cons_zero, List.set_cons_succ]; refine hK _ ?_; clear hK K) | (refine seq_skipc (by rfl) ?_; intro K hK; simp only [Act.put, List.setIfInBounds_toArray, List.set_cons_zero, List.set_cons_succ]; refine hK _ ?_; clear hK K) | (refine seq_read (by rfl) (by rfl) ?_; intro K hK; go_big_quiet_op; first | go_big_quiet_on | (refine ⟨_, fun _ _ => rfl, ?_⟩; go_big_quiet_on))))
    refine seq_call (cc0 _ HT.out) rfl Tryd.func15 (by kernel_rfl) (by kernel_rfl) (by rfl) (by rfl) ?_; intro K hK; rintro e w' ⟨rfl, hE⟩; refine ⟨_, rfl, hE, ?_⟩; simp only [Act.put, List.setIfInBounds_toArray, List.set_cons_zero, List.set_cons_succ]; refine hK _ _ ?_; clear hK K; (try replace h1 := h1.ext hE); (try replace h2 := h2.ext hE); (try replace HT := Lib.hid (HT.out.ext hE)); (try replace HE := Lib.hid (HE.out.trans hE))
    clear hE cc0
    (repeat (first | (refine seq_skip (by rfl) ?_; intro K hK; simp only [Act.put, List.setIfInBounds_toArray, List.set_cons_zero, List.set_cons_succ]; refine hK _ ?_; clear hK K) | (refine seq_skipc (by rfl) ?_; intro K hK; simp only [Act.put, List.setIfInBounds_toArray, List.set_cons_zero, List.set_cons_succ]; refine hK _ ?_; clear hK K) | (refine seq_read (by rfl) (by rfl) ?_; intro K hK; go_big_quiet_op; first | go_big_quiet_on | (refine ⟨_, fun _ _ => rfl, ?_⟩; go_big_quiet_on))))
    refine seq_load rfl rfl (fun x hx => Blk.ext (h1) hx) rfl Tryd.underlying30 (by kernel_rfl) (by rfl) ?_; intro K hK; simp only [Act.put, List.setIfInBounds_toArray, List.set_cons_zero, List.set_cons_succ]; refine hK _ ?_; clear hK K
    (repeat (first | (refine seq_skip (by rfl) ?_; intro K hK; simp only [Act.put, List.setIfInBounds_toArray, List.set_cons_zero, List.set_cons_succ]; refine hK _ ?_; clear hK K) | (refine seq_skipc (by rfl) ?_; intro K hK; simp only [Act.put, List.setIfInBounds_toArray, List.set_cons_zero, List.set_cons_succ]; refine hK _ ?_; clear hK K) | (refine seq_read (by rfl) (by rfl) ?_; intro K hK; go_big_quiet_op; first | go_big_quiet_on | (refine ⟨_, fun _ _ => rfl, ?_⟩; go_big_quiet_on))))
    refine seq_call (cc1 _ HT.out) rfl Tryd.func15 (by kernel_rfl) (by kernel_rfl) (by rfl) (by rfl) ?_; intro K hK; rintro e w' ⟨rfl, hE⟩; refine ⟨_, rfl, hE, ?_⟩; simp only [Act.put, List.setIfInBounds_toArray, List.set_cons_zero, List.set_cons_succ]; refine hK _ _ ?_; clear hK K; (try replace h1 := h1.ext hE); (try replace h2 := h2.ext hE); (try replace HT := Lib.hid (HT.out.ext hE)); (try replace HE := Lib.hid (HE.out.trans hE))
    clear hE cc1
    (repeat (first | (refine seq_skip (by rfl) ?_; intro K hK; simp only [Act.put, List.setIfInBounds_toArray, List.set_cons_zero, List.set_cons_succ]; refine hK _ ?_; clear hK K) | (refine seq_skipc (by rfl) ?_; intro K hK; simp only [Act.put, List.setIfInBounds_toArray, List.set_cons_zero, List.set_cons_succ]; refine hK _ ?_; clear hK K) | (refine seq_read (by rfl) (by rfl) ?_; intro K hK; go_big_quiet_op; first | go_big_quiet_on | (refine ⟨_, fun _ _ => rfl, ?_⟩; go_big_quiet_on))))
    refine seq_load rfl rfl (fun x hx => Blk.ext (h1) hx) rfl Tryd.underlying30 (by kernel_rfl) (by rfl) ?_; intro K hK; simp only [Act.put, List.setIfInBounds_toArray, List.set_cons_zero, List.set_cons_succ]; refine hK _ ?_; clear hK K
    (repeat (first | (refine seq_skip (by rfl) ?_; intro K hK; simp only [Act.put, List.setIfInBounds_toArray, List.set_cons_zero, List.set_cons_succ]; refine hK _ ?_; clear hK K) | (refine seq_skipc (by rfl) ?_; intro K hK; simp only [Act.put, List.setIfInBounds_toArray, List.set_cons_zero, List.set_cons_succ]; refine hK _ ?_; clear hK K) | (refine seq_read (by rfl) (by rfl) ?_; intro K hK; go_big_quiet_op; first | go_big_quiet_on | (refine ⟨_, fun _ _ => rfl, ?_⟩; go_big_quiet_on))))
    refine seq_call (cc2 _ HT.out) rfl Tryd.func15 (by kernel_rfl) (by kernel_rfl) (by rfl) (by rfl) ?_; intro K hK; rintro e w' ⟨rfl, hE⟩; refine ⟨_, rfl, hE, ?_⟩; simp only [Act.put, List.setIfInBounds_toArray, List.set_cons_zero, List.set_cons_succ]; refine hK _ _ ?_; clear hK K; (try replace h1 := h1.ext hE); (try replace h2 := h2.ext hE); (try replace HT := Lib.hid (HT.out.ext hE)); (try replace HE := Lib.hid (HE.out.trans hE))
    clear hE cc2
    (repeat (first | (refine seq_skip (by rfl) ?_; intro K hK; simp only [Act.put, List.setIfInBounds_toArray, List.set_cons_zero, List.set_cons_succ]; refine hK _ ?_; clear hK K) | (refine seq_skipc (by rfl) ?_; intro K hK; simp only [Act.put, List.setIfInBounds_toArray, List.set_cons_zero, List.set_cons_succ]; refine hK _ ?_; clear hK K) | (refine seq_read (by rfl) (by rfl) ?_; intro K hK; go_big_quiet_op; first | go_big_quiet_on | (refine ⟨_, fun _ _ => rfl, ?_⟩; go_big_quiet_on))))
    refine seq_load rfl rfl (fun x hx => Blk.ext (h1) hx) rfl Tryd.underlying30 (by kernel_rfl) (by rfl) ?_; intro K hK; simp only [Act.put, List.setIfInBounds_toArray, List.set_cons_zero, List.set_cons_succ]; refine hK _ ?_; clear hK K
    (repeat (first | (refine seq_skip (by rfl) ?_; intro K hK; simp only [Act.put, List.setIfInBounds_toArray, List.set_cons_zero, List.set_cons_succ]; refine hK _ ?_; clear hK K) | (refine seq_skipc (by rfl) ?_; intro K hK; simp only [Act.put, List.setIfInBounds_toArray, List.set_cons_zero, List.set_cons_succ]; refine hK _ ?_; clear hK K) | (refine seq_read (by rfl) (by rfl) ?_; intro K hK; go_big_quiet_op; first | go_big_quiet_on | (refine ⟨_, fun _ _ => rfl, ?_⟩; go_big_quiet_on))))
    refine seq_call (cc3 _ HT.out) rfl Tryd.func15 (by kernel_rfl) (by kernel_rfl) (by rfl) (by rfl) ?_; intro K hK; rintro e w' ⟨rfl, hE⟩; refine ⟨_, rfl, hE, ?_⟩; simp only [Act.put, List.setIfInBounds_toArray, List.set_cons_zero, List.set_cons_succ]; refine hK _ _ ?_; clear hK K; (try replace h1 := h1.ext hE); (try replace h2 := h2.ext hE); (try replace HT := Lib.hid (HT.out.ext hE)); (try replace HE := Lib.hid (HE.out.trans hE))
    clear hE cc3
    (repeat (first | (refine seq_skip (by rfl) ?_; intro K hK; simp only [Act.put, List.setIfInBounds_toArray, List.set_cons_zero, List.set_cons_succ]; refine hK _ ?_; clear hK K) | (refine seq_skipc (by rfl) ?_; intro K hK; simp only [Act.put, List.setIfInBounds_toArray, List.set_cons_zero, List.set_cons_succ]; refine hK _ ?_; clear hK K) | (refine seq_read (by rfl) (by rfl) ?_; intro K hK; go_big_quiet_op; first | go_big_quiet_on | (refine ⟨_, fun _ _ => rfl, ?_⟩; go_big_quiet_on))))
    refine seq_load rfl rfl (fun x hx => Blk.ext (h1) hx) rfl Tryd.underlying30 (by kernel_rfl) (by rfl) ?_; intro K hK; simp only [Act.put, List.setIfInBounds_toArray, List.set_cons_zero, List.set_cons_succ]; refine hK _ ?_; clear hK K
    (repeat (first | (refine seq_skip (by rfl) ?_; intro K hK; simp only [Act.put, List.setIfInBounds_toArray, List.set_cons_zero, List.set_cons_succ]; refine hK _ ?_; clear hK K) | (refine seq_skipc (by rfl) ?_; intro K hK; simp only [Act.put, List.setIfInBounds_toArray, List.set_cons_zero, List.set_cons_succ]; refine hK _ ?_; clear hK K) | (refine seq_read (by rfl) (by rfl) ?_; intro K hK; go_big_quiet_op; first | go_big_quiet_on | (refine ⟨_, fun _ _ => rfl, ?_⟩; go_big_quiet_on))))
    refine seq_value (.int .u64 (e.pp : Int)) (by rfl) (fun x hx => by have hq := ext_cell hx (h1.en_pp); simp [go_sem, execOp, Act.eval, hq]) ?_; intro K hK; simp only [Act.put, List.setIfInBounds_toArray, List.set_cons_zero, List.set_cons_succ]; refine hK _ ?_; clear hK K
    (repeat (first | (refine seq_skip (by rfl) ?_; intro K hK; simp only [Act.put, List.setIfInBounds_toArray, List.set_cons_zero, List.set_cons_succ]; refine hK _ ?_; clear hK K) | (refine seq_skipc (by rfl) ?_; intro K hK; simp only [Act.put, List.setIfInBounds_toArray, List.set_cons_zero, List.set_cons_succ]; refine hK _ ?_; clear hK K) | (refine seq_read (by rfl) (by rfl) ?_; intro K hK; go_big_quiet_op; first | go_big_quiet_on | (refine ⟨_, fun _ _ => rfl, ?_⟩; go_big_quiet_on))))
    refine seq_call (cp0 _ HT.out) rfl Tryd.func21 (by kernel_rfl) (by kernel_rfl) (by rfl) (by rfl) ?_; intro K hK; rintro e w' ⟨rfl, hE⟩; refine ⟨_, rfl, hE, ?_⟩; simp only [Act.put, List.setIfInBounds_toArray, List.set_cons_zero, List.set_cons_succ]; refine hK _ _ ?_; clear hK K; (try replace h1 := h1.ext hE); (try replace h2 := h2.ext hE); (try replace HT := Lib.hid (HT.out.ext hE)); (try replace HE := Lib.hid (HE.out.trans hE))
    clear hE cp0
    (repeat (first | (refine seq_skip (by rfl) ?_; intro K hK; simp only [Act.put, List.setIfInBounds_toArray, List.set_cons_zero, List.set_cons_succ]; refine hK _ ?_; clear hK K) | (refine seq_skipc (by rfl) ?_; intro K hK; simp only [Act.put, List.setIfInBounds_toArray, List.set_cons_zero, List.set_cons_succ]; refine hK _ ?_; clear hK K) | (refine seq_read (by rfl) (by rfl) ?_; intro K hK; go_big_quiet_op; first | go_big_quiet_on | (refine ⟨_, fun _ _ => rfl, ?_⟩; go_big_quiet_on))))
    refine seq_load rfl rfl (fun x hx => Blk.ext (h1) hx) rfl Tryd.underlying30 (by kernel_rfl) (by rfl) ?_; intro K hK; simp only [Act.put, List.setIfInBounds_toArray, List.set_cons_zero, List.set_cons_succ]; refine hK _ ?_; clear hK K
    (repeat (first | (refine seq_skip (by rfl) ?_; intro K hK; simp only [Act.put, List.setIfInBounds_toArray, List.set_cons_zero, List.set_cons_succ]; refine hK _ ?_; clear hK K) | (refine seq_skipc (by rfl) ?_; intro K hK; simp only [Act.put, List.setIfInBounds_toArray, List.set_cons_zero, List.set_cons_succ]; refine hK _ ?_; clear hK K) | (refine seq_read (by rfl) (by rfl) ?_; intro K hK; go_big_quiet_op; first | go_big_quiet_on | (refine ⟨_, fun _ _ => rfl, ?_⟩; go_big_quiet_on))))
    refine seq_value (.int .u64 (e.pp : Int)) (by rfl) (fun x hx => by have hq := ext_cell hx (h1.en_pp); simp [go_sem, execOp, Act.eval, hq]) ?_; intro K hK; simp only [Act.put, List.setIfInBounds_toArray, List.set_cons_zero, List.set_cons_succ]; refine hK _ ?_; clear hK K
    (repeat (first | (refine seq_skip (by rfl) ?_; intro K hK; simp only [Act.put, List.setIfInBounds_toArray, List.set_cons_zero, List.set_cons_succ]; refine hK _ ?_; clear hK K) | (refine seq_skipc (by rfl) ?_; intro K hK; simp only [Act.put, List.setIfInBounds_toArray, List.set_cons_zero, List.set_cons_succ]; refine hK _ ?_; clear hK K) | (refine seq_read (by rfl) (by rfl) ?_; intro K hK; go_big_quiet_op; first | go_big_quiet_on | (refine ⟨_, fun _ _ => rfl, ?_⟩; go_big_quiet_on))))
    refine seq_call (cp1 _ HT.out) rfl Tryd.func21 (by kernel_rfl) (by kernel_rfl) (by rfl) (by rfl) ?_; intro K hK; rintro e w' ⟨rfl, hE⟩; refine ⟨_, rfl, hE, ?_⟩; simp only [Act.put, List.setIfInBounds_toArray, List.set_cons_zero, List.set_cons_succ]; refine hK _ _ ?_; clear hK K; (try replace h1 := h1.ext hE); (try replace h2 := h2.ext hE); (try replace HT := Lib.hid (HT.out.ext hE)); (try replace HE := Lib.hid (HE.out.trans hE))
    clear hE cp1
    (repeat (first | (refine seq_skip (by rfl) ?_; intro K hK; simp only [Act.put, List.setIfInBounds_toArray, List.set_cons_zero, List.set_cons_succ]; refine hK _ ?_; clear hK K) | (refine seq_skipc (by rfl) ?_; intro K hK; simp only [Act.put, List.setIfInBounds_toArray, List.set_cons_zero, List.set_cons_succ]; refine hK _ ?_; clear hK K) | (refine seq_read (by rfl) (by rfl) ?_; intro K hK; go_big_quiet_op; first | go_big_quiet_on | (refine ⟨_, fun _ _ => rfl, ?_⟩; go_big_quiet_on))))
    refine seq_done ?_
    go_wp2
    go_ret
    exact ⟨rfl, HE.out⟩
  · have hl : e.l = f.l := by simpa using hlv
    rw [hos hl] at cov
    clear hos hl
    refine seq_load rfl rfl (fun x hx => Blk.ext (h1) hx) rfl Tryd.underlying30 (by kernel_rfl) (by rfl) ?_; intro K hK; simp only [Act.put, List.setIfInBounds_toArray, List.set_cons_zero, List.set_cons_succ]; refine hK _ ?_; clear hK K
    refine seq_load rfl rfl (fun x hx => Blk.ext (h2) hx) rfl Tryd.underlying30 (by kernel_rfl) (by rfl) ?_; intro K hK; simp only [Act.put, List.setIfInBounds_toArray, List.set_cons_zero, List.set_cons_succ]; refine hK _ ?_; clear hK K
    (repeat (first | (refine seq_skip (by rfl) ?_; intro K hK; simp only [Act.put, List.setIfInBounds_toArray, List.set_cons_zero, List.set_cons_succ]; refine hK _ ?_; clear hK K) | (refine seq_skipc (by rfl) ?_; intro K hK; simp only [Act.put, List.setIfInBounds_toArray, List.set_cons_zero, List.set_cons_succ]; refine hK _ ?_; clear hK K) | (refine seq_read (by rfl) (by rfl) ?_; intro K hK; go_big_quiet_op; first | go_big_quiet_on | (refine ⟨_, fun _ _ => rfl, ?_⟩; go_big_quiet_on))))
    refine seq_value (.int .u64 (e.vp : Int)) (by rfl) (fun x hx => by have hq := ext_cell hx (h1.en_vp); simp [go_sem, execOp, Act.eval, hq]) ?_; intro K hK; simp only [Act.put, List.setIfInBounds_toArray, List.set_cons_zero, List.set_cons_succ]; refine hK _ ?_; clear hK K
    (repeat (first | (refine seq_skip (by rfl) ?_; intro K hK; simp only [Act.put, List.setIfInBounds_toArray, List.set_cons_zero, List.set_cons_succ]; refine hK _ ?_; clear hK K) | (refine seq_skipc (by rfl) ?_; intro K hK; simp only [Act.put, List.setIfInBounds_toArray, List.set_cons_zero, List.set_cons_succ]; refine hK _ ?_; clear hK K) | (refine seq_read (by rfl) (by rfl) ?_; intro K hK; go_big_quiet_op; first | go_big_quiet_on | (refine ⟨_, fun _ _ => rfl, ?_⟩; go_big_quiet_on))))
    refine seq_value (.int .u64 (f.vp : Int)) (by rfl) (fun x hx => by have hq := ext_cell hx (h2.en_vp); simp [go_sem, execOp, Act.eval, hq]) ?_; intro K hK; simp only [Act.put, List.setIfInBounds_toArray, List.set_cons_zero, List.set_cons_succ]; refine hK _ ?_; clear hK K
    (repeat (first | (refine seq_skip (by rfl) ?_; intro K hK; simp only [Act.put, List.setIfInBounds_toArray, List.set_cons_zero, List.set_cons_succ]; refine hK _ ?_; clear hK K) | (refine seq_skipc (by rfl) ?_; intro K hK; simp only [Act.put, List.setIfInBounds_toArray, List.set_cons_zero, List.set_cons_succ]; refine hK _ ?_; clear hK K) | (refine seq_read (by rfl) (by rfl) ?_; intro K hK; go_big_quiet_op; first | go_big_quiet_on | (refine ⟨_, fun _ _ => rfl, ?_⟩; go_big_quiet_on))))
    refine seq_call (cov _ HT.out) rfl Tryd.func19 (by kernel_rfl) (by kernel_rfl) (by rfl) (by rfl) ?_; intro K hK; rintro e w' ⟨rfl, hE⟩; refine ⟨_, rfl, hE, ?_⟩; simp only [Act.put, List.setIfInBounds_toArray, List.set_cons_zero, List.set_cons_succ]; refine hK _ _ ?_; clear hK K; (try replace h1 := h1.ext hE); (try replace h2 := h2.ext hE); (try replace HT := Lib.hid (HT.out.ext hE)); (try replace HE := Lib.hid (HE.out.trans hE))
    clear hE cov
    (repeat (first | (refine seq_skip (by rfl) ?_; intro K hK; simp only [Act.put, List.setIfInBounds_toArray, List.set_cons_zero, List.set_cons_succ]; refine hK _ ?_; clear hK K) | (refine seq_skipc (by rfl) ?_; intro K hK; simp only [Act.put, List.setIfInBounds_toArray, List.set_cons_zero, List.set_cons_succ]; refine hK _ ?_; clear hK K) | (refine seq_read (by rfl) (by rfl) ?_; intro K hK; go_big_quiet_op; first | go_big_quiet_on | (refine ⟨_, fun _ _ => rfl, ?_⟩; go_big_quiet_on))))
    refine seq_done ?_
    have x3 := h1.en_l
    go_wp2_with ((refine wpList_load_blk (by rfl) 30 _ rfl rfl (by first | exact h1 | exact h2) Tryd.underlying30 rfl (by kernel_rfl) ?_)); refine (cpg _).mono ?_; rintro e w' ⟨rfl, rfl⟩; (try replace h1 := h1.ext hE); (try replace h2 := h2.ext hE); (try replace HT := Lib.hid (HT.out.ext hE)); (try replace HE := Lib.hid (HE.out.trans hE))
    clear cpg
    have x4 := h1.en_vp
    go_wp2_with fail; refine (cof0 _).mono ?_; rintro e w' ⟨rfl, hE⟩; (try replace h1 := h1.ext hE); (try replace h2 := h2.ext hE); (try replace HT := Lib.hid (HT.out.ext hE)); (try replace HE := Lib.hid (HE.out.trans hE))
    clear hE cof0 x4
    have x4 := h1.en_vp
    go_wp2_with fail; refine (cof1 _).mono ?_; rintro e w' ⟨rfl, hE⟩; (try replace h1 := h1.ext hE); (try replace h2 := h2.ext hE); (try replace HT := Lib.hid (HT.out.ext hE)); (try replace HE := Lib.hid (HE.out.trans hE))
    clear hE cof1 x4
    have x4 := h1.en_vp
    go_wp2_with fail; refine (cof2 _).mono ?_; rintro e w' ⟨rfl, hE⟩; (try replace h1 := h1.ext hE); (try replace h2 := h2.ext hE); (try replace HT := Lib.hid (HT.out.ext hE)); (try replace HE := Lib.hid (HE.out.trans hE))
    clear hE cof2 x4
    have x4 := h1.en_vp
    go_wp2_with fail; refine (cof3 _).mono ?_; rintro e w' ⟨rfl, hE⟩; (try replace h1 := h1.ext hE); (try replace h2 := h2.ext hE); (try replace HT := Lib.hid (HT.out.ext hE)); (try replace HE := Lib.hid (HE.out.trans hE))
    clear hE cof3 x4
    go_wp2_with fail
    (try replace h1 := Blk.drew h1); (try replace h2 := Blk.drew h2); replace HE := Lib.hid HE.out.drew
    replace HT := Lib.hid (HT.out.ext (Ext.refl _).drew)
    refine wp_region_seq [(0, false), (1, false), (2, true), (3, false), (4, false), (5, false), (6, true), (7, false), (8, false), (9, false), (10, false), (11, true), (12, false), (13, false), (14, false), (15, false), (16, false), (17, true), (18, false), (19, false), (20, false), (21, false), (22, false), (24, false), (25, false), (26, false), (23, true), (27, false), (28, false), (29, false), (30, false), (31, false), (33, false), (34, false), (35, false), (36, false), (37, false), (38, false), (32, true), (39, false), (40, false), (41, false)] Ext (by kernel_rfl) (by kernel_rfl) Ext.refl (fun _ _ _ => Ext.trans) ?_; simp only [List.map, nth_z, nth_s]
    (try simp only [Act.put, List.setIfInBounds_toArray, List.set_cons_zero, List.set_cons_succ])
    refine seq_load rfl rfl (fun x hx => Blk.ext (h1) hx) rfl Tryd.underlying30 (by kernel_rfl) (by rfl) ?_; intro K hK; simp only [Act.put, List.setIfInBounds_toArray, List.set_cons_zero, List.set_cons_succ]; refine hK _ ?_; clear hK K
    (repeat (first | (refine seq_skip (by rfl) ?_; intro K hK; simp only [Act.put, List.setIfInBounds_toArray, List.set_cons_zero, List.set_cons_succ]; refine hK _ ?_; clear hK K) | (refine seq_skipc (by rfl) ?_; intro K hK; simp only [Act.put, List.setIfInBounds_toArray, List.set_cons_zero, List.set_cons_succ]; refine hK _ ?_; clear hK K) | (refine seq_read (by rfl) (by rfl) ?_; intro K hK; go_big_quiet_op; first | go_big_quiet_on | (refine ⟨_, fun _ _ => rfl, ?_⟩; go_big_quiet_on))))
    refine seq_call (cc0 _ HT.out) rfl Tryd.func15 (by kernel_rfl) (by kernel_rfl) (by rfl) (by rfl) ?_; intro K hK; rintro e w' ⟨rfl, hE⟩; refine ⟨_, rfl, hE, ?_⟩; simp only [Act.put, List.setIfInBounds_toArray, List.set_cons_zero, List.set_cons_succ]; refine hK _ _ ?_; clear hK K; (try replace h1 := h1.ext hE); (try replace h2 := h2.ext hE); (try replace HT := Lib.hid (HT.out.ext hE)); (try replace HE := Lib.hid (HE.out.trans hE))
    clear hE cc0
    (repeat (first | (refine seq_skip (by rfl) ?_; intro K hK; simp only [Act.put, List.setIfInBounds_toArray, List.set_cons_zero, List.set_cons_succ]; refine hK _ ?_; clear hK K) | (refine seq_skipc (by rfl) ?_; intro K hK; simp only [Act.put, List.setIfInBounds_toArray, List.set_cons_zero, List.set_cons_succ]; refine hK _ ?_; clear hK K) | (refine seq_read (by rfl) (by rfl) ?_; intro K hK; go_big_quiet_op; first | go_big_quiet_on | (refine ⟨_, fun _ _ => rfl, ?_⟩; go_big_quiet_on))))
    refine seq_load rfl rfl (fun x hx => Blk.ext (h1) hx) rfl Tryd.underlying30 (by kernel_rfl) (by rfl) ?_; intro K hK; simp only [Act.put, List.setIfInBounds_toArray, List.set_cons_zero, List.set_cons_succ]; refine hK _ ?_; clear hK K
    (repeat (first | (refine seq_skip (by rfl) ?_; intro K hK; simp only [Act.put, List.setIfInBounds_toArray, List.set_cons_zero, List.set_cons_succ]; refine hK _ ?_; clear hK K) | (refine seq_skipc (by rfl) ?_; intro K hK; simp only [Act.put, List.setIfInBounds_toArray, List.set_cons_zero, List.set_cons_succ]; refine hK _ ?_; clear hK K) | (refine seq_read (by rfl) (by rfl) ?_; intro K hK; go_big_quiet_op; first | go_big_quiet_on | (refine ⟨_, fun _ _ => rfl, ?_⟩; go_big_quiet_on))))
    refine seq_call (cc1 _ HT.out) rfl Tryd.func15 (by kernel_rfl) (by kernel_rfl) (by rfl) (by rfl) ?_; intro K hK; rintro e w' ⟨rfl, hE⟩; refine ⟨_, rfl, hE, ?_⟩; simp only [Act.put, List.setIfInBounds_toArray, List.set_cons_zero, List.set_cons_succ]; refine hK _ _ ?_; clear hK K; (try replace h1 := h1.ext hE); (try replace h2 := h2.ext hE); (try replace HT := Lib.hid (HT.out.ext hE)); (try replace HE := Lib.hid (HE.out.trans hE))
    clear hE cc1
    (repeat (first | (refine seq_skip (by rfl) ?_; intro K hK; simp only [Act.put, List.setIfInBounds_toArray, List.set_cons_zero, List.set_cons_succ]; refine hK _ ?_; clear hK K) | (refine seq_skipc (by rfl) ?_; intro K hK; simp only [Act.put, List.setIfInBounds_toArray, List.set_cons_zero, List.set_cons_succ]; refine hK _ ?_; clear hK K) | (refine seq_read (by rfl) (by rfl) ?_; intro K hK; go_big_quiet_op; first | go_big_quiet_on | (refine ⟨_, fun _ _ => rfl, ?_⟩; go_big_quiet_on))))
    refine seq_load rfl rfl (fun x hx => Blk.ext (h1) hx) rfl Tryd.underlying30 (by kernel_rfl) (by rfl) ?_; intro K hK; simp only [Act.put, List.setIfInBounds_toArray, List.set_cons_zero, List.set_cons_succ]; refine hK _ ?_; clear hK K
    (repeat (first | (refine seq_skip (by rfl) ?_; intro K hK; simp only [Act.put, List.setIfInBounds_toArray, List.set_cons_zero, List.set_cons_succ]; refine hK _ ?_; clear hK K) | (refine seq_skipc (by rfl) ?_; intro K hK; simp only [Act.put, List.setIfInBounds_toArray, List.set_cons_zero, List.set_cons_succ]; refine hK _ ?_; clear hK K) | (refine seq_read (by rfl) (by rfl) ?_; intro K hK; go_big_quiet_op; first | go_big_quiet_on | (refine ⟨_, fun _ _ => rfl, ?_⟩; go_big_quiet_on))))
    refine seq_call (cc2 _ HT.out) rfl Tryd.func15 (by kernel_rfl) (by kernel_rfl) (by rfl) (by rfl) ?_; intro K hK; rintro e w' ⟨rfl, hE⟩; refine ⟨_, rfl, hE, ?_⟩; simp only [Act.put, List.setIfInBounds_toArray, List.set_cons_zero, List.set_cons_succ]; refine hK _ _ ?_; clear hK K; (try replace h1 := h1.ext hE); (try replace h2 := h2.ext hE); (try replace HT := Lib.hid (HT.out.ext hE)); (try replace HE := Lib.hid (HE.out.trans hE))
    clear hE cc2
    (repeat (first | (refine seq_skip (by rfl) ?_; intro K hK; simp only [Act.put, List.setIfInBounds_toArray, List.set_cons_zero, List.set_cons_succ]; refine hK _ ?_; clear hK K) | (refine seq_skipc (by rfl) ?_; intro K hK; simp only [Act.put, List.setIfInBounds_toArray, List.set_cons_zero, List.set_cons_succ]; refine hK _ ?_; clear hK K) | (refine seq_read (by rfl) (by rfl) ?_; intro K hK; go_big_quiet_op; first | go_big_quiet_on | (refine ⟨_, fun _ _ => rfl, ?_⟩; go_big_quiet_on))))
    refine seq_load rfl rfl (fun x hx => Blk.ext (h1) hx) rfl Tryd.underlying30 (by kernel_rfl) (by rfl) ?_; intro K hK; simp only [Act.put, List.setIfInBounds_toArray, List.set_cons_zero, List.set_cons_succ]; refine hK _ ?_; clear hK K
    (repeat (first | (refine seq_skip (by rfl) ?_; intro K hK; simp only [Act.put, List.setIfInBounds_toArray, List.set_cons_zero, List.set_cons_succ]; refine hK _ ?_; clear hK K) | (refine seq_skipc (by rfl) ?_; intro K hK; simp only [Act.put, List.setIfInBounds_toArray, List.set_cons_zero, List.set_cons_succ]; refine hK _ ?_; clear hK K) | (refine seq_read (by rfl) (by rfl) ?_; intro K hK; go_big_quiet_op; first | go_big_quiet_on | (refine ⟨_, fun _ _ => rfl, ?_⟩; go_big_quiet_on))))
    refine seq_call (cc3 _ HT.out) rfl Tryd.func15 (by kernel_rfl) (by kernel_rfl) (by rfl) (by rfl) ?_; intro K hK; rintro e w' ⟨rfl, hE⟩; refine ⟨_, rfl, hE, ?_⟩; simp only [Act.put, List.setIfInBounds_toArray, List.set_cons_zero, List.set_cons_succ]; refine hK _ _ ?_; clear hK K; (try replace h1 := h1.ext hE); (try replace h2 := h2.ext hE); (try replace HT := Lib.hid (HT.out.ext hE)); (try replace HE := Lib.hid (HE.out.trans hE))
    clear hE cc3
    (repeat (first | (refine seq_skip (by rfl) ?_; intro K hK; simp only [Act.put, List.setIfInBounds_toArray, List.set_cons_zero, List.set_cons_succ]; refine hK _ ?_; clear hK K) | (refine seq_skipc (by rfl) ?_; intro K hK; simp only [Act.put, List.setIfInBounds_toArray, List.set_cons_zero, List.set_cons_succ]; refine hK _ ?_; clear hK K) | (refine seq_read (by rfl) (by rfl) ?_; intro K hK; go_big_quiet_op; first | go_big_quiet_on | (refine ⟨_, fun _ _ => rfl, ?_⟩; go_big_quiet_on))))
    refine seq_load rfl rfl (fun x hx => Blk.ext (h1) hx) rfl Tryd.underlying30 (by kernel_rfl) (by rfl) ?_; intro K hK; simp only [Act.put, List.setIfInBounds_toArray, List.set_cons_zero, List.set_cons_succ]; refine hK _ ?_; clear hK K
    (repeat (first | (refine seq_skip (by rfl) ?_; intro K hK; simp only [Act.put, List.setIfInBounds_toArray, List.set_cons_zero, List.set_cons_succ]; refine hK _ ?_; clear hK K) | (refine seq_skipc (by rfl) ?_; intro K hK; simp only [Act.put, List.setIfInBounds_toArray, List.set_cons_zero, List.set_cons_succ]; refine hK _ ?_; clear hK K) | (refine seq_read (by rfl) (by rfl) ?_; intro K hK; go_big_quiet_op; first | go_big_quiet_on | (refine ⟨_, fun _ _ => rfl, ?_⟩; go_big_quiet_on))))
    refine seq_value (.int .u64 (e.pp : Int)) (by rfl) (fun x hx => by have hq := ext_cell hx (h1.en_pp); simp [go_sem, execOp, Act.eval, hq]) ?_; intro K hK; simp only [Act.put, List.setIfInBounds_toArray, List.set_cons_zero, List.set_cons_succ]; refine hK _ ?_; clear hK K
    (repeat (first | (refine seq_skip (by rfl) ?_; intro K hK; simp only [Act.put, List.setIfInBounds_toArray, List.set_cons_zero, List.set_cons_succ]; refine hK _ ?_; clear hK K) | (refine seq_skipc (by rfl) ?_; intro K hK; simp only [Act.put, List.setIfInBounds_toArray, List.set_cons_zero, List.set_cons_succ]; refine hK _ ?_; clear hK K) | (refine seq_read (by rfl) (by rfl) ?_; intro K hK; go_big_quiet_op; first | go_big_quiet_on | (refine ⟨_, fun _ _ => rfl, ?_⟩; go_big_quiet_on))))
    refine seq_call (cp0 _ HT.out) rfl Tryd.func21 (by kernel_rfl) (by kernel_rfl) (by rfl) (by rfl) ?_; intro K hK; rintro e w' ⟨rfl, hE⟩; refine ⟨_, rfl, hE, ?_⟩; simp only [Act.put, List.setIfInBounds_toArray, List.set_cons_zero, List.set_cons_succ]; refine hK _ _ ?_; clear hK K; (try replace h1 := h1.ext hE); (try replace h2 := h2.ext hE); (try replace HT := Lib.hid (HT.out.ext hE)); (try replace HE := Lib.hid (HE.out.trans hE))
    clear hE cp0
    (repeat (first | (refine seq_skip (by rfl) ?_; intro K hK; simp only [Act.put, List.setIfInBounds_toArray, List.set_cons_zero, List.set_cons_succ]; refine hK _ ?_; clear hK K) | (refine seq_skipc (by rfl) ?_; intro K hK; simp only [Act.put, List.setIfInBounds_toArray, List.set_cons_zero, List.set_cons_succ]; refine hK _ ?_; clear hK K) | (refine seq_read (by rfl) (by rfl) ?_; intro K hK; go_big_quiet_op; first | go_big_quiet_on | (refine ⟨_, fun _ _ => rfl, ?_⟩; go_big_quiet_on))))
    refine seq_load rfl rfl (fun x hx => Blk.ext (h1) hx) rfl Tryd.underlying30 (by kernel_rfl) (by rfl) ?_; intro K hK; simp only [Act.put, List.setIfInBounds_toArray, List.set_cons_zero, List.set_cons_succ]; refine hK _ ?_; clear hK K
    (repeat (first | (refine seq_skip (by rfl) ?_; intro K hK; simp only [Act.put, List.setIfInBounds_toArray, List.set_cons_zero, List.set_cons_succ]; refine hK _ ?_; clear hK K) | (refine seq_skipc (by rfl) ?_; intro K hK; simp only [Act.put, List.setIfInBounds_toArray, List.set_cons_zero, List.set_cons_succ]; refine hK _ ?_; clear hK K) | (refine seq_read (by rfl) (by rfl) ?_; intro K hK; go_big_quiet_op; first | go_big_quiet_on | (refine ⟨_, fun _ _ => rfl, ?_⟩; go_big_quiet_on))))
    refine seq_value (.int .u64 (e.pp : Int)) (by rfl) (fun x hx => by have hq := ext_cell hx (h1.en_pp); simp [go_sem, execOp, Act.eval, hq]) ?_; intro K hK; simp only [Act.put, List.setIfInBounds_toArray, List.set_cons_zero, List.set_cons_succ]; refine hK _ ?_; clear hK K
    (repeat (first | (refine seq_skip (by rfl) ?_; intro K hK; simp only [Act.put, List.setIfInBounds_toArray, List.set_cons_zero, List.set_cons_succ]; refine hK _ ?_; clear hK K) | (refine seq_skipc (by rfl) ?_; intro K hK; simp only [Act.put, List.setIfInBounds_toArray, List.set_cons_zero, List.set_cons_succ]; refine hK _ ?_; clear hK K) | (refine seq_read (by rfl) (by rfl) ?_; intro K hK; go_big_quiet_op; first | go_big_quiet_on | (refine ⟨_, fun _ _ => rfl, ?_⟩; go_big_quiet_on))))
    refine seq_call (cp1 _ HT.out) rfl Tryd.func21 (by kernel_rfl) (by kernel_rfl) (by rfl) (by rfl) ?_; intro K hK; rintro e w' ⟨rfl, hE⟩; refine ⟨_, rfl, hE, ?_⟩; simp only [Act.put, List.setIfInBounds_toArray, List.set_cons_zero, List.set_cons_succ]; refine hK _ _ ?_; clear hK K; (try replace h1 := h1.ext hE); (try replace h2 := h2.ext hE); (try replace HT := Lib.hid (HT.out.ext hE)); (try replace HE := Lib.hid (HE.out.trans hE))
    clear hE cp1
    (repeat (first | (refine seq_skip (by rfl) ?_; intro K hK; simp only [Act.put, List.setIfInBounds_toArray, List.set_cons_zero, List.set_cons_succ]; refine hK _ ?_; clear hK K) | (refine seq_skipc (by rfl) ?_; intro K hK; simp only [Act.put, List.setIfInBounds_toArray, List.set_cons_zero, List.set_cons_succ]; refine hK _ ?_; clear hK K) | (refine seq_read (by rfl) (by rfl) ?_; intro K hK; go_big_quiet_op; first | go_big_quiet_on | (refine ⟨_, fun _ _ => rfl, ?_⟩; go_big_quiet_on))))
    refine seq_done ?_
    go_wp2
    go_ret
    exact ⟨rfl, HE.out⟩
end Go.Proofs.YtklickoclgjnkaaDoor
