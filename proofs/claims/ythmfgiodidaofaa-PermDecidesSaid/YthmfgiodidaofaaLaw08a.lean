/- Layer 8: awake answers true; PermAsks. -/
import Derived.Test.YthmfgiodidaofaaReight
namespace Go.Proofs.Ythmfgiodidaofaa
open Go.ChangeShapes Go.WideShapes Go.ChangeAt Go.RowKit
set_option linter.unusedVariables false
set_option linter.unusedSimpArgs false

/-! the contracts with the structs' cells written out -/
theorem al8_l (r y x u : Bool) (k v : Int) (s m b : Bool) (h : wyIs ⟨k, v, s, m⟩ = true) (hb : pmAl ⟨r, y, x, u⟩ ⟨k, v, s, m⟩ = b) (w : World) :
    Calls Try.prog 14 #[.agg #[.bool r, .bool y, .bool x, .bool u], .agg #[.int .i64 k, .int .i64 v, .bool s, .bool m]] w fun e w' => e = .returned (.bool b) ∧ Ext w w' := by
  have h := al8_c ⟨r, y, x, u⟩ ⟨k, v, s, m⟩ h w
  rwa [pmC_def, wyC_def, hb] at h
theorem may8_l (r y x u b : Bool) (hb : pmMay ⟨r, y, x, u⟩ = b) (w : World) :
    Calls Try.prog 10 #[.agg #[.bool r, .bool y, .bool x, .bool u]] w fun e w' => e = .returned (.bool b) ∧ Ext w w' := by
  have h := may8_c ⟨r, y, x, u⟩ w
  rwa [pmC_def, hb] at h
theorem less8_l (r y x u r' y' x' u' b : Bool) (hb : pmLess ⟨r, y, x, u⟩ ⟨r', y', x', u'⟩ = b) (w : World) :
    Calls Try.prog 12 #[.agg #[.bool r, .bool y, .bool x, .bool u], .agg #[.bool r', .bool y', .bool x', .bool u']] w fun e w' => e = .returned (.bool b) ∧ Ext w w' := by
  have h := less8_c ⟨r, y, x, u⟩ ⟨r', y', x', u'⟩ w
  rwa [pmC_def, pmC_def, hb] at h
theorem is8_l (k v : Int) (s m b : Bool) (hb : wyIs ⟨k, v, s, m⟩ = b) (w : World) :
    Calls Try.prog 8 #[.agg #[.int .i64 k, .int .i64 v, .bool s, .bool m]] w fun e w' => e = .returned (.bool b) ∧ Ext w w' := by
  have h := is8_c ⟨k, v, s, m⟩ w
  rwa [wyC_def, hb] at h
set_option maxRecDepth 100000 in
set_option maxHeartbeats 2000000 in
theorem awake8_c (w : World) :
    Calls Try.prog 7 #[] w fun e w' => e = .returned (.bool true) ∧ Ext w w' := by
  have HE := Lib.hid ((Ext.refl w).alloc (.cells #[.bool true, .bool true, .bool false, .bool true] 23))
  have hb := Blk.new w 23 #[.bool true, .bool true, .bool false, .bool true]
  go_enter Try.func7, Try.ntmps7
  go_wp2_with (refine wpList_load_blk (by rfl) 23 _ rfl rfl (by assumption) Try.underlying23 rfl (by kernel_rfl) ?_)
  refine (al8_l true true false true 2 0 false false true (by unfold wyIs; rfl) (by unfold pmAl pmAd pmAsk; rfl) _).mono ?_
  rintro e w5 ⟨rfl, hE⟩
  replace HE := Lib.hid (HE.out.trans hE)
  replace hb := hb.ext hE
  clear hE
  go_wp2_with (refine wpList_load_blk (by rfl) 23 _ rfl rfl (by assumption) Try.underlying23 rfl (by kernel_rfl) ?_)
  refine (al8_l true true false true 1 1 false false false (by unfold wyIs; rfl) (by unfold pmAl pmAd pmAsk; rfl) _).mono ?_
  rintro e w5 ⟨rfl, hE⟩
  replace HE := Lib.hid (HE.out.trans hE)
  replace hb := hb.ext hE
  clear hE
  go_wp2_with (refine wpList_load_blk (by rfl) 23 _ rfl rfl (by assumption) Try.underlying23 rfl (by kernel_rfl) ?_)
  refine (al8_l true true false true 1 1 true false true (by unfold wyIs; rfl) (by unfold pmAl pmAd pmAsk; rfl) _).mono ?_
  rintro e w5 ⟨rfl, hE⟩
  replace HE := Lib.hid (HE.out.trans hE)
  replace hb := hb.ext hE
  clear hE
  go_wp2_with (refine wpList_load_blk (by rfl) 23 _ rfl rfl (by assumption) Try.underlying23 rfl (by kernel_rfl) ?_)
  refine (al8_l true true false true 0 0 false false false (by unfold wyIs; rfl) (by unfold pmAl pmAd pmAsk; rfl) _).mono ?_
  rintro e w5 ⟨rfl, hE⟩
  replace HE := Lib.hid (HE.out.trans hE)
  replace hb := hb.ext hE
  clear hE
  go_wp2_with (refine wpList_load_blk (by rfl) 23 _ rfl rfl (by assumption) Try.underlying23 rfl (by kernel_rfl) ?_)
  refine (may8_l true true false true true (by unfold pmMay; rfl) _).mono ?_
  rintro e w5 ⟨rfl, hE⟩
  replace HE := Lib.hid (HE.out.trans hE)
  replace hb := hb.ext hE
  clear hE
  go_wp2_with (refine wpList_load_blk (by rfl) 23 _ rfl rfl (by assumption) Try.underlying23 rfl (by kernel_rfl) ?_)
  refine (may8_l false true true false false (by unfold pmMay; rfl) _).mono ?_
  rintro e w5 ⟨rfl, hE⟩
  replace HE := Lib.hid (HE.out.trans hE)
  replace hb := hb.ext hE
  clear hE
  go_wp2_with (refine wpList_load_blk (by rfl) 23 _ rfl rfl (by assumption) Try.underlying23 rfl (by kernel_rfl) ?_)
  refine (less8_l true false false false true true false true true (by unfold pmLess; rfl) _).mono ?_
  rintro e w5 ⟨rfl, hE⟩
  replace HE := Lib.hid (HE.out.trans hE)
  replace hb := hb.ext hE
  clear hE
  go_wp2_with (refine wpList_load_blk (by rfl) 23 _ rfl rfl (by assumption) Try.underlying23 rfl (by kernel_rfl) ?_)
  refine (less8_l true true false true true true false true false (by unfold pmLess; rfl) _).mono ?_
  rintro e w5 ⟨rfl, hE⟩
  replace HE := Lib.hid (HE.out.trans hE)
  replace hb := hb.ext hE
  clear hE
  go_wp2_with (refine wpList_load_blk (by rfl) 23 _ rfl rfl (by assumption) Try.underlying23 rfl (by kernel_rfl) ?_)
  refine (is8_l 2 1 false false true (by unfold wyIs; rfl) _).mono ?_
  rintro e w5 ⟨rfl, hE⟩
  replace HE := Lib.hid (HE.out.trans hE)
  replace hb := hb.ext hE
  clear hE
  go_wp2_with (refine wpList_load_blk (by rfl) 23 _ rfl rfl (by assumption) Try.underlying23 rfl (by kernel_rfl) ?_)
  refine (is8_l 3 0 false false false (by unfold wyIs; rfl) _).mono ?_
  rintro e w5 ⟨rfl, hE⟩
  replace HE := Lib.hid (HE.out.trans hE)
  replace hb := hb.ext hE
  clear hE
  go_wp2_with (refine wpList_load_blk (by rfl) 23 _ rfl rfl (by assumption) Try.underlying23 rfl (by kernel_rfl) ?_)
  go_ret
  exact ⟨rfl, HE.out⟩

set_option maxRecDepth 100000 in
set_option maxHeartbeats 2000000 in
theorem PermAsks_w (p q : Pm) (y : Wy) (w : World) :
    Calls Try.prog 3 #[.agg (pmC p), .agg (pmC q), .agg (wyC y)] w fun e w' => e = .returned (.bool true) ∧ Ext w w' := by
  have HE := Lib.hid ((((Ext.refl w).alloc (.cells (pmC p) 23)).alloc (.cells (pmC q) 23)).alloc (.cells (wyC y) 25)).drew
  have hb := (((Blk.new w 23 (pmC p)).alloc (.cells (pmC q) 23)).alloc (.cells (wyC y) 25)).drew
  have hq : Blk _ (w.heap.size + 1) 23 (pmC q) := ((blk_at (w := w.alloc (.cells (pmC p) 23)) (t := 23) (cs := pmC q) (by simp)).alloc (.cells (wyC y) 25)).drew
  have hy : Blk _ (w.heap.size + 2) 25 (wyC y) := (blk_at (w := (w.alloc (.cells (pmC p) 23)).alloc (.cells (pmC q) 23)) (t := 25) (cs := wyC y) (by simp)).drew
  have his := is8_c y
  have hris := ris8_c y
  have hmay := may8_c p
  have hrmay := rmay8_c p
  have hless := less8_c p q
  have hrless := rless8_c p q
  have hal := al8_c p y
  have hral := ral8_c p y
  generalize pmMay p = b1 at hmay hrmay
  generalize pmLess p q = b2 at hless hrless
  generalize pmAl p y = b3 at hal hral
  generalize wyIs y = b0 at his hris hal hral
  cases b0
  · cases b1 <;> cases b2
    all_goals
      go_enter Try.func3, Try.ntmps3
      go_wp2_with fail
      refine wp_region_seq [(0, true), (1, false), (2, false), (3, false), (5, false), (4, true), (6, true), (7, false), (8, false), (9, false), (10, false), (12, false), (11, true), (13, true), (14, false), (15, false), (16, false), (17, false), (18, false), (20, false), (21, false), (19, true), (22, true), (23, false), (24, false)] Ext (by kernel_rfl) (by kernel_rfl) Ext.refl (fun _ _ _ => Ext.trans) ?_; simp only [List.map, nth_z, nth_s]
      refine seq_call (awake8_c _) rfl Try.func7 (by kernel_rfl) (by kernel_rfl) (by rfl) (by rfl) ?_; intro K hK; rintro e w' ⟨rfl, hE⟩; refine ⟨_, rfl, hE, ?_⟩; simp only [Act.put, List.setIfInBounds_toArray, List.set_cons_zero, List.set_cons_succ]; refine hK _ _ ?_; clear hK K; replace HE := Lib.hid (HE.out.trans hE)
      replace hb := hb.ext hE
      replace hq := hq.ext hE
      replace hy := hy.ext hE
      clear hE
      (repeat (first | (refine seq_skip (by rfl) ?_; intro K hK; simp only [Act.put, List.setIfInBounds_toArray, List.set_cons_zero, List.set_cons_succ]; refine hK _ ?_; clear hK K) | (refine seq_skipc (by rfl) ?_; intro K hK; simp only [Act.put, List.setIfInBounds_toArray, List.set_cons_zero, List.set_cons_succ]; refine hK _ ?_; clear hK K) | (refine seq_read (by rfl) (by rfl) ?_; intro K hK; go_big_quiet_op; first | go_big_quiet_on | (refine ⟨_, fun _ _ => rfl, ?_⟩; go_big_quiet_on))))
      refine seq_load rfl rfl (fun x hx => Blk.ext (hy) hx) rfl Try.underlying25 (by kernel_rfl) (by rfl) ?_; intro K hK; simp only [Act.put, List.setIfInBounds_toArray, List.set_cons_zero, List.set_cons_succ]; refine hK _ ?_; clear hK K
      refine seq_load rfl rfl (fun x hx => Blk.ext (hy) hx) rfl Try.underlying25 (by kernel_rfl) (by rfl) ?_; intro K hK; simp only [Act.put, List.setIfInBounds_toArray, List.set_cons_zero, List.set_cons_succ]; refine hK _ ?_; clear hK K
      refine seq_call (his _) rfl Try.func8 (by kernel_rfl) (by kernel_rfl) (by rfl) (by rfl) ?_; intro K hK; rintro e w' ⟨rfl, hE⟩; refine ⟨_, rfl, hE, ?_⟩; simp only [Act.put, List.setIfInBounds_toArray, List.set_cons_zero, List.set_cons_succ]; refine hK _ _ ?_; clear hK K; replace HE := Lib.hid (HE.out.trans hE)
      replace hb := hb.ext hE
      replace hq := hq.ext hE
      replace hy := hy.ext hE
      clear hE
      refine seq_call (hris _) rfl Try.func9 (by kernel_rfl) (by kernel_rfl) (by rfl) (by rfl) ?_; intro K hK; rintro e w' ⟨rfl, hE⟩; refine ⟨_, rfl, hE, ?_⟩; simp only [Act.put, List.setIfInBounds_toArray, List.set_cons_zero, List.set_cons_succ]; refine hK _ _ ?_; clear hK K; replace HE := Lib.hid (HE.out.trans hE)
      replace hb := hb.ext hE
      replace hq := hq.ext hE
      replace hy := hy.ext hE
      clear hE
      (repeat (first | (refine seq_skip (by rfl) ?_; intro K hK; simp only [Act.put, List.setIfInBounds_toArray, List.set_cons_zero, List.set_cons_succ]; refine hK _ ?_; clear hK K) | (refine seq_skipc (by rfl) ?_; intro K hK; simp only [Act.put, List.setIfInBounds_toArray, List.set_cons_zero, List.set_cons_succ]; refine hK _ ?_; clear hK K) | (refine seq_read (by rfl) (by rfl) ?_; intro K hK; go_big_quiet_op; first | go_big_quiet_on | (refine ⟨_, fun _ _ => rfl, ?_⟩; go_big_quiet_on))))
      refine seq_load rfl rfl (fun x hx => Blk.ext (hb) hx) rfl Try.underlying23 (by kernel_rfl) (by rfl) ?_; intro K hK; simp only [Act.put, List.setIfInBounds_toArray, List.set_cons_zero, List.set_cons_succ]; refine hK _ ?_; clear hK K
      refine seq_load rfl rfl (fun x hx => Blk.ext (hb) hx) rfl Try.underlying23 (by kernel_rfl) (by rfl) ?_; intro K hK; simp only [Act.put, List.setIfInBounds_toArray, List.set_cons_zero, List.set_cons_succ]; refine hK _ ?_; clear hK K
      refine seq_call (hmay _) rfl Try.func10 (by kernel_rfl) (by kernel_rfl) (by rfl) (by rfl) ?_; intro K hK; rintro e w' ⟨rfl, hE⟩; refine ⟨_, rfl, hE, ?_⟩; simp only [Act.put, List.setIfInBounds_toArray, List.set_cons_zero, List.set_cons_succ]; refine hK _ _ ?_; clear hK K; replace HE := Lib.hid (HE.out.trans hE)
      replace hb := hb.ext hE
      replace hq := hq.ext hE
      replace hy := hy.ext hE
      clear hE
      refine seq_call (hrmay _) rfl Try.func11 (by kernel_rfl) (by kernel_rfl) (by rfl) (by rfl) ?_; intro K hK; rintro e w' ⟨rfl, hE⟩; refine ⟨_, rfl, hE, ?_⟩; simp only [Act.put, List.setIfInBounds_toArray, List.set_cons_zero, List.set_cons_succ]; refine hK _ _ ?_; clear hK K; replace HE := Lib.hid (HE.out.trans hE)
      replace hb := hb.ext hE
      replace hq := hq.ext hE
      replace hy := hy.ext hE
      clear hE
      (repeat (first | (refine seq_skip (by rfl) ?_; intro K hK; simp only [Act.put, List.setIfInBounds_toArray, List.set_cons_zero, List.set_cons_succ]; refine hK _ ?_; clear hK K) | (refine seq_skipc (by rfl) ?_; intro K hK; simp only [Act.put, List.setIfInBounds_toArray, List.set_cons_zero, List.set_cons_succ]; refine hK _ ?_; clear hK K) | (refine seq_read (by rfl) (by rfl) ?_; intro K hK; go_big_quiet_op; first | go_big_quiet_on | (refine ⟨_, fun _ _ => rfl, ?_⟩; go_big_quiet_on))))
      refine seq_load rfl rfl (fun x hx => Blk.ext (hb) hx) rfl Try.underlying23 (by kernel_rfl) (by rfl) ?_; intro K hK; simp only [Act.put, List.setIfInBounds_toArray, List.set_cons_zero, List.set_cons_succ]; refine hK _ ?_; clear hK K
      refine seq_load rfl rfl (fun x hx => Blk.ext (hq) hx) rfl Try.underlying23 (by kernel_rfl) (by rfl) ?_; intro K hK; simp only [Act.put, List.setIfInBounds_toArray, List.set_cons_zero, List.set_cons_succ]; refine hK _ ?_; clear hK K
      refine seq_load rfl rfl (fun x hx => Blk.ext (hb) hx) rfl Try.underlying23 (by kernel_rfl) (by rfl) ?_; intro K hK; simp only [Act.put, List.setIfInBounds_toArray, List.set_cons_zero, List.set_cons_succ]; refine hK _ ?_; clear hK K
      refine seq_load rfl rfl (fun x hx => Blk.ext (hq) hx) rfl Try.underlying23 (by kernel_rfl) (by rfl) ?_; intro K hK; simp only [Act.put, List.setIfInBounds_toArray, List.set_cons_zero, List.set_cons_succ]; refine hK _ ?_; clear hK K
      refine seq_call (hless _) rfl Try.func12 (by kernel_rfl) (by kernel_rfl) (by rfl) (by rfl) ?_; intro K hK; rintro e w' ⟨rfl, hE⟩; refine ⟨_, rfl, hE, ?_⟩; simp only [Act.put, List.setIfInBounds_toArray, List.set_cons_zero, List.set_cons_succ]; refine hK _ _ ?_; clear hK K; replace HE := Lib.hid (HE.out.trans hE)
      replace hb := hb.ext hE
      replace hq := hq.ext hE
      replace hy := hy.ext hE
      clear hE
      refine seq_call (hrless _) rfl Try.func13 (by kernel_rfl) (by kernel_rfl) (by rfl) (by rfl) ?_; intro K hK; rintro e w' ⟨rfl, hE⟩; refine ⟨_, rfl, hE, ?_⟩; simp only [Act.put, List.setIfInBounds_toArray, List.set_cons_zero, List.set_cons_succ]; refine hK _ _ ?_; clear hK K; replace HE := Lib.hid (HE.out.trans hE)
      replace hb := hb.ext hE
      replace hq := hq.ext hE
      replace hy := hy.ext hE
      clear hE
      (repeat (first | (refine seq_skip (by rfl) ?_; intro K hK; simp only [Act.put, List.setIfInBounds_toArray, List.set_cons_zero, List.set_cons_succ]; refine hK _ ?_; clear hK K) | (refine seq_skipc (by rfl) ?_; intro K hK; simp only [Act.put, List.setIfInBounds_toArray, List.set_cons_zero, List.set_cons_succ]; refine hK _ ?_; clear hK K) | (refine seq_read (by rfl) (by rfl) ?_; intro K hK; go_big_quiet_op; first | go_big_quiet_on | (refine ⟨_, fun _ _ => rfl, ?_⟩; go_big_quiet_on))))
      refine seq_done ?_
      replace hb := hb.drew
      replace hq := hq.drew
      replace hy := hy.drew
      replace HE := Lib.hid HE.out.drew
      go_wp2_with fail
      refine wp_region_seq [(0, false), (1, true), (2, false), (3, false), (4, false), (5, false), (7, false), (8, false), (6, true), (9, true), (10, false), (11, false), (12, false)] Ext (by kernel_rfl) (by kernel_rfl) Ext.refl (fun _ _ _ => Ext.trans) ?_; simp only [List.map, nth_z, nth_s]
      refine seq_load rfl rfl (fun x hx => Blk.ext (hy) hx) rfl Try.underlying25 (by kernel_rfl) (by rfl) ?_; intro K hK; simp only [Act.put, List.setIfInBounds_toArray, List.set_cons_zero, List.set_cons_succ]; refine hK _ ?_; clear hK K
      refine seq_call (hris _) rfl Try.func9 (by kernel_rfl) (by kernel_rfl) (by rfl) (by rfl) ?_; intro K hK; rintro e w' ⟨rfl, hE⟩; refine ⟨_, rfl, hE, ?_⟩; simp only [Act.put, List.setIfInBounds_toArray, List.set_cons_zero, List.set_cons_succ]; refine hK _ _ ?_; clear hK K; replace HE := Lib.hid (HE.out.trans hE)
      replace hb := hb.ext hE
      replace hq := hq.ext hE
      replace hy := hy.ext hE
      clear hE
      (repeat (first | (refine seq_skip (by rfl) ?_; intro K hK; simp only [Act.put, List.setIfInBounds_toArray, List.set_cons_zero, List.set_cons_succ]; refine hK _ ?_; clear hK K) | (refine seq_skipc (by rfl) ?_; intro K hK; simp only [Act.put, List.setIfInBounds_toArray, List.set_cons_zero, List.set_cons_succ]; refine hK _ ?_; clear hK K) | (refine seq_read (by rfl) (by rfl) ?_; intro K hK; go_big_quiet_op; first | go_big_quiet_on | (refine ⟨_, fun _ _ => rfl, ?_⟩; go_big_quiet_on))))
      refine seq_done ?_
      go_wp2
      go_ret
      exact ⟨rfl, HE.out⟩
  · cases b1 <;> cases b2 <;> cases b3
    all_goals
      go_enter Try.func3, Try.ntmps3
      go_wp2_with fail
      refine wp_region_seq [(0, true), (1, false), (2, false), (3, false), (5, false), (4, true), (6, true), (7, false), (8, false), (9, false), (10, false), (12, false), (11, true), (13, true), (14, false), (15, false), (16, false), (17, false), (18, false), (20, false), (21, false), (19, true), (22, true), (23, false), (24, false)] Ext (by kernel_rfl) (by kernel_rfl) Ext.refl (fun _ _ _ => Ext.trans) ?_; simp only [List.map, nth_z, nth_s]
      refine seq_call (awake8_c _) rfl Try.func7 (by kernel_rfl) (by kernel_rfl) (by rfl) (by rfl) ?_; intro K hK; rintro e w' ⟨rfl, hE⟩; refine ⟨_, rfl, hE, ?_⟩; simp only [Act.put, List.setIfInBounds_toArray, List.set_cons_zero, List.set_cons_succ]; refine hK _ _ ?_; clear hK K; replace HE := Lib.hid (HE.out.trans hE)
      replace hb := hb.ext hE
      replace hq := hq.ext hE
      replace hy := hy.ext hE
      clear hE
      (repeat (first | (refine seq_skip (by rfl) ?_; intro K hK; simp only [Act.put, List.setIfInBounds_toArray, List.set_cons_zero, List.set_cons_succ]; refine hK _ ?_; clear hK K) | (refine seq_skipc (by rfl) ?_; intro K hK; simp only [Act.put, List.setIfInBounds_toArray, List.set_cons_zero, List.set_cons_succ]; refine hK _ ?_; clear hK K) | (refine seq_read (by rfl) (by rfl) ?_; intro K hK; go_big_quiet_op; first | go_big_quiet_on | (refine ⟨_, fun _ _ => rfl, ?_⟩; go_big_quiet_on))))
      refine seq_load rfl rfl (fun x hx => Blk.ext (hy) hx) rfl Try.underlying25 (by kernel_rfl) (by rfl) ?_; intro K hK; simp only [Act.put, List.setIfInBounds_toArray, List.set_cons_zero, List.set_cons_succ]; refine hK _ ?_; clear hK K
      refine seq_load rfl rfl (fun x hx => Blk.ext (hy) hx) rfl Try.underlying25 (by kernel_rfl) (by rfl) ?_; intro K hK; simp only [Act.put, List.setIfInBounds_toArray, List.set_cons_zero, List.set_cons_succ]; refine hK _ ?_; clear hK K
      refine seq_call (his _) rfl Try.func8 (by kernel_rfl) (by kernel_rfl) (by rfl) (by rfl) ?_; intro K hK; rintro e w' ⟨rfl, hE⟩; refine ⟨_, rfl, hE, ?_⟩; simp only [Act.put, List.setIfInBounds_toArray, List.set_cons_zero, List.set_cons_succ]; refine hK _ _ ?_; clear hK K; replace HE := Lib.hid (HE.out.trans hE)
      replace hb := hb.ext hE
      replace hq := hq.ext hE
      replace hy := hy.ext hE
      clear hE
      refine seq_call (hris _) rfl Try.func9 (by kernel_rfl) (by kernel_rfl) (by rfl) (by rfl) ?_; intro K hK; rintro e w' ⟨rfl, hE⟩; refine ⟨_, rfl, hE, ?_⟩; simp only [Act.put, List.setIfInBounds_toArray, List.set_cons_zero, List.set_cons_succ]; refine hK _ _ ?_; clear hK K; replace HE := Lib.hid (HE.out.trans hE)
      replace hb := hb.ext hE
      replace hq := hq.ext hE
      replace hy := hy.ext hE
      clear hE
      (repeat (first | (refine seq_skip (by rfl) ?_; intro K hK; simp only [Act.put, List.setIfInBounds_toArray, List.set_cons_zero, List.set_cons_succ]; refine hK _ ?_; clear hK K) | (refine seq_skipc (by rfl) ?_; intro K hK; simp only [Act.put, List.setIfInBounds_toArray, List.set_cons_zero, List.set_cons_succ]; refine hK _ ?_; clear hK K) | (refine seq_read (by rfl) (by rfl) ?_; intro K hK; go_big_quiet_op; first | go_big_quiet_on | (refine ⟨_, fun _ _ => rfl, ?_⟩; go_big_quiet_on))))
      refine seq_load rfl rfl (fun x hx => Blk.ext (hb) hx) rfl Try.underlying23 (by kernel_rfl) (by rfl) ?_; intro K hK; simp only [Act.put, List.setIfInBounds_toArray, List.set_cons_zero, List.set_cons_succ]; refine hK _ ?_; clear hK K
      refine seq_load rfl rfl (fun x hx => Blk.ext (hb) hx) rfl Try.underlying23 (by kernel_rfl) (by rfl) ?_; intro K hK; simp only [Act.put, List.setIfInBounds_toArray, List.set_cons_zero, List.set_cons_succ]; refine hK _ ?_; clear hK K
      refine seq_call (hmay _) rfl Try.func10 (by kernel_rfl) (by kernel_rfl) (by rfl) (by rfl) ?_; intro K hK; rintro e w' ⟨rfl, hE⟩; refine ⟨_, rfl, hE, ?_⟩; simp only [Act.put, List.setIfInBounds_toArray, List.set_cons_zero, List.set_cons_succ]; refine hK _ _ ?_; clear hK K; replace HE := Lib.hid (HE.out.trans hE)
      replace hb := hb.ext hE
      replace hq := hq.ext hE
      replace hy := hy.ext hE
      clear hE
      refine seq_call (hrmay _) rfl Try.func11 (by kernel_rfl) (by kernel_rfl) (by rfl) (by rfl) ?_; intro K hK; rintro e w' ⟨rfl, hE⟩; refine ⟨_, rfl, hE, ?_⟩; simp only [Act.put, List.setIfInBounds_toArray, List.set_cons_zero, List.set_cons_succ]; refine hK _ _ ?_; clear hK K; replace HE := Lib.hid (HE.out.trans hE)
      replace hb := hb.ext hE
      replace hq := hq.ext hE
      replace hy := hy.ext hE
      clear hE
      (repeat (first | (refine seq_skip (by rfl) ?_; intro K hK; simp only [Act.put, List.setIfInBounds_toArray, List.set_cons_zero, List.set_cons_succ]; refine hK _ ?_; clear hK K) | (refine seq_skipc (by rfl) ?_; intro K hK; simp only [Act.put, List.setIfInBounds_toArray, List.set_cons_zero, List.set_cons_succ]; refine hK _ ?_; clear hK K) | (refine seq_read (by rfl) (by rfl) ?_; intro K hK; go_big_quiet_op; first | go_big_quiet_on | (refine ⟨_, fun _ _ => rfl, ?_⟩; go_big_quiet_on))))
      refine seq_load rfl rfl (fun x hx => Blk.ext (hb) hx) rfl Try.underlying23 (by kernel_rfl) (by rfl) ?_; intro K hK; simp only [Act.put, List.setIfInBounds_toArray, List.set_cons_zero, List.set_cons_succ]; refine hK _ ?_; clear hK K
      refine seq_load rfl rfl (fun x hx => Blk.ext (hq) hx) rfl Try.underlying23 (by kernel_rfl) (by rfl) ?_; intro K hK; simp only [Act.put, List.setIfInBounds_toArray, List.set_cons_zero, List.set_cons_succ]; refine hK _ ?_; clear hK K
      refine seq_load rfl rfl (fun x hx => Blk.ext (hb) hx) rfl Try.underlying23 (by kernel_rfl) (by rfl) ?_; intro K hK; simp only [Act.put, List.setIfInBounds_toArray, List.set_cons_zero, List.set_cons_succ]; refine hK _ ?_; clear hK K
      refine seq_load rfl rfl (fun x hx => Blk.ext (hq) hx) rfl Try.underlying23 (by kernel_rfl) (by rfl) ?_; intro K hK; simp only [Act.put, List.setIfInBounds_toArray, List.set_cons_zero, List.set_cons_succ]; refine hK _ ?_; clear hK K
      refine seq_call (hless _) rfl Try.func12 (by kernel_rfl) (by kernel_rfl) (by rfl) (by rfl) ?_; intro K hK; rintro e w' ⟨rfl, hE⟩; refine ⟨_, rfl, hE, ?_⟩; simp only [Act.put, List.setIfInBounds_toArray, List.set_cons_zero, List.set_cons_succ]; refine hK _ _ ?_; clear hK K; replace HE := Lib.hid (HE.out.trans hE)
      replace hb := hb.ext hE
      replace hq := hq.ext hE
      replace hy := hy.ext hE
      clear hE
      refine seq_call (hrless _) rfl Try.func13 (by kernel_rfl) (by kernel_rfl) (by rfl) (by rfl) ?_; intro K hK; rintro e w' ⟨rfl, hE⟩; refine ⟨_, rfl, hE, ?_⟩; simp only [Act.put, List.setIfInBounds_toArray, List.set_cons_zero, List.set_cons_succ]; refine hK _ _ ?_; clear hK K; replace HE := Lib.hid (HE.out.trans hE)
      replace hb := hb.ext hE
      replace hq := hq.ext hE
      replace hy := hy.ext hE
      clear hE
      (repeat (first | (refine seq_skip (by rfl) ?_; intro K hK; simp only [Act.put, List.setIfInBounds_toArray, List.set_cons_zero, List.set_cons_succ]; refine hK _ ?_; clear hK K) | (refine seq_skipc (by rfl) ?_; intro K hK; simp only [Act.put, List.setIfInBounds_toArray, List.set_cons_zero, List.set_cons_succ]; refine hK _ ?_; clear hK K) | (refine seq_read (by rfl) (by rfl) ?_; intro K hK; go_big_quiet_op; first | go_big_quiet_on | (refine ⟨_, fun _ _ => rfl, ?_⟩; go_big_quiet_on))))
      refine seq_done ?_
      replace hb := hb.drew
      replace hq := hq.drew
      replace hy := hy.drew
      replace HE := Lib.hid HE.out.drew
      go_wp2_with fail
      refine wp_region_seq [(0, false), (1, true), (2, false), (3, false), (4, false), (5, false), (7, false), (8, false), (6, true), (9, true), (10, false), (11, false), (12, false)] Ext (by kernel_rfl) (by kernel_rfl) Ext.refl (fun _ _ _ => Ext.trans) ?_; simp only [List.map, nth_z, nth_s]
      refine seq_load rfl rfl (fun x hx => Blk.ext (hy) hx) rfl Try.underlying25 (by kernel_rfl) (by rfl) ?_; intro K hK; simp only [Act.put, List.setIfInBounds_toArray, List.set_cons_zero, List.set_cons_succ]; refine hK _ ?_; clear hK K
      refine seq_call (hris _) rfl Try.func9 (by kernel_rfl) (by kernel_rfl) (by rfl) (by rfl) ?_; intro K hK; rintro e w' ⟨rfl, hE⟩; refine ⟨_, rfl, hE, ?_⟩; simp only [Act.put, List.setIfInBounds_toArray, List.set_cons_zero, List.set_cons_succ]; refine hK _ _ ?_; clear hK K; replace HE := Lib.hid (HE.out.trans hE)
      replace hb := hb.ext hE
      replace hq := hq.ext hE
      replace hy := hy.ext hE
      clear hE
      (repeat (first | (refine seq_skip (by rfl) ?_; intro K hK; simp only [Act.put, List.setIfInBounds_toArray, List.set_cons_zero, List.set_cons_succ]; refine hK _ ?_; clear hK K) | (refine seq_skipc (by rfl) ?_; intro K hK; simp only [Act.put, List.setIfInBounds_toArray, List.set_cons_zero, List.set_cons_succ]; refine hK _ ?_; clear hK K) | (refine seq_read (by rfl) (by rfl) ?_; intro K hK; go_big_quiet_op; first | go_big_quiet_on | (refine ⟨_, fun _ _ => rfl, ?_⟩; go_big_quiet_on))))
      refine seq_load rfl rfl (fun x hx => Blk.ext (hb) hx) rfl Try.underlying23 (by kernel_rfl) (by rfl) ?_; intro K hK; simp only [Act.put, List.setIfInBounds_toArray, List.set_cons_zero, List.set_cons_succ]; refine hK _ ?_; clear hK K
      refine seq_load rfl rfl (fun x hx => Blk.ext (hy) hx) rfl Try.underlying25 (by kernel_rfl) (by rfl) ?_; intro K hK; simp only [Act.put, List.setIfInBounds_toArray, List.set_cons_zero, List.set_cons_succ]; refine hK _ ?_; clear hK K
      refine seq_load rfl rfl (fun x hx => Blk.ext (hb) hx) rfl Try.underlying23 (by kernel_rfl) (by rfl) ?_; intro K hK; simp only [Act.put, List.setIfInBounds_toArray, List.set_cons_zero, List.set_cons_succ]; refine hK _ ?_; clear hK K
      refine seq_load rfl rfl (fun x hx => Blk.ext (hy) hx) rfl Try.underlying25 (by kernel_rfl) (by rfl) ?_; intro K hK; simp only [Act.put, List.setIfInBounds_toArray, List.set_cons_zero, List.set_cons_succ]; refine hK _ ?_; clear hK K
      refine seq_call (hal (by trivial) _) rfl Try.func14 (by kernel_rfl) (by kernel_rfl) (by rfl) (by rfl) ?_; intro K hK; rintro e w' ⟨rfl, hE⟩; refine ⟨_, rfl, hE, ?_⟩; simp only [Act.put, List.setIfInBounds_toArray, List.set_cons_zero, List.set_cons_succ]; refine hK _ _ ?_; clear hK K; replace HE := Lib.hid (HE.out.trans hE)
      replace hb := hb.ext hE
      replace hq := hq.ext hE
      replace hy := hy.ext hE
      clear hE
      refine seq_call (hral (by trivial) _) rfl Try.func15 (by kernel_rfl) (by kernel_rfl) (by rfl) (by rfl) ?_; intro K hK; rintro e w' ⟨rfl, hE⟩; refine ⟨_, rfl, hE, ?_⟩; simp only [Act.put, List.setIfInBounds_toArray, List.set_cons_zero, List.set_cons_succ]; refine hK _ _ ?_; clear hK K; replace HE := Lib.hid (HE.out.trans hE)
      replace hb := hb.ext hE
      replace hq := hq.ext hE
      replace hy := hy.ext hE
      clear hE
      (repeat (first | (refine seq_skip (by rfl) ?_; intro K hK; simp only [Act.put, List.setIfInBounds_toArray, List.set_cons_zero, List.set_cons_succ]; refine hK _ ?_; clear hK K) | (refine seq_skipc (by rfl) ?_; intro K hK; simp only [Act.put, List.setIfInBounds_toArray, List.set_cons_zero, List.set_cons_succ]; refine hK _ ?_; clear hK K) | (refine seq_read (by rfl) (by rfl) ?_; intro K hK; go_big_quiet_op; first | go_big_quiet_on | (refine ⟨_, fun _ _ => rfl, ?_⟩; go_big_quiet_on))))
      refine seq_done ?_
      go_wp2
      go_ret
      exact ⟨rfl, HE.out⟩
end Go.Proofs.Ythmfgiodidaofaa
