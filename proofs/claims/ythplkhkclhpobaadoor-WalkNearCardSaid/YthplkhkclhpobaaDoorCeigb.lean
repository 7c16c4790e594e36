/- perm.Allows: what is permitted. -/
import Derived.Test.YthplkhkclhpobaaDoorCeight
namespace Go.Proofs.YthplkhkclhpobaaDoor
open Go.ChangeShapes Go.WideShapes Go.ChangeAt Go.RowKit
set_option linter.unusedVariables false
set_option linter.unusedSimpArgs false
set_option maxRecDepth 10000

theorem asks_c (m : Bool) (w : World) :
    Calls Tryd.prog 66 #[.bool m] w fun e w' => ∃ g, e = .returned (.agg #[.func (.func 76) #[] #[], .func (.func 77) #[] #[.pointer (some ⟨g, 0, none⟩)], .func (.func 78) #[] #[]]) ∧ w'.cell? ⟨g, 0, none⟩ = some (.bool m) ∧ Ext w w' := by
  go_enter Tryd.func66, Tryd.ntmps66
  go_wp2_with (refine wpList_store_new rfl 87 _ _ rfl #[.func (.func 76) #[] #[], .func (.func 77) #[] #[.pointer (some ⟨w.heap.size, 0, none⟩)], .func (.func 78) #[] #[]] _ _ (by simp [Act.eval]) rfl (by kernel_rfl) (by rfl) (by simp [Value.oneCell']) ?_)
  (try simp only [Exit.inBlock, Exit.then]); refine bodyPost_ret (results_cell_row rfl _ _ _ _ _ _ _ rfl ((blk_at (by simp))) Tryd.underlying87 rfl (by kernel_rfl)) rfl ?_
  exact ⟨w.heap.size, rfl, by simp, ((Ext.refl w).alloc _).alloc _⟩
theorem ad_lit (p : Pm) (k v : Int) (s m : Bool) : pmAd p ⟨k, v, s, m⟩ = if v = 0 then p.u else !p.u || (!decide (k = 0) && s) := by unfold pmAd; rfl
set_option maxHeartbeats 1000000 in
theorem admits_c (p : Pm) (y : Wy) (w : World) :
    Calls Tryd.prog 65 #[.agg (pmC p), .agg (wyC y)] w fun e w' => e = .returned (.bool (pmAd p y)) ∧ Ext w w' := by
  have HE := Lib.hid (((Ext.refl w).alloc (.cells (pmC p) 51)).alloc (.cells (wyC y) 39))
  obtain ⟨k, v, s, m⟩ := y
  rw [ad_lit]
  obtain ⟨r, y, x, u⟩ := p
  rw [pmC_def, wyC_def] at HE ⊢
  by_cases hv : v = 0
  · subst hv
    go_enter Tryd.func65, Tryd.ntmps65
    go_wp2
    go_ret
    exact ⟨rfl, HE.out⟩
  · rw [if_neg hv]
    have hv' : (v == 0) = false := by simpa using hv
    cases u
    · go_enter Tryd.func65, Tryd.ntmps65
      go_wp2
      go_ret
      exact ⟨by simp, HE.out⟩
    · by_cases hk : k = 0
      · subst hk
        go_enter Tryd.func65, Tryd.ntmps65
        go_wp2
        go_ret
        exact ⟨by simp, HE.out⟩
      · have hk' : (k == 0) = false := by simpa using hk
        go_enter Tryd.func65, Tryd.ntmps65
        go_wp2
        go_ret
        exact ⟨by simp [hk], HE.out⟩
theorem al_lit (p : Pm) (y : Wy) : pmAl p y = (pmAd p y && pmAsk p y) := by unfold pmAl; rfl
theorem ask_lit (p : Pm) (k v : Int) (s m : Bool) : pmAsk p ⟨k, v, s, m⟩ = if k = 0 then p.x else if k = 1 then p.r || p.x && m else p.w := by unfold pmAsk; rfl
set_option maxHeartbeats 1000000 in
theorem al8_c (p : Pm) (y : Wy) (hy : wyIs y = true) (w : World) :
    Calls Tryd.prog 41 #[.agg (pmC p), .agg (wyC y)] w fun e w' => e = .returned (.bool (pmAl p y)) ∧ Ext w w' := by
  have HE := Lib.hid (((Ext.refl w).alloc (.cells (pmC p) 51)).alloc (.cells (wyC y) 39))
  have hb := (Blk.new w 51 (pmC p)).alloc (.cells (wyC y) 39)
  have hc : Blk ((w.alloc (.cells (pmC p) 51)).alloc (.cells (wyC y) 39)) (w.heap.size + 1) 39 (wyC y) := blk_at (by simp)
  have his := is8_c y
  rw [hy] at his
  have had := admits_c p y
  rw [al_lit]
  rcases hd : pmAd p y with _ | _
  · rw [hd] at had
    clear hd hy
    go_enter Tryd.func41, Tryd.ntmps41
    go_wp2_with (refine wpList_load_blk (by rfl) 39 _ rfl rfl (by with_reducible assumption) Tryd.underlying39 rfl (by kernel_rfl) ?_)
    refine (his _).mono ?_
    rintro e w1 ⟨rfl, hE⟩
    replace HE := Lib.hid (HE.out.trans hE).drew
    replace hb := (hb.ext hE).drew
    replace hc := (hc.ext hE).drew
    clear hE his
    go_wp2_with fail
    refine wp_region_seq [(0, false), (1, false), (2, true), (3, false), (4, false), (5, false), (7, false), (8, false), (10, false), (6, true), (9, false), (11, true), (12, false), (13, false)] Ext (by kernel_rfl) (by kernel_rfl) Ext.refl (fun _ _ _ => Ext.trans) ?_; simp only [List.map, nth_z, nth_s]
    refine seq_load rfl rfl (fun x hx => Blk.ext (hb) hx) rfl Tryd.underlying51 (by kernel_rfl) (by rfl) ?_; intro K hK; simp only [Act.put, List.setIfInBounds_toArray, List.set_cons_zero, List.set_cons_succ]; refine hK _ ?_; clear hK K
    refine seq_load rfl rfl (fun x hx => Blk.ext (hc) hx) rfl Tryd.underlying39 (by kernel_rfl) (by rfl) ?_; intro K hK; simp only [Act.put, List.setIfInBounds_toArray, List.set_cons_zero, List.set_cons_succ]; refine hK _ ?_; clear hK K
    refine seq_call (had _) rfl Tryd.func65 (by kernel_rfl) (by kernel_rfl) (by rfl) (by rfl) ?_; intro K hK; rintro e w' ⟨rfl, hE⟩; refine ⟨_, rfl, hE, ?_⟩; simp only [Act.put, List.setIfInBounds_toArray, List.set_cons_zero, List.set_cons_succ]; refine hK _ _ ?_; clear hK K
    replace HE := Lib.hid (HE.out.trans hE)
    replace hb := hb.ext hE
    replace hc := hc.ext hE
    clear hE had
    (repeat (first | (refine seq_skip (by rfl) ?_; intro K hK; simp only [Act.put, List.setIfInBounds_toArray, List.set_cons_zero, List.set_cons_succ]; refine hK _ ?_; clear hK K) | (refine seq_skipc (by rfl) ?_; intro K hK; simp only [Act.put, List.setIfInBounds_toArray, List.set_cons_zero, List.set_cons_succ]; refine hK _ ?_; clear hK K) | (refine seq_read (by rfl) (by rfl) ?_; intro K hK; go_big_quiet_op; first | go_big_quiet_on | (refine ⟨_, fun _ _ => rfl, ?_⟩; go_big_quiet_on))))
    refine seq_done ?_
    go_wp2
    go_ret
    exact ⟨rfl, HE.out⟩
  · rw [hd] at had
    have hk := (wy_cases hy).1
    obtain ⟨k, v, s, m⟩ := y
    rw [ask_lit]
    clear hd hy
    simp only at hk
    rcases hk with rfl | rfl | rfl
    · skip
      go_enter Tryd.func41, Tryd.ntmps41
      go_wp2_with (refine wpList_load_blk (by rfl) 39 _ rfl rfl (by with_reducible assumption) Tryd.underlying39 rfl (by kernel_rfl) ?_)
      refine (his _).mono ?_
      rintro e w1 ⟨rfl, hE⟩
      replace HE := Lib.hid (HE.out.trans hE).drew
      replace hb := (hb.ext hE).drew
      replace hc := (hc.ext hE).drew
      clear hE his
      go_wp2_with fail
      refine wp_region_seq [(0, false), (1, false), (2, true), (3, false), (4, false), (5, false), (7, false), (8, false), (10, false), (6, true), (9, false), (11, true), (12, false), (13, false)] Ext (by kernel_rfl) (by kernel_rfl) Ext.refl (fun _ _ _ => Ext.trans) ?_; simp only [List.map, nth_z, nth_s]
      refine seq_load rfl rfl (fun x hx => Blk.ext (hb) hx) rfl Tryd.underlying51 (by kernel_rfl) (by rfl) ?_; intro K hK; simp only [Act.put, List.setIfInBounds_toArray, List.set_cons_zero, List.set_cons_succ]; refine hK _ ?_; clear hK K
      refine seq_load rfl rfl (fun x hx => Blk.ext (hc) hx) rfl Tryd.underlying39 (by kernel_rfl) (by rfl) ?_; intro K hK; simp only [Act.put, List.setIfInBounds_toArray, List.set_cons_zero, List.set_cons_succ]; refine hK _ ?_; clear hK K
      refine seq_call (had _) rfl Tryd.func65 (by kernel_rfl) (by kernel_rfl) (by rfl) (by rfl) ?_; intro K hK; rintro e w' ⟨rfl, hE⟩; refine ⟨_, rfl, hE, ?_⟩; simp only [Act.put, List.setIfInBounds_toArray, List.set_cons_zero, List.set_cons_succ]; refine hK _ _ ?_; clear hK K
      replace HE := Lib.hid (HE.out.trans hE)
      replace hb := hb.ext hE
      replace hc := hc.ext hE
      clear hE had
      have hc1 := hc.wy
      (repeat (first | (refine seq_skip (by rfl) ?_; intro K hK; simp only [Act.put, List.setIfInBounds_toArray, List.set_cons_zero, List.set_cons_succ]; refine hK _ ?_; clear hK K) | (refine seq_skipc (by rfl) ?_; intro K hK; simp only [Act.put, List.setIfInBounds_toArray, List.set_cons_zero, List.set_cons_succ]; refine hK _ ?_; clear hK K) | (refine seq_read (by rfl) (by rfl) ?_; intro K hK; go_big_quiet_op; first | go_big_quiet_on | (refine ⟨_, fun _ _ => rfl, ?_⟩; go_big_quiet_on))))
      refine seq_value ((.bool m)) (by rfl) (fun x hx => by have hq := ext_cell hx (hc1.2.2.2); simp [go_sem, execOp, Act.eval, hq]) ?_; intro K hK; simp only [Act.put, List.setIfInBounds_toArray, List.set_cons_zero, List.set_cons_succ]; refine hK _ ?_; clear hK K
      (repeat (first | (refine seq_skip (by rfl) ?_; intro K hK; simp only [Act.put, List.setIfInBounds_toArray, List.set_cons_zero, List.set_cons_succ]; refine hK _ ?_; clear hK K) | (refine seq_skipc (by rfl) ?_; intro K hK; simp only [Act.put, List.setIfInBounds_toArray, List.set_cons_zero, List.set_cons_succ]; refine hK _ ?_; clear hK K) | (refine seq_read (by rfl) (by rfl) ?_; intro K hK; go_big_quiet_op; first | go_big_quiet_on | (refine ⟨_, fun _ _ => rfl, ?_⟩; go_big_quiet_on))))
      refine seq_value ((.int .i64 0)) (by rfl) (fun x hx => by have hq := ext_cell hx (hc1.1); simp [go_sem, execOp, Act.eval, hq]) ?_; intro K hK; simp only [Act.put, List.setIfInBounds_toArray, List.set_cons_zero, List.set_cons_succ]; refine hK _ ?_; clear hK K
      refine seq_load rfl rfl (fun x hx => Blk.ext (hb) hx) rfl Tryd.underlying51 (by kernel_rfl) (by rfl) ?_; intro K hK; simp only [Act.put, List.setIfInBounds_toArray, List.set_cons_zero, List.set_cons_succ]; refine hK _ ?_; clear hK K
      refine seq_call (asks_c m _) rfl Tryd.func66 (by kernel_rfl) (by kernel_rfl) (by rfl) (by rfl) ?_; intro K hK; rintro e w' ⟨g, rfl, hm, hE⟩; refine ⟨_, rfl, hE, ?_⟩; simp only [Act.put, List.setIfInBounds_toArray, List.set_cons_zero, List.set_cons_succ]; refine hK _ _ ?_; clear hK K
      replace HE := Lib.hid (HE.out.trans hE)
      clear hE
      (repeat (first | (refine seq_skip (by rfl) ?_; intro K hK; simp only [Act.put, List.setIfInBounds_toArray, List.set_cons_zero, List.set_cons_succ]; refine hK _ ?_; clear hK K) | (refine seq_skipc (by rfl) ?_; intro K hK; simp only [Act.put, List.setIfInBounds_toArray, List.set_cons_zero, List.set_cons_succ]; refine hK _ ?_; clear hK K) | (refine seq_read (by rfl) (by rfl) ?_; intro K hK; go_big_quiet_op; first | go_big_quiet_on | (refine ⟨_, fun _ _ => rfl, ?_⟩; go_big_quiet_on))))
      refine seq_value (.func (.func 76) #[] #[]) (by rfl) (fun x hx => by simp [go_sem, execOp, Act.eval, Instr.index, Tryd.underlying87]) ?_; intro K hK; simp only [Act.put, List.setIfInBounds_toArray, List.set_cons_zero, List.set_cons_succ]; refine hK _ ?_; clear hK K
      refine seq_callv (asks1_c p _) rfl (by rfl) Tryd.func76 (by kernel_rfl) (by kernel_rfl) (by rfl) (by rfl) (by rfl) ?_; intro K hK; rintro e w' ⟨rfl, hE⟩; refine ⟨_, rfl, hE, ?_⟩; simp only [Act.put, List.setIfInBounds_toArray, List.set_cons_zero, List.set_cons_succ]; refine hK _ _ ?_; clear hK K
      replace HE := Lib.hid (HE.out.trans hE)
      clear hE
      (repeat (first | (refine seq_skip (by rfl) ?_; intro K hK; simp only [Act.put, List.setIfInBounds_toArray, List.set_cons_zero, List.set_cons_succ]; refine hK _ ?_; clear hK K) | (refine seq_skipc (by rfl) ?_; intro K hK; simp only [Act.put, List.setIfInBounds_toArray, List.set_cons_zero, List.set_cons_succ]; refine hK _ ?_; clear hK K) | (refine seq_read (by rfl) (by rfl) ?_; intro K hK; go_big_quiet_op; first | go_big_quiet_on | (refine ⟨_, fun _ _ => rfl, ?_⟩; go_big_quiet_on))))
      refine seq_done ?_
      go_wp2
      go_ret
      exact ⟨rfl, HE.out⟩
    · skip
      go_enter Tryd.func41, Tryd.ntmps41
      go_wp2_with (refine wpList_load_blk (by rfl) 39 _ rfl rfl (by with_reducible assumption) Tryd.underlying39 rfl (by kernel_rfl) ?_)
      refine (his _).mono ?_
      rintro e w1 ⟨rfl, hE⟩
      replace HE := Lib.hid (HE.out.trans hE).drew
      replace hb := (hb.ext hE).drew
      replace hc := (hc.ext hE).drew
      clear hE his
      go_wp2_with fail
      refine wp_region_seq [(0, false), (1, false), (2, true), (3, false), (4, false), (5, false), (7, false), (8, false), (10, false), (6, true), (9, false), (11, true), (12, false), (13, false)] Ext (by kernel_rfl) (by kernel_rfl) Ext.refl (fun _ _ _ => Ext.trans) ?_; simp only [List.map, nth_z, nth_s]
      refine seq_load rfl rfl (fun x hx => Blk.ext (hb) hx) rfl Tryd.underlying51 (by kernel_rfl) (by rfl) ?_; intro K hK; simp only [Act.put, List.setIfInBounds_toArray, List.set_cons_zero, List.set_cons_succ]; refine hK _ ?_; clear hK K
      refine seq_load rfl rfl (fun x hx => Blk.ext (hc) hx) rfl Tryd.underlying39 (by kernel_rfl) (by rfl) ?_; intro K hK; simp only [Act.put, List.setIfInBounds_toArray, List.set_cons_zero, List.set_cons_succ]; refine hK _ ?_; clear hK K
      refine seq_call (had _) rfl Tryd.func65 (by kernel_rfl) (by kernel_rfl) (by rfl) (by rfl) ?_; intro K hK; rintro e w' ⟨rfl, hE⟩; refine ⟨_, rfl, hE, ?_⟩; simp only [Act.put, List.setIfInBounds_toArray, List.set_cons_zero, List.set_cons_succ]; refine hK _ _ ?_; clear hK K
      replace HE := Lib.hid (HE.out.trans hE)
      replace hb := hb.ext hE
      replace hc := hc.ext hE
      clear hE had
      have hc1 := hc.wy
      (repeat (first | (refine seq_skip (by rfl) ?_; intro K hK; simp only [Act.put, List.setIfInBounds_toArray, List.set_cons_zero, List.set_cons_succ]; refine hK _ ?_; clear hK K) | (refine seq_skipc (by rfl) ?_; intro K hK; simp only [Act.put, List.setIfInBounds_toArray, List.set_cons_zero, List.set_cons_succ]; refine hK _ ?_; clear hK K) | (refine seq_read (by rfl) (by rfl) ?_; intro K hK; go_big_quiet_op; first | go_big_quiet_on | (refine ⟨_, fun _ _ => rfl, ?_⟩; go_big_quiet_on))))
      refine seq_value ((.bool m)) (by rfl) (fun x hx => by have hq := ext_cell hx (hc1.2.2.2); simp [go_sem, execOp, Act.eval, hq]) ?_; intro K hK; simp only [Act.put, List.setIfInBounds_toArray, List.set_cons_zero, List.set_cons_succ]; refine hK _ ?_; clear hK K
      (repeat (first | (refine seq_skip (by rfl) ?_; intro K hK; simp only [Act.put, List.setIfInBounds_toArray, List.set_cons_zero, List.set_cons_succ]; refine hK _ ?_; clear hK K) | (refine seq_skipc (by rfl) ?_; intro K hK; simp only [Act.put, List.setIfInBounds_toArray, List.set_cons_zero, List.set_cons_succ]; refine hK _ ?_; clear hK K) | (refine seq_read (by rfl) (by rfl) ?_; intro K hK; go_big_quiet_op; first | go_big_quiet_on | (refine ⟨_, fun _ _ => rfl, ?_⟩; go_big_quiet_on))))
      refine seq_value ((.int .i64 1)) (by rfl) (fun x hx => by have hq := ext_cell hx (hc1.1); simp [go_sem, execOp, Act.eval, hq]) ?_; intro K hK; simp only [Act.put, List.setIfInBounds_toArray, List.set_cons_zero, List.set_cons_succ]; refine hK _ ?_; clear hK K
      refine seq_load rfl rfl (fun x hx => Blk.ext (hb) hx) rfl Tryd.underlying51 (by kernel_rfl) (by rfl) ?_; intro K hK; simp only [Act.put, List.setIfInBounds_toArray, List.set_cons_zero, List.set_cons_succ]; refine hK _ ?_; clear hK K
      refine seq_call (asks_c m _) rfl Tryd.func66 (by kernel_rfl) (by kernel_rfl) (by rfl) (by rfl) ?_; intro K hK; rintro e w' ⟨g, rfl, hm, hE⟩; refine ⟨_, rfl, hE, ?_⟩; simp only [Act.put, List.setIfInBounds_toArray, List.set_cons_zero, List.set_cons_succ]; refine hK _ _ ?_; clear hK K
      replace HE := Lib.hid (HE.out.trans hE)
      clear hE
      (repeat (first | (refine seq_skip (by rfl) ?_; intro K hK; simp only [Act.put, List.setIfInBounds_toArray, List.set_cons_zero, List.set_cons_succ]; refine hK _ ?_; clear hK K) | (refine seq_skipc (by rfl) ?_; intro K hK; simp only [Act.put, List.setIfInBounds_toArray, List.set_cons_zero, List.set_cons_succ]; refine hK _ ?_; clear hK K) | (refine seq_read (by rfl) (by rfl) ?_; intro K hK; go_big_quiet_op; first | go_big_quiet_on | (refine ⟨_, fun _ _ => rfl, ?_⟩; go_big_quiet_on))))
      refine seq_value (.func (.func 77) #[] #[.pointer (some ⟨g, 0, none⟩)]) (by rfl) (fun x hx => by simp [go_sem, execOp, Act.eval, Instr.index, Tryd.underlying87]) ?_; intro K hK; simp only [Act.put, List.setIfInBounds_toArray, List.set_cons_zero, List.set_cons_succ]; refine hK _ ?_; clear hK K
      refine seq_callv (asks2_c p _ m _ hm) rfl (by rfl) Tryd.func77 (by kernel_rfl) (by kernel_rfl) (by rfl) (by rfl) (by rfl) ?_; intro K hK; rintro e w' ⟨rfl, hE⟩; refine ⟨_, rfl, hE, ?_⟩; simp only [Act.put, List.setIfInBounds_toArray, List.set_cons_zero, List.set_cons_succ]; refine hK _ _ ?_; clear hK K
      replace HE := Lib.hid (HE.out.trans hE)
      clear hE
      (repeat (first | (refine seq_skip (by rfl) ?_; intro K hK; simp only [Act.put, List.setIfInBounds_toArray, List.set_cons_zero, List.set_cons_succ]; refine hK _ ?_; clear hK K) | (refine seq_skipc (by rfl) ?_; intro K hK; simp only [Act.put, List.setIfInBounds_toArray, List.set_cons_zero, List.set_cons_succ]; refine hK _ ?_; clear hK K) | (refine seq_read (by rfl) (by rfl) ?_; intro K hK; go_big_quiet_op; first | go_big_quiet_on | (refine ⟨_, fun _ _ => rfl, ?_⟩; go_big_quiet_on))))
      refine seq_done ?_
      go_wp2
      go_ret
      exact ⟨rfl, HE.out⟩
    · skip
      go_enter Tryd.func41, Tryd.ntmps41
      go_wp2_with (refine wpList_load_blk (by rfl) 39 _ rfl rfl (by with_reducible assumption) Tryd.underlying39 rfl (by kernel_rfl) ?_)
      refine (his _).mono ?_
      rintro e w1 ⟨rfl, hE⟩
      replace HE := Lib.hid (HE.out.trans hE).drew
      replace hb := (hb.ext hE).drew
      replace hc := (hc.ext hE).drew
      clear hE his
      go_wp2_with fail
      refine wp_region_seq [(0, false), (1, false), (2, true), (3, false), (4, false), (5, false), (7, false), (8, false), (10, false), (6, true), (9, false), (11, true), (12, false), (13, false)] Ext (by kernel_rfl) (by kernel_rfl) Ext.refl (fun _ _ _ => Ext.trans) ?_; simp only [List.map, nth_z, nth_s]
      refine seq_load rfl rfl (fun x hx => Blk.ext (hb) hx) rfl Tryd.underlying51 (by kernel_rfl) (by rfl) ?_; intro K hK; simp only [Act.put, List.setIfInBounds_toArray, List.set_cons_zero, List.set_cons_succ]; refine hK _ ?_; clear hK K
      refine seq_load rfl rfl (fun x hx => Blk.ext (hc) hx) rfl Tryd.underlying39 (by kernel_rfl) (by rfl) ?_; intro K hK; simp only [Act.put, List.setIfInBounds_toArray, List.set_cons_zero, List.set_cons_succ]; refine hK _ ?_; clear hK K
      refine seq_call (had _) rfl Tryd.func65 (by kernel_rfl) (by kernel_rfl) (by rfl) (by rfl) ?_; intro K hK; rintro e w' ⟨rfl, hE⟩; refine ⟨_, rfl, hE, ?_⟩; simp only [Act.put, List.setIfInBounds_toArray, List.set_cons_zero, List.set_cons_succ]; refine hK _ _ ?_; clear hK K
      replace HE := Lib.hid (HE.out.trans hE)
      replace hb := hb.ext hE
      replace hc := hc.ext hE
      clear hE had
      have hc1 := hc.wy
      (repeat (first | (refine seq_skip (by rfl) ?_; intro K hK; simp only [Act.put, List.setIfInBounds_toArray, List.set_cons_zero, List.set_cons_succ]; refine hK _ ?_; clear hK K) | (refine seq_skipc (by rfl) ?_; intro K hK; simp only [Act.put, List.setIfInBounds_toArray, List.set_cons_zero, List.set_cons_succ]; refine hK _ ?_; clear hK K) | (refine seq_read (by rfl) (by rfl) ?_; intro K hK; go_big_quiet_op; first | go_big_quiet_on | (refine ⟨_, fun _ _ => rfl, ?_⟩; go_big_quiet_on))))
      refine seq_value ((.bool m)) (by rfl) (fun x hx => by have hq := ext_cell hx (hc1.2.2.2); simp [go_sem, execOp, Act.eval, hq]) ?_; intro K hK; simp only [Act.put, List.setIfInBounds_toArray, List.set_cons_zero, List.set_cons_succ]; refine hK _ ?_; clear hK K
      (repeat (first | (refine seq_skip (by rfl) ?_; intro K hK; simp only [Act.put, List.setIfInBounds_toArray, List.set_cons_zero, List.set_cons_succ]; refine hK _ ?_; clear hK K) | (refine seq_skipc (by rfl) ?_; intro K hK; simp only [Act.put, List.setIfInBounds_toArray, List.set_cons_zero, List.set_cons_succ]; refine hK _ ?_; clear hK K) | (refine seq_read (by rfl) (by rfl) ?_; intro K hK; go_big_quiet_op; first | go_big_quiet_on | (refine ⟨_, fun _ _ => rfl, ?_⟩; go_big_quiet_on))))
      refine seq_value ((.int .i64 2)) (by rfl) (fun x hx => by have hq := ext_cell hx (hc1.1); simp [go_sem, execOp, Act.eval, hq]) ?_; intro K hK; simp only [Act.put, List.setIfInBounds_toArray, List.set_cons_zero, List.set_cons_succ]; refine hK _ ?_; clear hK K
      refine seq_load rfl rfl (fun x hx => Blk.ext (hb) hx) rfl Tryd.underlying51 (by kernel_rfl) (by rfl) ?_; intro K hK; simp only [Act.put, List.setIfInBounds_toArray, List.set_cons_zero, List.set_cons_succ]; refine hK _ ?_; clear hK K
      refine seq_call (asks_c m _) rfl Tryd.func66 (by kernel_rfl) (by kernel_rfl) (by rfl) (by rfl) ?_; intro K hK; rintro e w' ⟨g, rfl, hm, hE⟩; refine ⟨_, rfl, hE, ?_⟩; simp only [Act.put, List.setIfInBounds_toArray, List.set_cons_zero, List.set_cons_succ]; refine hK _ _ ?_; clear hK K
      replace HE := Lib.hid (HE.out.trans hE)
      clear hE
      (repeat (first | (refine seq_skip (by rfl) ?_; intro K hK; simp only [Act.put, List.setIfInBounds_toArray, List.set_cons_zero, List.set_cons_succ]; refine hK _ ?_; clear hK K) | (refine seq_skipc (by rfl) ?_; intro K hK; simp only [Act.put, List.setIfInBounds_toArray, List.set_cons_zero, List.set_cons_succ]; refine hK _ ?_; clear hK K) | (refine seq_read (by rfl) (by rfl) ?_; intro K hK; go_big_quiet_op; first | go_big_quiet_on | (refine ⟨_, fun _ _ => rfl, ?_⟩; go_big_quiet_on))))
      refine seq_value (.func (.func 78) #[] #[]) (by rfl) (fun x hx => by simp [go_sem, execOp, Act.eval, Instr.index, Tryd.underlying87]) ?_; intro K hK; simp only [Act.put, List.setIfInBounds_toArray, List.set_cons_zero, List.set_cons_succ]; refine hK _ ?_; clear hK K
      refine seq_callv (asks3_c p _) rfl (by rfl) Tryd.func78 (by kernel_rfl) (by kernel_rfl) (by rfl) (by rfl) (by rfl) ?_; intro K hK; rintro e w' ⟨rfl, hE⟩; refine ⟨_, rfl, hE, ?_⟩; simp only [Act.put, List.setIfInBounds_toArray, List.set_cons_zero, List.set_cons_succ]; refine hK _ _ ?_; clear hK K
      replace HE := Lib.hid (HE.out.trans hE)
      clear hE
      (repeat (first | (refine seq_skip (by rfl) ?_; intro K hK; simp only [Act.put, List.setIfInBounds_toArray, List.set_cons_zero, List.set_cons_succ]; refine hK _ ?_; clear hK K) | (refine seq_skipc (by rfl) ?_; intro K hK; simp only [Act.put, List.setIfInBounds_toArray, List.set_cons_zero, List.set_cons_succ]; refine hK _ ?_; clear hK K) | (refine seq_read (by rfl) (by rfl) ?_; intro K hK; go_big_quiet_op; first | go_big_quiet_on | (refine ⟨_, fun _ _ => rfl, ?_⟩; go_big_quiet_on))))
      refine seq_done ?_
      go_wp2
      go_ret
      exact ⟨rfl, HE.out⟩
end Go.Proofs.YthplkhkclhpobaaDoor
