/- Package pte: Bad. -/
import Derived.Test.YtdifjgppnfcnnaaDoorCsix
namespace Go.Proofs.YtdifjgppnfcnnaaDoor
open Go.ChangeShapes Go.WideShapes Go.ChangeAt Go.RowKit
set_option linter.unusedVariables false
set_option linter.unusedSimpArgs false

/-! Bad -/
theorem even_many {p : Nat} {l : Int} (l0 : 0 ≤ l) (l2 : l ≤ 2) : evenB (p : Int) (sizI l / 4096) = decide (p % manyN l = 0) := by
  rcases level_lt l0 l2 with rfl | rfl | rfl
  · rw [siz0]; unfold evenB manyN; rw [if_neg (by decide), Bool.eq_iff_iff, beq_iff_eq, decide_eq_true_iff]; simp; omega
  · rw [siz1]; unfold evenB manyN; rw [if_neg (by decide), Bool.eq_iff_iff, beq_iff_eq, decide_eq_true_iff]; simp; omega
  · rw [siz2]; unfold evenB manyN; rw [if_neg (by decide), Bool.eq_iff_iff, beq_iff_eq, decide_eq_true_iff]; simp; omega
theorem bad_eq (p : Pt) (l : Int) : badB p l = ((!p.v) || (p.w && !p.r) || !decide (p.hi = 0) || (if p.r || p.x then !decide (p.pp % manyN l = 0) else (l == 0) || p.a || p.d || p.u)) := by unfold badB; rfl
theorem link_eq (p : Pt) : linkB p = (p.v && !p.r && !p.x) := by unfold linkB; rfl
set_option maxRecDepth 100000 in
set_option maxHeartbeats 2000000 in
theorem bad_c (p : Pt) (hp : p.ok) (l : Int) (l0 : 0 ≤ l) (l2 : l ≤ 2) (w : World) (hT : Siz w) :
    Calls Tryd.prog 19 #[.agg (ptC p), .int .i64 l] w fun e w' => e = .returned (.bool (badB p l)) ∧ Ext w w' := by
  obtain ⟨ok0, ok1, ok2⟩ := hp
  have HE := Lib.hid ((Ext.refl w).alloc (.cells (ptC p) 24))
  have HT := Lib.hid (hT.ext HE.out)
  have H := Lib.hid (bad_eq p l)
  have hlink := link_c p
  have hl := link_eq p
  have hs := siz_lt l0 l2
  have hev := even_c (p.pp : Int) (sizI l / 4096) (by omega) (by omega) (by omega) (by omega)
  rw [even_many l0 l2] at hev
  clear hT
  rw [ptC_eq] at HE HT hlink ⊢
  cases hv : p.v
  case false =>
    rw [hv] at HE H
    clear hlink hl hev hs
    go_enter Tryd.func19, Tryd.ntmps19
    go_wp2
    go_ret
    exact ⟨by rw [H.out]; rfl, HE.out⟩
  cases hw : p.w <;> cases hr : p.r <;> cases hh : decide (p.hi = 0)
  all_goals
    have hh2 : ((p.hi : Int) == 0) = decide (p.hi = 0) := by rw [Bool.eq_iff_iff, beq_iff_eq, decide_eq_true_iff]; omega
    rw [hh] at hh2 H
    rw [hv, hw, hr] at HE HT H hlink
    rw [hv, hr] at hl
    try
      clear hlink hl hev hs
      go_enter Tryd.func19, Tryd.ntmps19
      go_wp2
      go_ret
      exact ⟨by rw [H.out]; rfl, HE.out⟩
  · rw [hl] at hlink
    cases hx : p.x
    · rw [hx] at HE HT H hlink
      clear hl hev hs
      cases h0 : (l == 0) <;> cases ha : p.a <;> cases hd : p.d
      all_goals
        rw [h0, ha, hd] at H
        rw [ha, hd] at HE hlink
        go_enter Tryd.func19, Tryd.ntmps19
        go_wp2_with fail; refine (hlink _).mono ?_; rintro e w1 ⟨rfl, hE⟩; replace HE := Lib.hid (HE.out.trans hE)
        obtain ⟨b0, b1, b2, b3, b4, b5, b6, b7, b8, b9, b10⟩ := (blk_one hE).pt
        clear hE hlink
        go_wp2
        go_ret
        exact ⟨by rw [H.out]; rfl, HE.out⟩
    · rw [hx] at HE HT H hlink
      clear hl
      go_enter Tryd.func19, Tryd.ntmps19
      go_wp2_with fail; refine (hlink _).mono ?_; rintro e w1 ⟨rfl, hE⟩; replace HE := Lib.hid (HE.out.trans hE)
      replace HT := Lib.hid (HT.out.ext hE)
      obtain ⟨-, -, -, -, -, -, -, -, -, b9, -⟩ := (blk_one hE).pt
      clear hE hlink
      go_wp2
      refine wp_region_seq [(0, false), (1, false), (2, false), (3, true), (4, false), (5, true), (6, false), (7, false)] Ext (by kernel_rfl) (by kernel_rfl) Ext.refl (fun _ _ _ => Ext.trans) ?_; simp only [List.map, nth_z, nth_s]
      (repeat (first | (refine seq_skip (by rfl) ?_; intro K hK; simp only [Act.put, List.setIfInBounds_toArray, List.set_cons_zero, List.set_cons_succ]; refine hK _ ?_; clear hK K) | (refine seq_skipc (by rfl) ?_; intro K hK; simp only [Act.put, List.setIfInBounds_toArray, List.set_cons_zero, List.set_cons_succ]; refine hK _ ?_; clear hK K) | (refine seq_read (by rfl) (by rfl) ?_; intro K hK; go_big_quiet_op; first | go_big_quiet_on | (refine ⟨_, fun _ _ => rfl, ?_⟩; go_big_quiet_on))))
      refine seq_value (.int .u64 (p.pp : Int)) (by rfl) (fun x hx => by have hq := ext_cell hx (b9); simp [go_sem, execOp, Act.eval, hq]) ?_; intro K hK; simp only [Act.put, List.setIfInBounds_toArray, List.set_cons_zero, List.set_cons_succ]; refine hK _ ?_; clear hK K
      (repeat (first | (refine seq_skip (by rfl) ?_; intro K hK; simp only [Act.put, List.setIfInBounds_toArray, List.set_cons_zero, List.set_cons_succ]; refine hK _ ?_; clear hK K) | (refine seq_skipc (by rfl) ?_; intro K hK; simp only [Act.put, List.setIfInBounds_toArray, List.set_cons_zero, List.set_cons_succ]; refine hK _ ?_; clear hK K) | (refine seq_read (by rfl) (by rfl) ?_; intro K hK; go_big_quiet_op; first | go_big_quiet_on | (refine ⟨_, fun _ _ => rfl, ?_⟩; go_big_quiet_on))))
      refine seq_call (size5_c l l0 l2 _ (HT.out.ext (Ext.refl _).drew)) rfl Tryd.func32 (by kernel_rfl) (by kernel_rfl) (by rfl) (by rfl) ?_; intro K hK; rintro e w' ⟨rfl, rfl⟩; refine ⟨_, rfl, Ext.refl _, ?_⟩; simp only [Act.put, List.setIfInBounds_toArray, List.set_cons_zero, List.set_cons_succ]; refine hK _ _ ?_; clear hK K
      (repeat (first | (refine seq_skip (by rfl) ?_; intro K hK; simp only [Act.put, List.setIfInBounds_toArray, List.set_cons_zero, List.set_cons_succ]; refine hK _ ?_; clear hK K) | (refine seq_skipc (by rfl) ?_; intro K hK; simp only [Act.put, List.setIfInBounds_toArray, List.set_cons_zero, List.set_cons_succ]; refine hK _ ?_; clear hK K) | (refine seq_read (by rfl) (by rfl) ?_; intro K hK; go_big_quiet_op; first | go_big_quiet_on | (refine ⟨_, fun _ _ => rfl, ?_⟩; go_big_quiet_on))))
      refine seq_call (hev _) rfl Tryd.func31 (by kernel_rfl) (by kernel_rfl) (by rfl) (by rfl) ?_; intro K hK; rintro e w' ⟨rfl, rfl⟩; refine ⟨_, rfl, Ext.refl _, ?_⟩; simp only [Act.put, List.setIfInBounds_toArray, List.set_cons_zero, List.set_cons_succ]; refine hK _ _ ?_; clear hK K
      (repeat (first | (refine seq_skip (by rfl) ?_; intro K hK; simp only [Act.put, List.setIfInBounds_toArray, List.set_cons_zero, List.set_cons_succ]; refine hK _ ?_; clear hK K) | (refine seq_skipc (by rfl) ?_; intro K hK; simp only [Act.put, List.setIfInBounds_toArray, List.set_cons_zero, List.set_cons_succ]; refine hK _ ?_; clear hK K) | (refine seq_read (by rfl) (by rfl) ?_; intro K hK; go_big_quiet_op; first | go_big_quiet_on | (refine ⟨_, fun _ _ => rfl, ?_⟩; go_big_quiet_on))))
      refine seq_done ?_
      clear hev
      go_wp2
      go_ret
      exact ⟨by rw [H.out]; rfl, HE.out.drew⟩
  all_goals
    simp only [Bool.not_true, Bool.and_false, Bool.false_and] at hl
    rw [hl] at hlink
    clear hl
    go_enter Tryd.func19, Tryd.ntmps19
    go_wp2_with fail; refine (hlink _).mono ?_; rintro e w1 ⟨rfl, hE⟩; replace HE := Lib.hid (HE.out.trans hE)
    replace HT := Lib.hid (HT.out.ext hE)
    obtain ⟨-, -, -, -, -, -, -, -, -, b9, -⟩ := (blk_one hE).pt
    clear hE hlink
    go_wp2
    refine wp_region_seq [(0, false), (1, false), (2, false), (3, true), (4, false), (5, true), (6, false), (7, false)] Ext (by kernel_rfl) (by kernel_rfl) Ext.refl (fun _ _ _ => Ext.trans) ?_; simp only [List.map, nth_z, nth_s]
    (repeat (first | (refine seq_skip (by rfl) ?_; intro K hK; simp only [Act.put, List.setIfInBounds_toArray, List.set_cons_zero, List.set_cons_succ]; refine hK _ ?_; clear hK K) | (refine seq_skipc (by rfl) ?_; intro K hK; simp only [Act.put, List.setIfInBounds_toArray, List.set_cons_zero, List.set_cons_succ]; refine hK _ ?_; clear hK K) | (refine seq_read (by rfl) (by rfl) ?_; intro K hK; go_big_quiet_op; first | go_big_quiet_on | (refine ⟨_, fun _ _ => rfl, ?_⟩; go_big_quiet_on))))
    refine seq_value (.int .u64 (p.pp : Int)) (by rfl) (fun x hx => by have hq := ext_cell hx (b9); simp [go_sem, execOp, Act.eval, hq]) ?_; intro K hK; simp only [Act.put, List.setIfInBounds_toArray, List.set_cons_zero, List.set_cons_succ]; refine hK _ ?_; clear hK K
    (repeat (first | (refine seq_skip (by rfl) ?_; intro K hK; simp only [Act.put, List.setIfInBounds_toArray, List.set_cons_zero, List.set_cons_succ]; refine hK _ ?_; clear hK K) | (refine seq_skipc (by rfl) ?_; intro K hK; simp only [Act.put, List.setIfInBounds_toArray, List.set_cons_zero, List.set_cons_succ]; refine hK _ ?_; clear hK K) | (refine seq_read (by rfl) (by rfl) ?_; intro K hK; go_big_quiet_op; first | go_big_quiet_on | (refine ⟨_, fun _ _ => rfl, ?_⟩; go_big_quiet_on))))
    refine seq_call (size5_c l l0 l2 _ (HT.out.ext (Ext.refl _).drew)) rfl Tryd.func32 (by kernel_rfl) (by kernel_rfl) (by rfl) (by rfl) ?_; intro K hK; rintro e w' ⟨rfl, rfl⟩; refine ⟨_, rfl, Ext.refl _, ?_⟩; simp only [Act.put, List.setIfInBounds_toArray, List.set_cons_zero, List.set_cons_succ]; refine hK _ _ ?_; clear hK K
    (repeat (first | (refine seq_skip (by rfl) ?_; intro K hK; simp only [Act.put, List.setIfInBounds_toArray, List.set_cons_zero, List.set_cons_succ]; refine hK _ ?_; clear hK K) | (refine seq_skipc (by rfl) ?_; intro K hK; simp only [Act.put, List.setIfInBounds_toArray, List.set_cons_zero, List.set_cons_succ]; refine hK _ ?_; clear hK K) | (refine seq_read (by rfl) (by rfl) ?_; intro K hK; go_big_quiet_op; first | go_big_quiet_on | (refine ⟨_, fun _ _ => rfl, ?_⟩; go_big_quiet_on))))
    refine seq_call (hev _) rfl Tryd.func31 (by kernel_rfl) (by kernel_rfl) (by rfl) (by rfl) ?_; intro K hK; rintro e w' ⟨rfl, rfl⟩; refine ⟨_, rfl, Ext.refl _, ?_⟩; simp only [Act.put, List.setIfInBounds_toArray, List.set_cons_zero, List.set_cons_succ]; refine hK _ _ ?_; clear hK K
    (repeat (first | (refine seq_skip (by rfl) ?_; intro K hK; simp only [Act.put, List.setIfInBounds_toArray, List.set_cons_zero, List.set_cons_succ]; refine hK _ ?_; clear hK K) | (refine seq_skipc (by rfl) ?_; intro K hK; simp only [Act.put, List.setIfInBounds_toArray, List.set_cons_zero, List.set_cons_succ]; refine hK _ ?_; clear hK K) | (refine seq_read (by rfl) (by rfl) ?_; intro K hK; go_big_quiet_op; first | go_big_quiet_on | (refine ⟨_, fun _ _ => rfl, ?_⟩; go_big_quiet_on))))
    refine seq_done ?_
    clear hev
    go_wp2
    go_ret
    exact ⟨by rw [H.out]; rfl, HE.out.drew⟩
end Go.Proofs.YtdifjgppnfcnnaaDoor
