/- PteMade. -/
import Derived.Test.YtdifjgppnfcnnaaDoorLaw06a
namespace Go.Proofs.YtdifjgppnfcnnaaDoor
open Go.ChangeShapes Go.WideShapes Go.ChangeAt Go.RowKit
set_option linter.unusedVariables false
set_option linter.unusedSimpArgs false

theorem Blk.ptg {w : World} {g : Nat} {t : TypeId} {p : Pt} (h : Blk w g t (ptC p)) : w.cell? ⟨g, 5, none⟩ = some (.bool p.g) := by
  rw [ptC_eq] at h
  exact h.cell 5
theorem Blk.pmf {w : World} {g : Nat} {t : TypeId} {m : Pm} (h : Blk w g t (pmC m)) : w.cell? ⟨g, 0, none⟩ = some (.bool m.r) ∧ w.cell? ⟨g, 1, none⟩ = some (.bool m.w) ∧ w.cell? ⟨g, 2, none⟩ = some (.bool m.x) := by
  rw [pmC_eq] at h
  exact ⟨h.cell 0, h.cell 1, h.cell 2⟩
theorem zero_get : getP 0 = ⟨false, false, false, false, false, false, false, false, 0, 0, 0⟩ := by unfold getP; simp
theorem shift_eq (f : Nat) (lv : Int) (v0 : 0 ≤ lv) : ∃ n : Nat, IntKind.u64.wrap ((f : Int) % 67108864 * 2 ^ (9 * (lv % 3)).toNat) = (n : Int) ∧ n < 17592186044416 ∧ n % manyN (lv % 3) = 0 := by
  have hx : f % 67108864 < 67108864 := Nat.mod_lt _ (by decide)
  rcases level_lt (l := lv % 3) (by omega) (by omega) with h | h | h
  · rw [h]
    refine ⟨f % 67108864, ?_, by omega, Nat.mod_one _⟩
    rw [show ((2 : Int) ^ (9 * (0 : Int)).toNat) = 1 from rfl, IntKind.wrap_u64]; omega
  · rw [h]
    refine ⟨f % 67108864 * 512, ?_, by omega, Nat.mul_mod_left _ _⟩
    rw [show ((2 : Int) ^ (9 * (1 : Int)).toNat) = 512 from rfl, IntKind.wrap_u64]; omega
  · rw [h]
    refine ⟨f % 67108864 * 262144, ?_, by omega, Nat.mul_mod_left _ _⟩
    rw [show ((2 : Int) ^ (9 * (2 : Int)).toNat) = 262144 from rfl, IntKind.wrap_u64]; omega
theorem made_facts (n : Nat) (m : Pm) (b : Bool) (l : Int) (hn : n < 17592186044416) (hd : n % manyN l = 0) (hm : (m.r || (m.x && !m.w)) = true) :
    leafB (makeP n m b) = true ∧ badB (makeP n m b) l = false ∧ mayB (makeP n m b) = true ∧ (makeP n m b).ok ∧ permP (makeP n m b) = m := by
  obtain ⟨r, w, x, u⟩ := m
  have hmay : mayB (makeP n ⟨r, w, x, u⟩ b) = true := by rw [may_iff]; unfold makeP; simp only; omega
  refine ⟨?_, ?_, hmay, ?_, ?_⟩
  · unfold leafB makeP; revert hm; cases r <;> cases x <;> simp
  · unfold badB makeP
    simp only [hd] at hm ⊢
    revert hm; cases r <;> cases x <;> cases w <;> simp
  · have := (may_iff _).1 hmay
    unfold Pt.ok; omega
  · unfold permP makeP; rfl
theorem zero_facts (l : Int) : badB ⟨false, false, false, false, false, false, false, false, 0, 0, 0⟩ l = true ∧ leafB ⟨false, false, false, false, false, false, false, false, 0, 0, 0⟩ = false ∧ linkB ⟨false, false, false, false, false, false, false, false, 0, 0, 0⟩ = false := by
  refine ⟨by unfold badB; simp, by unfold leafB; rfl, by unfold linkB; rfl⟩
theorem makeP_g (n : Nat) (m : Pm) (b : Bool) : (makeP n m b).g = b := by unfold makeP; rfl
set_option maxRecDepth 100000 in
set_option maxHeartbeats 4000000 in
theorem PteMade_w (f : Nat) (hf : f < 18446744073709551616) (lv : Int) (v0 : 0 ≤ lv) (v1 : lv ≤ 255) (m : Pm) (b : Bool) (w : World) (hT : Siz w) :
    Calls Tryd.prog 7 #[.int .u64 (f : Int), .int .u8 lv, .agg (pmC m), .bool b] w fun e w' => e = .returned (.bool true) ∧ Ext w w' := by
  have HE := Lib.hid ((Ext.refl w).alloc (.cells (pmC m) 34))
  have HT := Lib.hid (hT.ext HE.out)
  have hc := Blk.new w 34 (pmC m)
  clear hT
  go_enter Tryd.func7, Tryd.ntmps7
  go_wp2_with fail; refine (awake6_c _ HT.out).mono ?_; rintro e w1 ⟨rfl, hE⟩; replace HE := Lib.hid (HE.out.trans hE)
  replace hc := hc.ext hE
  replace HT := Lib.hid (HT.out.ext hE)
  clear hE
  obtain ⟨c0, c1, c2⟩ := hc.pmf
  obtain ⟨n, en, hn, hd⟩ := shift_eq f lv v0
  have hf1 := made_facts n m b (lv % 3) hn hd
  have l0 : 0 ≤ lv % 3 := by omega
  have l2 : lv % 3 ≤ 2 := by omega
  cases hr : m.r
  · rw [hr] at c0
    cases hx : m.x
    · rw [hx] at c2
      clear hf1 hn hd en hc
      go_wp2
      go_ret
      exact ⟨rfl, HE.out⟩
    · rw [hx] at c2
      cases hw : m.w
      · rw [hw] at c1
        replace hf1 := hf1 (by rw [hr, hx, hw]; rfl)
        clear hr hx hw
        have Hn := Lib.hid en
        clear hn hd en
        go_wp2_with (refine wpList_load_blk (by rfl) 34 _ rfl rfl (by assumption) Tryd.underlying34 rfl (by kernel_rfl) ?_)
        rw [Hn.out]
        refine (make_c n m b _).mono ?_
        rintro e w2 ⟨rfl, hE⟩
        replace HE := Lib.hid (HE.out.trans hE)
        replace hc := hc.ext hE
        replace HT := Lib.hid (HT.out.ext hE)
        clear hE c0 c1 c2 Hn
        obtain ⟨fl, fb, fm, fo, fp⟩ := hf1
        have hleaf := leaf_c (makeP n m b)
        rw [fl] at hleaf
        have hbad := bad_c (makeP n m b) fo (lv % 3) l0 l2
        rw [fb] at hbad
        have hput := put_yes (makeP n m b) fo fm
        have hget := get_pte (putN (makeP n m b)) (put_lt fm)
        rw [get_put fm] at hget
        have hperm := perm_c (makeP n m b)
        rw [fp] at hperm
        have hgg := makeP_g n m b
        clear fl fb fm fo fp
        generalize putN (makeP n m b) = y at hput hget
        generalize makeP n m b = M at *
        have hm := Blk.new w2 24 (ptC M)
        replace hc := hc.alloc (.cells (ptC M) 24)
        replace HT := Lib.hid (HT.out.ext ((Ext.refl _).alloc (.cells (ptC M) 24)))
        replace HE := Lib.hid (HE.out.alloc (.cells (ptC M) 24))
        go_wp2_with first | (refine wpList_store_new rfl 24 _ _ rfl (ptC _) _ _ rfl rfl (pt_info _) (by simp [ptC_size, pmC_size]) (ptC_one _) ?_) | (refine wpList_load_blk (by rfl) 24 _ rfl rfl (by assumption) Tryd.underlying24 rfl (by kernel_rfl) ?_)
        refine (hput _).mono ?_
        rintro e w3 ⟨rfl, hE⟩
        replace HE := Lib.hid (HE.out.trans hE)
        replace hc := hc.ext hE
        replace hm := hm.ext hE
        replace HT := Lib.hid (HT.out.ext hE)
        clear hE hput
        have hget0 : ∀ w, Calls Tryd.prog 12 #[.int .u64 0] w fun e w' => e = .returned (.agg (ptC ⟨false, false, false, false, false, false, false, false, 0, 0, 0⟩)) ∧ Ext w w' := fun w => by
          have h := get_pte 0 (by decide) w
          rwa [zero_get] at h
        have hq0 : ∀ w, (binOp .eql 24 (.agg (ptC ⟨false, false, false, false, false, false, false, false, 0, 0, 0⟩)) (.agg #[.bool false, .bool false, .bool false, .bool false, .bool false, .bool false, .bool false, .bool false, .int .u64 0, .int .u64 0, .int .u64 0])).run Tryd.prog w = .ok (.bool true) w := fun w => by
          have h := eql_pte w ⟨false, false, false, false, false, false, false, false, 0, 0, 0⟩ ⟨false, false, false, false, false, false, false, false, 0, 0, 0⟩
          rw [decide_eq_true rfl] at h
          have e : ptC ⟨false, false, false, false, false, false, false, false, 0, 0, 0⟩ = #[.bool false, .bool false, .bool false, .bool false, .bool false, .bool false, .bool false, .bool false, .int .u64 0, .int .u64 0, .int .u64 0] := ptC_def false false false false false false false false 0 0 0
          exact (congrArg (fun c => (binOp .eql 24 (.agg (ptC ⟨false, false, false, false, false, false, false, false, 0, 0, 0⟩)) (.agg c)).run Tryd.prog w) e).symm.trans h
        obtain ⟨zb, zl, zk⟩ := zero_facts (lv % 3)
        have hzbad := bad_c ⟨false, false, false, false, false, false, false, false, 0, 0, 0⟩ (by unfold Pt.ok; decide) (lv % 3) l0 l2
        rw [zb] at hzbad
        have hzleaf := leaf_c ⟨false, false, false, false, false, false, false, false, 0, 0, 0⟩
        rw [zl] at hzleaf
        have hzlink := link_c ⟨false, false, false, false, false, false, false, false, 0, 0, 0⟩
        rw [zk] at hzlink
        clear zb zl zk
        generalize (⟨false, false, false, false, false, false, false, false, 0, 0, 0⟩ : Pt) = Z at *
        go_wp2_with fail
        refine (hget0 _).mono ?_
        rintro e w4 ⟨rfl, hE⟩
        replace HE := Lib.hid (HE.out.trans hE)
        replace hc := hc.ext hE
        replace hm := hm.ext hE
        replace HT := Lib.hid (HT.out.ext hE)
        clear hE hget0
        have hz := (Blk.new w4 24 (ptC Z)).drew
        replace hc := (hc.alloc (.cells (ptC Z) 24)).drew
        replace hm := (hm.alloc (.cells (ptC Z) 24)).drew
        replace HT := Lib.hid ((HT.out.ext ((Ext.refl _).alloc (.cells (ptC Z) 24))).ext (Ext.refl _).drew)
        replace HE := Lib.hid (HE.out.alloc (.cells (ptC Z) 24)).drew
        go_wp2_with (refine wpList_store_new rfl 24 _ _ rfl (ptC _) _ _ rfl rfl (pt_info _) (by simp [ptC_size, pmC_size]) (ptC_one _) ?_)
        refine wp_region_seq [(0, false), (1, true), (2, false), (3, false), (4, false), (5, true), (6, false), (7, false), (8, false), (9, false), (10, false), (11, false), (12, false), (13, false), (15, false), (14, true), (16, false), (17, false), (18, false), (19, false), (21, false), (20, true), (22, false), (23, false), (24, false), (25, false), (26, false), (27, false), (28, false), (29, false), (30, false), (31, false), (32, false), (33, false), (34, false), (35, false), (36, false), (37, false), (38, true), (39, false), (40, false), (41, false), (42, true), (43, false), (44, false), (45, false), (46, false), (47, true), (48, false), (49, false), (50, false)] Ext (by kernel_rfl) (by kernel_rfl) Ext.refl (fun _ _ _ => Ext.trans) ?_; simp only [List.map, nth_z, nth_s]
        refine seq_load rfl rfl (fun x hx => Blk.ext (hm) hx) rfl Tryd.underlying24 (by kernel_rfl) (by rfl) ?_; intro K hK; simp only [Act.put, List.setIfInBounds_toArray, List.set_cons_zero, List.set_cons_succ]; refine hK _ ?_; clear hK K
        refine seq_call (hleaf _) rfl Tryd.func15 (by kernel_rfl) (by kernel_rfl) (by rfl) (by rfl) ?_; intro K hK; rintro e w' ⟨rfl, hE⟩; refine ⟨_, rfl, hE, ?_⟩; simp only [Act.put, List.setIfInBounds_toArray, List.set_cons_zero, List.set_cons_succ]; refine hK _ _ ?_; clear hK K; replace HE := Lib.hid (HE.out.trans hE); replace hm := hm.ext hE; replace hz := hz.ext hE; replace hc := hc.ext hE; replace HT := Lib.hid (HT.out.ext hE); clear hE
        (repeat (first | (refine seq_skip (by rfl) ?_; intro K hK; simp only [Act.put, List.setIfInBounds_toArray, List.set_cons_zero, List.set_cons_succ]; refine hK _ ?_; clear hK K) | (refine seq_skipc (by rfl) ?_; intro K hK; simp only [Act.put, List.setIfInBounds_toArray, List.set_cons_zero, List.set_cons_succ]; refine hK _ ?_; clear hK K) | (refine seq_read (by rfl) (by rfl) ?_; intro K hK; go_big_quiet_op; first | go_big_quiet_on | (refine ⟨_, fun _ _ => rfl, ?_⟩; go_big_quiet_on))))
        refine seq_load rfl rfl (fun x hx => Blk.ext (hm) hx) rfl Tryd.underlying24 (by kernel_rfl) (by rfl) ?_; intro K hK; simp only [Act.put, List.setIfInBounds_toArray, List.set_cons_zero, List.set_cons_succ]; refine hK _ ?_; clear hK K
        (repeat (first | (refine seq_skip (by rfl) ?_; intro K hK; simp only [Act.put, List.setIfInBounds_toArray, List.set_cons_zero, List.set_cons_succ]; refine hK _ ?_; clear hK K) | (refine seq_skipc (by rfl) ?_; intro K hK; simp only [Act.put, List.setIfInBounds_toArray, List.set_cons_zero, List.set_cons_succ]; refine hK _ ?_; clear hK K) | (refine seq_read (by rfl) (by rfl) ?_; intro K hK; go_big_quiet_op; first | go_big_quiet_on | (refine ⟨_, fun _ _ => rfl, ?_⟩; go_big_quiet_on))))
        refine seq_call (hbad _ HT.out) rfl Tryd.func19 (by kernel_rfl) (by kernel_rfl) (by rfl) (by rfl) ?_; intro K hK; rintro e w' ⟨rfl, hE⟩; refine ⟨_, rfl, hE, ?_⟩; simp only [Act.put, List.setIfInBounds_toArray, List.set_cons_zero, List.set_cons_succ]; refine hK _ _ ?_; clear hK K; replace HE := Lib.hid (HE.out.trans hE); replace hm := hm.ext hE; replace hz := hz.ext hE; replace hc := hc.ext hE; replace HT := Lib.hid (HT.out.ext hE); clear hE
        (repeat (first | (refine seq_skip (by rfl) ?_; intro K hK; simp only [Act.put, List.setIfInBounds_toArray, List.set_cons_zero, List.set_cons_succ]; refine hK _ ?_; clear hK K) | (refine seq_skipc (by rfl) ?_; intro K hK; simp only [Act.put, List.setIfInBounds_toArray, List.set_cons_zero, List.set_cons_succ]; refine hK _ ?_; clear hK K) | (refine seq_read (by rfl) (by rfl) ?_; intro K hK; go_big_quiet_op; first | go_big_quiet_on | (refine ⟨_, fun _ _ => rfl, ?_⟩; go_big_quiet_on))))
        refine seq_load rfl rfl (fun x hx => Blk.ext (hm) hx) rfl Tryd.underlying24 (by kernel_rfl) (by rfl) ?_; intro K hK; simp only [Act.put, List.setIfInBounds_toArray, List.set_cons_zero, List.set_cons_succ]; refine hK _ ?_; clear hK K
        refine seq_call (hget _) rfl Tryd.func12 (by kernel_rfl) (by kernel_rfl) (by rfl) (by rfl) ?_; intro K hK; rintro e w' ⟨rfl, hE⟩; refine ⟨_, rfl, hE, ?_⟩; simp only [Act.put, List.setIfInBounds_toArray, List.set_cons_zero, List.set_cons_succ]; refine hK _ _ ?_; clear hK K; replace HE := Lib.hid (HE.out.trans hE); replace hm := hm.ext hE; replace hz := hz.ext hE; replace hc := hc.ext hE; replace HT := Lib.hid (HT.out.ext hE); clear hE
        refine seq_value (.bool true) (by rfl) (fun x hx => by simp [go_sem, execOp, Act.eval, eql_pte, run_eqGuard_agg _ _ _ _ _ _ _ pte_guard, run_eqGuard_agg _ _ _ _ _ _ _ perm_guard]) ?_; intro K hK; simp only [Act.put, List.setIfInBounds_toArray, List.set_cons_zero, List.set_cons_succ]; refine hK _ ?_; clear hK K
        (repeat (first | (refine seq_skip (by rfl) ?_; intro K hK; simp only [Act.put, List.setIfInBounds_toArray, List.set_cons_zero, List.set_cons_succ]; refine hK _ ?_; clear hK K) | (refine seq_skipc (by rfl) ?_; intro K hK; simp only [Act.put, List.setIfInBounds_toArray, List.set_cons_zero, List.set_cons_succ]; refine hK _ ?_; clear hK K) | (refine seq_read (by rfl) (by rfl) ?_; intro K hK; go_big_quiet_op; first | go_big_quiet_on | (refine ⟨_, fun _ _ => rfl, ?_⟩; go_big_quiet_on))))
        refine seq_load rfl rfl (fun x hx => Blk.ext (hm) hx) rfl Tryd.underlying24 (by kernel_rfl) (by rfl) ?_; intro K hK; simp only [Act.put, List.setIfInBounds_toArray, List.set_cons_zero, List.set_cons_succ]; refine hK _ ?_; clear hK K
        refine seq_load rfl rfl (fun x hx => Blk.ext (hc) hx) rfl Tryd.underlying34 (by kernel_rfl) (by rfl) ?_; intro K hK; simp only [Act.put, List.setIfInBounds_toArray, List.set_cons_zero, List.set_cons_succ]; refine hK _ ?_; clear hK K
        refine seq_call (hperm _) rfl Tryd.func23 (by kernel_rfl) (by kernel_rfl) (by rfl) (by rfl) ?_; intro K hK; rintro e w' ⟨rfl, hE⟩; refine ⟨_, rfl, hE, ?_⟩; simp only [Act.put, List.setIfInBounds_toArray, List.set_cons_zero, List.set_cons_succ]; refine hK _ _ ?_; clear hK K; replace HE := Lib.hid (HE.out.trans hE); replace hm := hm.ext hE; replace hz := hz.ext hE; replace hc := hc.ext hE; replace HT := Lib.hid (HT.out.ext hE); clear hE
        refine seq_value (.bool true) (by rfl) (fun x hx => by simp [go_sem, execOp, Act.eval, eql_perm, run_eqGuard_agg _ _ _ _ _ _ _ pte_guard, run_eqGuard_agg _ _ _ _ _ _ _ perm_guard]) ?_; intro K hK; simp only [Act.put, List.setIfInBounds_toArray, List.set_cons_zero, List.set_cons_succ]; refine hK _ ?_; clear hK K
        (repeat (first | (refine seq_skip (by rfl) ?_; intro K hK; simp only [Act.put, List.setIfInBounds_toArray, List.set_cons_zero, List.set_cons_succ]; refine hK _ ?_; clear hK K) | (refine seq_skipc (by rfl) ?_; intro K hK; simp only [Act.put, List.setIfInBounds_toArray, List.set_cons_zero, List.set_cons_succ]; refine hK _ ?_; clear hK K) | (refine seq_read (by rfl) (by rfl) ?_; intro K hK; go_big_quiet_op; first | go_big_quiet_on | (refine ⟨_, fun _ _ => rfl, ?_⟩; go_big_quiet_on))))
        have g5 := hm.ptg
        rw [hgg] at g5
        refine seq_value (.bool b) (by rfl) (fun x hx => by have hq := ext_cell hx (g5); simp [go_sem, execOp, Act.eval, hq]) ?_; intro K hK; simp only [Act.put, List.setIfInBounds_toArray, List.set_cons_zero, List.set_cons_succ]; refine hK _ ?_; clear hK K
        clear g5
        (repeat (first | (refine seq_skip (by rfl) ?_; intro K hK; simp only [Act.put, List.setIfInBounds_toArray, List.set_cons_zero, List.set_cons_succ]; refine hK _ ?_; clear hK K) | (refine seq_skipc (by rfl) ?_; intro K hK; simp only [Act.put, List.setIfInBounds_toArray, List.set_cons_zero, List.set_cons_succ]; refine hK _ ?_; clear hK K) | (refine seq_read (by rfl) (by rfl) ?_; intro K hK; go_big_quiet_op; first | go_big_quiet_on | (refine ⟨_, fun _ _ => rfl, ?_⟩; go_big_quiet_on))))
        refine seq_load rfl rfl (fun x hx => Blk.ext (hz) hx) rfl Tryd.underlying24 (by kernel_rfl) (by rfl) ?_; intro K hK; simp only [Act.put, List.setIfInBounds_toArray, List.set_cons_zero, List.set_cons_succ]; refine hK _ ?_; clear hK K
        refine seq_value (.agg #[.bool false, .bool false, .bool false, .bool false, .bool false, .bool false, .bool false, .bool false, .int .u64 0, .int .u64 0, .int .u64 0]) (by rfl) (fun x hx => by simp [go_sem, execOp, Act.eval]) ?_; intro K hK; simp only [Act.put, List.setIfInBounds_toArray, List.set_cons_zero, List.set_cons_succ]; refine hK _ ?_; clear hK K
        refine seq_value (.bool true) (by rfl) (fun x hx => by simp [go_sem, execOp, Act.eval, hq0, run_eqGuard_agg _ _ _ _ _ _ _ pte_guard, run_eqGuard_agg _ _ _ _ _ _ _ perm_guard]) ?_; intro K hK; simp only [Act.put, List.setIfInBounds_toArray, List.set_cons_zero, List.set_cons_succ]; refine hK _ ?_; clear hK K
        (repeat (first | (refine seq_skip (by rfl) ?_; intro K hK; simp only [Act.put, List.setIfInBounds_toArray, List.set_cons_zero, List.set_cons_succ]; refine hK _ ?_; clear hK K) | (refine seq_skipc (by rfl) ?_; intro K hK; simp only [Act.put, List.setIfInBounds_toArray, List.set_cons_zero, List.set_cons_succ]; refine hK _ ?_; clear hK K) | (refine seq_read (by rfl) (by rfl) ?_; intro K hK; go_big_quiet_op; first | go_big_quiet_on | (refine ⟨_, fun _ _ => rfl, ?_⟩; go_big_quiet_on))))
        refine seq_load rfl rfl (fun x hx => Blk.ext (hz) hx) rfl Tryd.underlying24 (by kernel_rfl) (by rfl) ?_; intro K hK; simp only [Act.put, List.setIfInBounds_toArray, List.set_cons_zero, List.set_cons_succ]; refine hK _ ?_; clear hK K
        (repeat (first | (refine seq_skip (by rfl) ?_; intro K hK; simp only [Act.put, List.setIfInBounds_toArray, List.set_cons_zero, List.set_cons_succ]; refine hK _ ?_; clear hK K) | (refine seq_skipc (by rfl) ?_; intro K hK; simp only [Act.put, List.setIfInBounds_toArray, List.set_cons_zero, List.set_cons_succ]; refine hK _ ?_; clear hK K) | (refine seq_read (by rfl) (by rfl) ?_; intro K hK; go_big_quiet_op; first | go_big_quiet_on | (refine ⟨_, fun _ _ => rfl, ?_⟩; go_big_quiet_on))))
        refine seq_call (hzbad _ HT.out) rfl Tryd.func19 (by kernel_rfl) (by kernel_rfl) (by rfl) (by rfl) ?_; intro K hK; rintro e w' ⟨rfl, hE⟩; refine ⟨_, rfl, hE, ?_⟩; simp only [Act.put, List.setIfInBounds_toArray, List.set_cons_zero, List.set_cons_succ]; refine hK _ _ ?_; clear hK K; replace HE := Lib.hid (HE.out.trans hE); replace hm := hm.ext hE; replace hz := hz.ext hE; replace hc := hc.ext hE; replace HT := Lib.hid (HT.out.ext hE); clear hE
        (repeat (first | (refine seq_skip (by rfl) ?_; intro K hK; simp only [Act.put, List.setIfInBounds_toArray, List.set_cons_zero, List.set_cons_succ]; refine hK _ ?_; clear hK K) | (refine seq_skipc (by rfl) ?_; intro K hK; simp only [Act.put, List.setIfInBounds_toArray, List.set_cons_zero, List.set_cons_succ]; refine hK _ ?_; clear hK K) | (refine seq_read (by rfl) (by rfl) ?_; intro K hK; go_big_quiet_op; first | go_big_quiet_on | (refine ⟨_, fun _ _ => rfl, ?_⟩; go_big_quiet_on))))
        refine seq_load rfl rfl (fun x hx => Blk.ext (hz) hx) rfl Tryd.underlying24 (by kernel_rfl) (by rfl) ?_; intro K hK; simp only [Act.put, List.setIfInBounds_toArray, List.set_cons_zero, List.set_cons_succ]; refine hK _ ?_; clear hK K
        refine seq_call (hzleaf _) rfl Tryd.func15 (by kernel_rfl) (by kernel_rfl) (by rfl) (by rfl) ?_; intro K hK; rintro e w' ⟨rfl, hE⟩; refine ⟨_, rfl, hE, ?_⟩; simp only [Act.put, List.setIfInBounds_toArray, List.set_cons_zero, List.set_cons_succ]; refine hK _ _ ?_; clear hK K; replace HE := Lib.hid (HE.out.trans hE); replace hm := hm.ext hE; replace hz := hz.ext hE; replace hc := hc.ext hE; replace HT := Lib.hid (HT.out.ext hE); clear hE
        (repeat (first | (refine seq_skip (by rfl) ?_; intro K hK; simp only [Act.put, List.setIfInBounds_toArray, List.set_cons_zero, List.set_cons_succ]; refine hK _ ?_; clear hK K) | (refine seq_skipc (by rfl) ?_; intro K hK; simp only [Act.put, List.setIfInBounds_toArray, List.set_cons_zero, List.set_cons_succ]; refine hK _ ?_; clear hK K) | (refine seq_read (by rfl) (by rfl) ?_; intro K hK; go_big_quiet_op; first | go_big_quiet_on | (refine ⟨_, fun _ _ => rfl, ?_⟩; go_big_quiet_on))))
        refine seq_load rfl rfl (fun x hx => Blk.ext (hz) hx) rfl Tryd.underlying24 (by kernel_rfl) (by rfl) ?_; intro K hK; simp only [Act.put, List.setIfInBounds_toArray, List.set_cons_zero, List.set_cons_succ]; refine hK _ ?_; clear hK K
        refine seq_call (hzlink _) rfl Tryd.func17 (by kernel_rfl) (by kernel_rfl) (by rfl) (by rfl) ?_; intro K hK; rintro e w' ⟨rfl, hE⟩; refine ⟨_, rfl, hE, ?_⟩; simp only [Act.put, List.setIfInBounds_toArray, List.set_cons_zero, List.set_cons_succ]; refine hK _ _ ?_; clear hK K; replace HE := Lib.hid (HE.out.trans hE); replace hm := hm.ext hE; replace hz := hz.ext hE; replace hc := hc.ext hE; replace HT := Lib.hid (HT.out.ext hE); clear hE
        (repeat (first | (refine seq_skip (by rfl) ?_; intro K hK; simp only [Act.put, List.setIfInBounds_toArray, List.set_cons_zero, List.set_cons_succ]; refine hK _ ?_; clear hK K) | (refine seq_skipc (by rfl) ?_; intro K hK; simp only [Act.put, List.setIfInBounds_toArray, List.set_cons_zero, List.set_cons_succ]; refine hK _ ?_; clear hK K) | (refine seq_read (by rfl) (by rfl) ?_; intro K hK; go_big_quiet_op; first | go_big_quiet_on | (refine ⟨_, fun _ _ => rfl, ?_⟩; go_big_quiet_on))))
        refine seq_done ?_
        clear hz hc hm hq0 hzbad hzleaf hzlink hleaf hbad hget hperm
        go_wp2
        go_ret
        exact ⟨rfl, HE.out⟩
      · rw [hw] at c1
        clear hf1 hn hd en hc
        go_wp2
        go_ret
        exact ⟨rfl, HE.out⟩
  · rw [hr] at c0
    replace hf1 := hf1 (by rw [hr]; rfl)
    clear hr
    have Hn := Lib.hid en
    clear hn hd en
    go_wp2_with (refine wpList_load_blk (by rfl) 34 _ rfl rfl (by assumption) Tryd.underlying34 rfl (by kernel_rfl) ?_)
    rw [Hn.out]
    refine (make_c n m b _).mono ?_
    rintro e w2 ⟨rfl, hE⟩
    replace HE := Lib.hid (HE.out.trans hE)
    replace hc := hc.ext hE
    replace HT := Lib.hid (HT.out.ext hE)
    clear hE c0 c1 c2 Hn
    obtain ⟨fl, fb, fm, fo, fp⟩ := hf1
    have hleaf := leaf_c (makeP n m b)
    rw [fl] at hleaf
    have hbad := bad_c (makeP n m b) fo (lv % 3) l0 l2
    rw [fb] at hbad
    have hput := put_yes (makeP n m b) fo fm
    have hget := get_pte (putN (makeP n m b)) (put_lt fm)
    rw [get_put fm] at hget
    have hperm := perm_c (makeP n m b)
    rw [fp] at hperm
    have hgg := makeP_g n m b
    clear fl fb fm fo fp
    generalize putN (makeP n m b) = y at hput hget
    generalize makeP n m b = M at *
    have hm := Blk.new w2 24 (ptC M)
    replace hc := hc.alloc (.cells (ptC M) 24)
    replace HT := Lib.hid (HT.out.ext ((Ext.refl _).alloc (.cells (ptC M) 24)))
    replace HE := Lib.hid (HE.out.alloc (.cells (ptC M) 24))
    go_wp2_with first | (refine wpList_store_new rfl 24 _ _ rfl (ptC _) _ _ rfl rfl (pt_info _) (by simp [ptC_size, pmC_size]) (ptC_one _) ?_) | (refine wpList_load_blk (by rfl) 24 _ rfl rfl (by assumption) Tryd.underlying24 rfl (by kernel_rfl) ?_)
    refine (hput _).mono ?_
    rintro e w3 ⟨rfl, hE⟩
    replace HE := Lib.hid (HE.out.trans hE)
    replace hc := hc.ext hE
    replace hm := hm.ext hE
    replace HT := Lib.hid (HT.out.ext hE)
    clear hE hput
    have hget0 : ∀ w, Calls Tryd.prog 12 #[.int .u64 0] w fun e w' => e = .returned (.agg (ptC ⟨false, false, false, false, false, false, false, false, 0, 0, 0⟩)) ∧ Ext w w' := fun w => by
      have h := get_pte 0 (by decide) w
      rwa [zero_get] at h
    have hq0 : ∀ w, (binOp .eql 24 (.agg (ptC ⟨false, false, false, false, false, false, false, false, 0, 0, 0⟩)) (.agg #[.bool false, .bool false, .bool false, .bool false, .bool false, .bool false, .bool false, .bool false, .int .u64 0, .int .u64 0, .int .u64 0])).run Tryd.prog w = .ok (.bool true) w := fun w => by
      have h := eql_pte w ⟨false, false, false, false, false, false, false, false, 0, 0, 0⟩ ⟨false, false, false, false, false, false, false, false, 0, 0, 0⟩
      rw [decide_eq_true rfl] at h
      have e : ptC ⟨false, false, false, false, false, false, false, false, 0, 0, 0⟩ = #[.bool false, .bool false, .bool false, .bool false, .bool false, .bool false, .bool false, .bool false, .int .u64 0, .int .u64 0, .int .u64 0] := ptC_def false false false false false false false false 0 0 0
      exact (congrArg (fun c => (binOp .eql 24 (.agg (ptC ⟨false, false, false, false, false, false, false, false, 0, 0, 0⟩)) (.agg c)).run Tryd.prog w) e).symm.trans h
    obtain ⟨zb, zl, zk⟩ := zero_facts (lv % 3)
    have hzbad := bad_c ⟨false, false, false, false, false, false, false, false, 0, 0, 0⟩ (by unfold Pt.ok; decide) (lv % 3) l0 l2
    rw [zb] at hzbad
    have hzleaf := leaf_c ⟨false, false, false, false, false, false, false, false, 0, 0, 0⟩
    rw [zl] at hzleaf
    have hzlink := link_c ⟨false, false, false, false, false, false, false, false, 0, 0, 0⟩
    rw [zk] at hzlink
    clear zb zl zk
    generalize (⟨false, false, false, false, false, false, false, false, 0, 0, 0⟩ : Pt) = Z at *
    go_wp2_with fail
    refine (hget0 _).mono ?_
    rintro e w4 ⟨rfl, hE⟩
    replace HE := Lib.hid (HE.out.trans hE)
    replace hc := hc.ext hE
    replace hm := hm.ext hE
    replace HT := Lib.hid (HT.out.ext hE)
    clear hE hget0
    have hz := (Blk.new w4 24 (ptC Z)).drew
    replace hc := (hc.alloc (.cells (ptC Z) 24)).drew
    replace hm := (hm.alloc (.cells (ptC Z) 24)).drew
    replace HT := Lib.hid ((HT.out.ext ((Ext.refl _).alloc (.cells (ptC Z) 24))).ext (Ext.refl _).drew)
    replace HE := Lib.hid (HE.out.alloc (.cells (ptC Z) 24)).drew
    go_wp2_with (refine wpList_store_new rfl 24 _ _ rfl (ptC _) _ _ rfl rfl (pt_info _) (by simp [ptC_size, pmC_size]) (ptC_one _) ?_)
    refine wp_region_seq [(0, false), (1, true), (2, false), (3, false), (4, false), (5, true), (6, false), (7, false), (8, false), (9, false), (10, false), (11, false), (12, false), (13, false), (15, false), (14, true), (16, false), (17, false), (18, false), (19, false), (21, false), (20, true), (22, false), (23, false), (24, false), (25, false), (26, false), (27, false), (28, false), (29, false), (30, false), (31, false), (32, false), (33, false), (34, false), (35, false), (36, false), (37, false), (38, true), (39, false), (40, false), (41, false), (42, true), (43, false), (44, false), (45, false), (46, false), (47, true), (48, false), (49, false), (50, false)] Ext (by kernel_rfl) (by kernel_rfl) Ext.refl (fun _ _ _ => Ext.trans) ?_; simp only [List.map, nth_z, nth_s]
    refine seq_load rfl rfl (fun x hx => Blk.ext (hm) hx) rfl Tryd.underlying24 (by kernel_rfl) (by rfl) ?_; intro K hK; simp only [Act.put, List.setIfInBounds_toArray, List.set_cons_zero, List.set_cons_succ]; refine hK _ ?_; clear hK K
    refine seq_call (hleaf _) rfl Tryd.func15 (by kernel_rfl) (by kernel_rfl) (by rfl) (by rfl) ?_; intro K hK; rintro e w' ⟨rfl, hE⟩; refine ⟨_, rfl, hE, ?_⟩; simp only [Act.put, List.setIfInBounds_toArray, List.set_cons_zero, List.set_cons_succ]; refine hK _ _ ?_; clear hK K; replace HE := Lib.hid (HE.out.trans hE); replace hm := hm.ext hE; replace hz := hz.ext hE; replace hc := hc.ext hE; replace HT := Lib.hid (HT.out.ext hE); clear hE
    (repeat (first | (refine seq_skip (by rfl) ?_; intro K hK; simp only [Act.put, List.setIfInBounds_toArray, List.set_cons_zero, List.set_cons_succ]; refine hK _ ?_; clear hK K) | (refine seq_skipc (by rfl) ?_; intro K hK; simp only [Act.put, List.setIfInBounds_toArray, List.set_cons_zero, List.set_cons_succ]; refine hK _ ?_; clear hK K) | (refine seq_read (by rfl) (by rfl) ?_; intro K hK; go_big_quiet_op; first | go_big_quiet_on | (refine ⟨_, fun _ _ => rfl, ?_⟩; go_big_quiet_on))))
    refine seq_load rfl rfl (fun x hx => Blk.ext (hm) hx) rfl Tryd.underlying24 (by kernel_rfl) (by rfl) ?_; intro K hK; simp only [Act.put, List.setIfInBounds_toArray, List.set_cons_zero, List.set_cons_succ]; refine hK _ ?_; clear hK K
    (repeat (first | (refine seq_skip (by rfl) ?_; intro K hK; simp only [Act.put, List.setIfInBounds_toArray, List.set_cons_zero, List.set_cons_succ]; refine hK _ ?_; clear hK K) | (refine seq_skipc (by rfl) ?_; intro K hK; simp only [Act.put, List.setIfInBounds_toArray, List.set_cons_zero, List.set_cons_succ]; refine hK _ ?_; clear hK K) | (refine seq_read (by rfl) (by rfl) ?_; intro K hK; go_big_quiet_op; first | go_big_quiet_on | (refine ⟨_, fun _ _ => rfl, ?_⟩; go_big_quiet_on))))
    refine seq_call (hbad _ HT.out) rfl Tryd.func19 (by kernel_rfl) (by kernel_rfl) (by rfl) (by rfl) ?_; intro K hK; rintro e w' ⟨rfl, hE⟩; refine ⟨_, rfl, hE, ?_⟩; simp only [Act.put, List.setIfInBounds_toArray, List.set_cons_zero, List.set_cons_succ]; refine hK _ _ ?_; clear hK K; replace HE := Lib.hid (HE.out.trans hE); replace hm := hm.ext hE; replace hz := hz.ext hE; replace hc := hc.ext hE; replace HT := Lib.hid (HT.out.ext hE); clear hE
    (repeat (first | (refine seq_skip (by rfl) ?_; intro K hK; simp only [Act.put, List.setIfInBounds_toArray, List.set_cons_zero, List.set_cons_succ]; refine hK _ ?_; clear hK K) | (refine seq_skipc (by rfl) ?_; intro K hK; simp only [Act.put, List.setIfInBounds_toArray, List.set_cons_zero, List.set_cons_succ]; refine hK _ ?_; clear hK K) | (refine seq_read (by rfl) (by rfl) ?_; intro K hK; go_big_quiet_op; first | go_big_quiet_on | (refine ⟨_, fun _ _ => rfl, ?_⟩; go_big_quiet_on))))
    refine seq_load rfl rfl (fun x hx => Blk.ext (hm) hx) rfl Tryd.underlying24 (by kernel_rfl) (by rfl) ?_; intro K hK; simp only [Act.put, List.setIfInBounds_toArray, List.set_cons_zero, List.set_cons_succ]; refine hK _ ?_; clear hK K
    refine seq_call (hget _) rfl Tryd.func12 (by kernel_rfl) (by kernel_rfl) (by rfl) (by rfl) ?_; intro K hK; rintro e w' ⟨rfl, hE⟩; refine ⟨_, rfl, hE, ?_⟩; simp only [Act.put, List.setIfInBounds_toArray, List.set_cons_zero, List.set_cons_succ]; refine hK _ _ ?_; clear hK K; replace HE := Lib.hid (HE.out.trans hE); replace hm := hm.ext hE; replace hz := hz.ext hE; replace hc := hc.ext hE; replace HT := Lib.hid (HT.out.ext hE); clear hE
    refine seq_value (.bool true) (by rfl) (fun x hx => by simp [go_sem, execOp, Act.eval, eql_pte, run_eqGuard_agg _ _ _ _ _ _ _ pte_guard, run_eqGuard_agg _ _ _ _ _ _ _ perm_guard]) ?_; intro K hK; simp only [Act.put, List.setIfInBounds_toArray, List.set_cons_zero, List.set_cons_succ]; refine hK _ ?_; clear hK K
    (repeat (first | (refine seq_skip (by rfl) ?_; intro K hK; simp only [Act.put, List.setIfInBounds_toArray, List.set_cons_zero, List.set_cons_succ]; refine hK _ ?_; clear hK K) | (refine seq_skipc (by rfl) ?_; intro K hK; simp only [Act.put, List.setIfInBounds_toArray, List.set_cons_zero, List.set_cons_succ]; refine hK _ ?_; clear hK K) | (refine seq_read (by rfl) (by rfl) ?_; intro K hK; go_big_quiet_op; first | go_big_quiet_on | (refine ⟨_, fun _ _ => rfl, ?_⟩; go_big_quiet_on))))
    refine seq_load rfl rfl (fun x hx => Blk.ext (hm) hx) rfl Tryd.underlying24 (by kernel_rfl) (by rfl) ?_; intro K hK; simp only [Act.put, List.setIfInBounds_toArray, List.set_cons_zero, List.set_cons_succ]; refine hK _ ?_; clear hK K
    refine seq_load rfl rfl (fun x hx => Blk.ext (hc) hx) rfl Tryd.underlying34 (by kernel_rfl) (by rfl) ?_; intro K hK; simp only [Act.put, List.setIfInBounds_toArray, List.set_cons_zero, List.set_cons_succ]; refine hK _ ?_; clear hK K
    refine seq_call (hperm _) rfl Tryd.func23 (by kernel_rfl) (by kernel_rfl) (by rfl) (by rfl) ?_; intro K hK; rintro e w' ⟨rfl, hE⟩; refine ⟨_, rfl, hE, ?_⟩; simp only [Act.put, List.setIfInBounds_toArray, List.set_cons_zero, List.set_cons_succ]; refine hK _ _ ?_; clear hK K; replace HE := Lib.hid (HE.out.trans hE); replace hm := hm.ext hE; replace hz := hz.ext hE; replace hc := hc.ext hE; replace HT := Lib.hid (HT.out.ext hE); clear hE
    refine seq_value (.bool true) (by rfl) (fun x hx => by simp [go_sem, execOp, Act.eval, eql_perm, run_eqGuard_agg _ _ _ _ _ _ _ pte_guard, run_eqGuard_agg _ _ _ _ _ _ _ perm_guard]) ?_; intro K hK; simp only [Act.put, List.setIfInBounds_toArray, List.set_cons_zero, List.set_cons_succ]; refine hK _ ?_; clear hK K
    (repeat (first | (refine seq_skip (by rfl) ?_; intro K hK; simp only [Act.put, List.setIfInBounds_toArray, List.set_cons_zero, List.set_cons_succ]; refine hK _ ?_; clear hK K) | (refine seq_skipc (by rfl) ?_; intro K hK; simp only [Act.put, List.setIfInBounds_toArray, List.set_cons_zero, List.set_cons_succ]; refine hK _ ?_; clear hK K) | (refine seq_read (by rfl) (by rfl) ?_; intro K hK; go_big_quiet_op; first | go_big_quiet_on | (refine ⟨_, fun _ _ => rfl, ?_⟩; go_big_quiet_on))))
    have g5 := hm.ptg
    rw [hgg] at g5
    refine seq_value (.bool b) (by rfl) (fun x hx => by have hq := ext_cell hx (g5); simp [go_sem, execOp, Act.eval, hq]) ?_; intro K hK; simp only [Act.put, List.setIfInBounds_toArray, List.set_cons_zero, List.set_cons_succ]; refine hK _ ?_; clear hK K
    clear g5
    (repeat (first | (refine seq_skip (by rfl) ?_; intro K hK; simp only [Act.put, List.setIfInBounds_toArray, List.set_cons_zero, List.set_cons_succ]; refine hK _ ?_; clear hK K) | (refine seq_skipc (by rfl) ?_; intro K hK; simp only [Act.put, List.setIfInBounds_toArray, List.set_cons_zero, List.set_cons_succ]; refine hK _ ?_; clear hK K) | (refine seq_read (by rfl) (by rfl) ?_; intro K hK; go_big_quiet_op; first | go_big_quiet_on | (refine ⟨_, fun _ _ => rfl, ?_⟩; go_big_quiet_on))))
    refine seq_load rfl rfl (fun x hx => Blk.ext (hz) hx) rfl Tryd.underlying24 (by kernel_rfl) (by rfl) ?_; intro K hK; simp only [Act.put, List.setIfInBounds_toArray, List.set_cons_zero, List.set_cons_succ]; refine hK _ ?_; clear hK K
    refine seq_value (.agg #[.bool false, .bool false, .bool false, .bool false, .bool false, .bool false, .bool false, .bool false, .int .u64 0, .int .u64 0, .int .u64 0]) (by rfl) (fun x hx => by simp [go_sem, execOp, Act.eval]) ?_; intro K hK; simp only [Act.put, List.setIfInBounds_toArray, List.set_cons_zero, List.set_cons_succ]; refine hK _ ?_; clear hK K
    refine seq_value (.bool true) (by rfl) (fun x hx => by simp [go_sem, execOp, Act.eval, hq0, run_eqGuard_agg _ _ _ _ _ _ _ pte_guard, run_eqGuard_agg _ _ _ _ _ _ _ perm_guard]) ?_; intro K hK; simp only [Act.put, List.setIfInBounds_toArray, List.set_cons_zero, List.set_cons_succ]; refine hK _ ?_; clear hK K
    (repeat (first | (refine seq_skip (by rfl) ?_; intro K hK; simp only [Act.put, List.setIfInBounds_toArray, List.set_cons_zero, List.set_cons_succ]; refine hK _ ?_; clear hK K) | (refine seq_skipc (by rfl) ?_; intro K hK; simp only [Act.put, List.setIfInBounds_toArray, List.set_cons_zero, List.set_cons_succ]; refine hK _ ?_; clear hK K) | (refine seq_read (by rfl) (by rfl) ?_; intro K hK; go_big_quiet_op; first | go_big_quiet_on | (refine ⟨_, fun _ _ => rfl, ?_⟩; go_big_quiet_on))))
    refine seq_load rfl rfl (fun x hx => Blk.ext (hz) hx) rfl Tryd.underlying24 (by kernel_rfl) (by rfl) ?_; intro K hK; simp only [Act.put, List.setIfInBounds_toArray, List.set_cons_zero, List.set_cons_succ]; refine hK _ ?_; clear hK K
    (repeat (first | (refine seq_skip (by rfl) ?_; intro K hK; simp only [Act.put, List.setIfInBounds_toArray, List.set_cons_zero, List.set_cons_succ]; refine hK _ ?_; clear hK K) | (refine seq_skipc (by rfl) ?_; intro K hK; simp only [Act.put, List.setIfInBounds_toArray, List.set_cons_zero, List.set_cons_succ]; refine hK _ ?_; clear hK K) | (refine seq_read (by rfl) (by rfl) ?_; intro K hK; go_big_quiet_op; first | go_big_quiet_on | (refine ⟨_, fun _ _ => rfl, ?_⟩; go_big_quiet_on))))
    refine seq_call (hzbad _ HT.out) rfl Tryd.func19 (by kernel_rfl) (by kernel_rfl) (by rfl) (by rfl) ?_; intro K hK; rintro e w' ⟨rfl, hE⟩; refine ⟨_, rfl, hE, ?_⟩; simp only [Act.put, List.setIfInBounds_toArray, List.set_cons_zero, List.set_cons_succ]; refine hK _ _ ?_; clear hK K; replace HE := Lib.hid (HE.out.trans hE); replace hm := hm.ext hE; replace hz := hz.ext hE; replace hc := hc.ext hE; replace HT := Lib.hid (HT.out.ext hE); clear hE
    (repeat (first | (refine seq_skip (by rfl) ?_; intro K hK; simp only [Act.put, List.setIfInBounds_toArray, List.set_cons_zero, List.set_cons_succ]; refine hK _ ?_; clear hK K) | (refine seq_skipc (by rfl) ?_; intro K hK; simp only [Act.put, List.setIfInBounds_toArray, List.set_cons_zero, List.set_cons_succ]; refine hK _ ?_; clear hK K) | (refine seq_read (by rfl) (by rfl) ?_; intro K hK; go_big_quiet_op; first | go_big_quiet_on | (refine ⟨_, fun _ _ => rfl, ?_⟩; go_big_quiet_on))))
    refine seq_load rfl rfl (fun x hx => Blk.ext (hz) hx) rfl Tryd.underlying24 (by kernel_rfl) (by rfl) ?_; intro K hK; simp only [Act.put, List.setIfInBounds_toArray, List.set_cons_zero, List.set_cons_succ]; refine hK _ ?_; clear hK K
    refine seq_call (hzleaf _) rfl Tryd.func15 (by kernel_rfl) (by kernel_rfl) (by rfl) (by rfl) ?_; intro K hK; rintro e w' ⟨rfl, hE⟩; refine ⟨_, rfl, hE, ?_⟩; simp only [Act.put, List.setIfInBounds_toArray, List.set_cons_zero, List.set_cons_succ]; refine hK _ _ ?_; clear hK K; replace HE := Lib.hid (HE.out.trans hE); replace hm := hm.ext hE; replace hz := hz.ext hE; replace hc := hc.ext hE; replace HT := Lib.hid (HT.out.ext hE); clear hE
    (repeat (first | (refine seq_skip (by rfl) ?_; intro K hK; simp only [Act.put, List.setIfInBounds_toArray, List.set_cons_zero, List.set_cons_succ]; refine hK _ ?_; clear hK K) | (refine seq_skipc (by rfl) ?_; intro K hK; simp only [Act.put, List.setIfInBounds_toArray, List.set_cons_zero, List.set_cons_succ]; refine hK _ ?_; clear hK K) | (refine seq_read (by rfl) (by rfl) ?_; intro K hK; go_big_quiet_op; first | go_big_quiet_on | (refine ⟨_, fun _ _ => rfl, ?_⟩; go_big_quiet_on))))
    refine seq_load rfl rfl (fun x hx => Blk.ext (hz) hx) rfl Tryd.underlying24 (by kernel_rfl) (by rfl) ?_; intro K hK; simp only [Act.put, List.setIfInBounds_toArray, List.set_cons_zero, List.set_cons_succ]; refine hK _ ?_; clear hK K
    refine seq_call (hzlink _) rfl Tryd.func17 (by kernel_rfl) (by kernel_rfl) (by rfl) (by rfl) ?_; intro K hK; rintro e w' ⟨rfl, hE⟩; refine ⟨_, rfl, hE, ?_⟩; simp only [Act.put, List.setIfInBounds_toArray, List.set_cons_zero, List.set_cons_succ]; refine hK _ _ ?_; clear hK K; replace HE := Lib.hid (HE.out.trans hE); replace hm := hm.ext hE; replace hz := hz.ext hE; replace hc := hc.ext hE; replace HT := Lib.hid (HT.out.ext hE); clear hE
    (repeat (first | (refine seq_skip (by rfl) ?_; intro K hK; simp only [Act.put, List.setIfInBounds_toArray, List.set_cons_zero, List.set_cons_succ]; refine hK _ ?_; clear hK K) | (refine seq_skipc (by rfl) ?_; intro K hK; simp only [Act.put, List.setIfInBounds_toArray, List.set_cons_zero, List.set_cons_succ]; refine hK _ ?_; clear hK K) | (refine seq_read (by rfl) (by rfl) ?_; intro K hK; go_big_quiet_op; first | go_big_quiet_on | (refine ⟨_, fun _ _ => rfl, ?_⟩; go_big_quiet_on))))
    refine seq_done ?_
    clear hz hc hm hq0 hzbad hzleaf hzlink hleaf hbad hget hperm
    go_wp2
    go_ret
    exact ⟨rfl, HE.out⟩
end Go.Proofs.YtdifjgppnfcnnaaDoor
