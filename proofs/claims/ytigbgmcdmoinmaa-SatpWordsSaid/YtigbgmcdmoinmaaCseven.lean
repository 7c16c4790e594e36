/- Package satp, and the document's answers (atlasref07). -/
import Derived.Test.YtigbgmcdmoinmaaCone
import Derived.Test.YtigbgmcdmoinmaaMseven
import Derived.Test.YtigbgmcdmoinmaaFork
namespace Go.Proofs.Ytigbgmcdmoinmaa
open Go.ChangeShapes Go.WideShapes Go.ChangeAt Go.RowKit
set_option linter.unusedVariables false
set_option linter.unusedSimpArgs false

theorem spC_wd (x : Nat) (hx : x < 18446744073709551616) : spC (rdP x) = #[.int .u64 (getI x 60 4), .int .u64 (getI x 44 16), .int .u64 (getI x 0 44)] := by
  have h0 : getI (x : Int) 60 4 = ((x / 1152921504606846976 : Nat) : Int) := by rw [← get_md hx]; unfold getI; rfl
  have h1 : getI (x : Int) 44 16 = ((x / 17592186044416 % 65536 : Nat) : Int) := by rw [← get_ai]; unfold getI; rfl
  have h2 : getI (x : Int) 0 44 = ((x % 17592186044416 : Nat) : Int) := by rw [← get_pp]; unfold getI; rfl
  rw [h0, h1, h2]
  unfold rdP; rw [spC_def]
theorem wd_setI (p : Sp) : setI (setI (setI 0 0 44 (p.pp : Int)) 44 16 (p.ai : Int)) 60 4 (p.md : Int) = ((wdN p : Nat) : Int) := by
  rw [← wd_sets p]; unfold setI; rfl
theorem read7_c (x : Nat) (hx : x < 18446744073709551616) (w : World) :
    Calls Try.prog 15 #[.int .u64 (x : Int)] w fun e w' => e = .returned (.agg (spC (rdP x))) ∧ Ext w w' := by
  rw [spC_wd x hx]
  go_enter Try.func15, Try.ntmps15
  go_wp2_with (go_at_call 17; refine (get_c _ _ _ (by first | omega | exact getI_ge _ _ _ | exact setI_ge _ _ _ _ | exact signI_ge _ _) (by first | omega | exact getI_lt _ _ (by first | omega | exact getI_ge _ _ _ | exact setI_ge _ _ _ _ | exact signI_ge _ _) (by omega) | exact setI_lt _ _ _ (by first | omega | exact getI_ge _ _ _ | exact setI_ge _ _ _ _ | exact signI_ge _ _) (by omega) | exact signI_lt (by first | omega | exact getI_ge _ _ _ | exact setI_ge _ _ _ _ | exact signI_ge _ _) (by omega) (by omega) (by omega)) (by omega) (by omega) (by omega) (by omega) _).mono ?_; rintro e w' ⟨rfl, rfl⟩)
  (try simp only [Exit.inBlock, Exit.then]); refine bodyPost_ret (results_cell_row rfl _ _ _ _ _ _ _ rfl ((blk_at (by simp))) Try.underlying24 rfl (by kernel_rfl)) rfl ?_
  exact ⟨rfl, (Ext.refl w).alloc _⟩
set_option maxRecDepth 100000 in
theorem word7_c (p : Sp) (hp : p.ok) (w : World) :
    Calls Try.prog 14 #[.agg (spC p)] w fun e w' => e = .returned (.int .u64 ((wdN p : Nat) : Int)) ∧ Ext w w' := by
  obtain ⟨ok0, ok1, ok2⟩ := hp
  have H := wd_setI p
  have k1 := set_c 0 0 44 (p.pp : Int) (by omega) (by omega) (by omega) (by omega) (by decide) (by decide) (by decide) (by decide)
  have l1 := setI_lt (w := 0) 0 44 (p.pp : Int) (by omega) (by omega)
  have g1 := setI_ge 0 0 44 (p.pp : Int)
  generalize setI 0 0 44 (p.pp : Int) = x1 at H k1 l1 g1
  have k2 := set_c x1 44 16 (p.ai : Int) g1 l1 (by omega) (by omega) (by decide) (by decide) (by decide) (by decide)
  have l2 := setI_lt (w := x1) 44 16 (p.ai : Int) g1 l1
  have g2 := setI_ge x1 44 16 (p.ai : Int)
  generalize setI x1 44 16 (p.ai : Int) = x2 at H k2 l2 g2
  have k3 := set_c x2 60 4 (p.md : Int) g2 l2 (by omega) (by omega) (by decide) (by decide) (by decide) (by decide)
  rw [H] at k3
  clear H g1 g2 l1 l2 ok0 ok1 ok2
  have HE := Lib.hid ((Ext.refl w).alloc (.cells (spC p) 24))
  rw [spC_eq] at HE ⊢
  go_enter Try.func14, Try.ntmps14
  go_wp2_with fail
  refine (k1 _).mono ?_
  rintro e w3 ⟨rfl, hw3⟩
  subst hw3
  clear k1
  go_wp2_with fail
  refine (k2 _).mono ?_
  rintro e w3 ⟨rfl, hw3⟩
  subst hw3
  clear k2
  go_wp2_with fail
  refine (k3 _).mono ?_
  rintro e w3 ⟨rfl, hw3⟩
  subst hw3
  clear k3
  go_wp2
  go_ret
  exact ⟨rfl, HE.out⟩
theorem on7_c (p : Sp) (w : World) :
    Calls Try.prog 12 #[.agg (spC p)] w fun e w' => e = .returned (.bool (decide (p.md = 8))) ∧ Ext w w' := by
  have HE := Lib.hid ((Ext.refl w).alloc (.cells (spC p) 24))
  have H : Hid (((p.md : Int) == 8) = decide (p.md = 8)) := Lib.hid (by rw [Bool.eq_iff_iff, beq_iff_eq, decide_eq_true_iff]; omega)
  rw [spC_eq] at HE ⊢
  go_enter Try.func12, Try.ntmps12
  go_wp2
  go_ret
  exact ⟨by rw [← H.out]; rfl, HE.out⟩
set_option maxRecDepth 100000 in
set_option maxHeartbeats 1000000 in
theorem may7_c (p : Sp) (hp : p.ok) (w : World) :
    Calls Try.prog 10 #[.agg (spC p)] w fun e w' => e = .returned (.bool (smB p)) ∧ Ext w w' := by
  have hon := on7_c p
  have hword := word7_c p hp
  have hread := read7_c (wdN p) (wd_lt p)
  have HE := Lib.hid ((Ext.refl w).alloc (.cells (spC p) 24))
  have hb := Blk.new w 24 (spC p)
  by_cases h8 : p.md = 8
  · rw [decide_eq_true h8] at hon
    have hq : ∀ w, (binOp .eql 24 (.agg (spC (rdP (wdN p)))) (.agg (spC p))).run Try.prog w = .ok (.bool (smB p)) w := fun w => by
      rw [eql_sp, rd_same p h8]
    clear h8
    go_enter Try.func10, Try.ntmps10
    go_wp2_with (refine wpList_load_blk (by rfl) 24 _ rfl rfl (by assumption) Try.underlying24 rfl (by kernel_rfl) ?_)
    refine (hon _).mono ?_
    rintro e w1 ⟨rfl, hE⟩
    replace HE := Lib.hid (HE.out.trans hE)
    replace hb := (hb.ext hE).drew
    replace HE := Lib.hid HE.out.drew
    clear hE hon
    go_wp2_with fail
    refine wp_region_seq [(0, false), (3, false), (1, true), (2, true), (4, false), (5, false)] Ext (by kernel_rfl) (by kernel_rfl) Ext.refl (fun _ _ _ => Ext.trans) ?_; simp only [List.map, nth_z, nth_s]
    refine seq_load rfl rfl (fun x hx => Blk.ext (hb) hx) rfl Try.underlying24 (by kernel_rfl) (by rfl) ?_; intro K hK; simp only [Act.put, List.setIfInBounds_toArray, List.set_cons_zero, List.set_cons_succ]; refine hK _ ?_; clear hK K
    refine seq_load rfl rfl (fun x hx => Blk.ext (hb) hx) rfl Try.underlying24 (by kernel_rfl) (by rfl) ?_; intro K hK; simp only [Act.put, List.setIfInBounds_toArray, List.set_cons_zero, List.set_cons_succ]; refine hK _ ?_; clear hK K
    refine seq_call (hword _) rfl Try.func14 (by kernel_rfl) (by kernel_rfl) (by rfl) (by rfl) ?_; intro K hK; rintro e w' ⟨rfl, hE⟩; refine ⟨_, rfl, hE, ?_⟩; simp only [Act.put, List.setIfInBounds_toArray, List.set_cons_zero, List.set_cons_succ]; refine hK _ _ ?_; clear hK K; replace HE := Lib.hid (HE.out.trans hE)
    clear hE
    refine seq_call (hread _) rfl Try.func15 (by kernel_rfl) (by kernel_rfl) (by rfl) (by rfl) ?_; intro K hK; rintro e w' ⟨rfl, hE⟩; refine ⟨_, rfl, hE, ?_⟩; simp only [Act.put, List.setIfInBounds_toArray, List.set_cons_zero, List.set_cons_succ]; refine hK _ _ ?_; clear hK K; replace HE := Lib.hid (HE.out.trans hE)
    clear hE
    refine seq_value (.bool (smB p)) (by rfl) (fun x hx => by simp [go_sem, execOp, Act.eval, hq, run_eqGuard_agg _ _ _ _ _ _ _ sp_guard]) ?_; intro K hK; simp only [Act.put, List.setIfInBounds_toArray, List.set_cons_zero, List.set_cons_succ]; refine hK _ ?_; clear hK K
    (repeat (first | (refine seq_skip (by rfl) ?_; intro K hK; simp only [Act.put, List.setIfInBounds_toArray, List.set_cons_zero, List.set_cons_succ]; refine hK _ ?_; clear hK K) | (refine seq_skipc (by rfl) ?_; intro K hK; simp only [Act.put, List.setIfInBounds_toArray, List.set_cons_zero, List.set_cons_succ]; refine hK _ ?_; clear hK K) | (refine seq_read (by rfl) (by rfl) ?_; intro K hK; go_big_quiet_op; first | go_big_quiet_on | (refine ⟨_, fun _ _ => rfl, ?_⟩; go_big_quiet_on))))
    refine seq_done ?_
    go_wp2
    go_ret
    exact ⟨rfl, HE.out⟩
  · rw [decide_eq_false h8] at hon
    have hq : ∀ w, (binOp .eql 24 (.agg (spC p)) (.agg #[.int .u64 0, .int .u64 0, .int .u64 0])).run Try.prog w = .ok (.bool (smB p)) w := fun w => by
      have h := eql_sp w p zSp
      rw [sm_off p h8] at h
      have e : spC zSp = #[.int .u64 0, .int .u64 0, .int .u64 0] := by unfold zSp; rw [spC_def]; rfl
      rwa [e] at h
    clear h8
    have hg := sp_guard
    go_enter Try.func10, Try.ntmps10
    go_wp2_with (refine wpList_load_blk (by rfl) 24 _ rfl rfl (by assumption) Try.underlying24 rfl (by kernel_rfl) ?_)
    refine (hon _).mono ?_
    rintro e w1 ⟨rfl, hE⟩
    replace HE := Lib.hid (HE.out.trans hE)
    replace hb := hb.ext hE
    clear hE hon
    go_wp2_with (refine wpList_load_blk (by rfl) 24 _ rfl rfl (by assumption) Try.underlying24 rfl (by kernel_rfl) ?_)
    go_ret
    exact ⟨rfl, HE.out⟩
theorem sput_no (p : Sp) (hp : p.ok) (hm : smB p = false) (w : World) :
    Calls Try.prog 7 #[.agg (spC p)] w fun e w' => e = .returned (.tuple #[.int .u64 0, .int .i64 1]) ∧ Ext w w' := by
  have hmay := may7_c p hp
  rw [hm] at hmay
  have HE := Lib.hid ((Ext.refl w).alloc (.cells (spC p) 24))
  have hb := Blk.new w 24 (spC p)
  go_enter Try.func7, Try.ntmps7
  go_wp2_with (refine wpList_load_blk (by rfl) 24 _ rfl rfl (by assumption) Try.underlying24 rfl (by kernel_rfl) ?_)
  refine (hmay _).mono ?_
  rintro e w1 ⟨rfl, hE⟩
  replace HE := Lib.hid (HE.out.trans hE)
  clear hE hmay hb
  go_wp2
  go_ret2
  exact ⟨rfl, HE.out⟩
theorem sput_yes (p : Sp) (hp : p.ok) (hm : smB p = true) (w : World) :
    Calls Try.prog 7 #[.agg (spC p)] w fun e w' => e = .returned (.tuple #[.int .u64 ((wdN p : Nat) : Int), .int .i64 0]) ∧ Ext w w' := by
  have hmay := may7_c p hp
  rw [hm] at hmay
  have hword := word7_c p hp
  have HE := Lib.hid ((Ext.refl w).alloc (.cells (spC p) 24))
  have hb := Blk.new w 24 (spC p)
  go_enter Try.func7, Try.ntmps7
  go_wp2_with (refine wpList_load_blk (by rfl) 24 _ rfl rfl (by assumption) Try.underlying24 rfl (by kernel_rfl) ?_)
  refine (hmay _).mono ?_
  rintro e w1 ⟨rfl, hE⟩
  replace HE := Lib.hid (HE.out.trans hE)
  replace hb := hb.ext hE
  clear hE hmay
  go_wp2_with (refine wpList_load_blk (by rfl) 24 _ rfl rfl (by assumption) Try.underlying24 rfl (by kernel_rfl) ?_)
  refine (hword _).mono ?_
  rintro e w2 ⟨rfl, hE⟩
  replace HE := Lib.hid (HE.out.trans hE)
  clear hE hword hb
  go_wp2
  go_ret2
  exact ⟨rfl, HE.out⟩
theorem zSp_cells : spC zSp = #[.int .u64 0, .int .u64 0, .int .u64 0] := by unfold zSp; rw [spC_def]; rfl
theorem sgP_may {x : Nat} (h : smB (rdP x) = true) : sgP x = rdP x := by unfold sgP; rw [if_pos h]
theorem sgP_not {x : Nat} (h : smB (rdP x) = false) : sgP x = zSp := by unfold sgP; rw [h]; rfl
set_option maxRecDepth 100000 in
set_option maxHeartbeats 1000000 in
theorem sget_c (x : Nat) (hx : x < 18446744073709551616) (w : World) :
    Calls Try.prog 8 #[.int .u64 (x : Int)] w fun e w' => e = .returned (.tuple #[.agg (spC (sgP x)), .int .i64 (if smB (rdP x) then 0 else 1)]) ∧ Ext w w' := by
  have hread := read7_c x hx
  have hmay := may7_c (rdP x) (rd_ok hx)
  have HE := Lib.hid ((Ext.refl w).alloc (.cells #[.int .u64 0, .int .u64 0, .int .u64 0] 24))
  have hb := Blk.new w 24 #[.int .u64 0, .int .u64 0, .int .u64 0]
  cases hm : smB (rdP x)
  · rw [hm] at hmay
    rw [sgP_not hm, zSp_cells]
    go_enter Try.func8, Try.ntmps8
    go_wp2_with fail
    refine (hread _).mono ?_
    rintro e w1 ⟨rfl, hE⟩
    replace HE := Lib.hid (HE.out.trans hE)
    replace hb := hb.ext hE
    clear hE hread
    replace hb := hb.alloc (.cells (spC (rdP x)) 24)
    have hc := Blk.new w1 24 (spC (rdP x))
    replace HE := Lib.hid (HE.out.alloc (.cells (spC (rdP x)) 24))
    go_wp2_with first | (refine wpList_store_new rfl 24 _ _ rfl (spC _) _ _ rfl rfl (sp_info _) (by simp [spC_size]) (spC_one _) ?_) | (refine wpList_load_blk (by rfl) 24 _ rfl rfl (by assumption) Try.underlying24 rfl (by kernel_rfl) ?_)
    refine (hmay _).mono ?_
    rintro e w2 ⟨rfl, hE⟩
    replace HE := Lib.hid (HE.out.trans hE)
    replace hb := hb.ext hE
    replace hc := hc.ext hE
    clear hE hmay
    go_wp2_with first | (refine wpList_store_row rfl 24 _ _ rfl _ (spC _) rfl rfl _ _ hb (sp_info _) (by simp [spC_size]) (spC_one _) ?_) | (refine wpList_store_row rfl 24 _ _ rfl _ _ rfl rfl _ _ hb (by kernel_rfl) (by rfl) (by simp [Value.oneCell']) ?_) | (refine wpList_load_blk (by rfl) 24 _ rfl rfl (by assumption) Try.underlying24 rfl (by kernel_rfl) ?_)
    (try simp only [Exit.inBlock, Exit.then]); refine bodyPost_ret (results_c2 rfl _ _ _ _ _ _ rfl ((hb.row _)) rfl Try.underlying24 (by kernel_rfl)) rfl ?_
    exact ⟨rfl, Ext.row HE.out (Nat.le_refl _) _⟩
  · rw [hm] at hmay
    rw [sgP_may hm]
    go_enter Try.func8, Try.ntmps8
    go_wp2_with fail
    refine (hread _).mono ?_
    rintro e w1 ⟨rfl, hE⟩
    replace HE := Lib.hid (HE.out.trans hE)
    replace hb := hb.ext hE
    clear hE hread
    replace hb := hb.alloc (.cells (spC (rdP x)) 24)
    have hc := Blk.new w1 24 (spC (rdP x))
    replace HE := Lib.hid (HE.out.alloc (.cells (spC (rdP x)) 24))
    go_wp2_with first | (refine wpList_store_new rfl 24 _ _ rfl (spC _) _ _ rfl rfl (sp_info _) (by simp [spC_size]) (spC_one _) ?_) | (refine wpList_load_blk (by rfl) 24 _ rfl rfl (by assumption) Try.underlying24 rfl (by kernel_rfl) ?_)
    refine (hmay _).mono ?_
    rintro e w2 ⟨rfl, hE⟩
    replace HE := Lib.hid (HE.out.trans hE)
    replace hb := hb.ext hE
    replace hc := hc.ext hE
    clear hE hmay
    go_wp2_with first | (refine wpList_store_row rfl 24 _ _ rfl _ (spC _) rfl rfl _ _ hb (sp_info _) (by simp [spC_size]) (spC_one _) ?_) | (refine wpList_store_row rfl 24 _ _ rfl _ _ rfl rfl _ _ hb (by kernel_rfl) (by rfl) (by simp [Value.oneCell']) ?_) | (refine wpList_load_blk (by rfl) 24 _ rfl rfl (by assumption) Try.underlying24 rfl (by kernel_rfl) ?_)
    (try simp only [Exit.inBlock, Exit.then]); refine bodyPost_ret (results_c2 rfl _ _ _ _ _ _ rfl ((hb.row _)) rfl Try.underlying24 (by kernel_rfl)) rfl ?_
    exact ⟨rfl, Ext.row HE.out (Nat.le_refl _) _⟩
end Go.Proofs.Ytigbgmcdmoinmaa
