/- Package entry: Of, trimmed, May. -/
import Derived.Test.YtdbflmceomnmlaaDoorCtwel
namespace Go.Proofs.YtdbflmceomnmlaaDoor
open Go.ChangeShapes Go.WideShapes Go.ChangeAt Go.RowKit
set_option linter.unusedVariables false
set_option linter.unusedSimpArgs false
set_option maxRecDepth 10000

theorem lfC_7 (l : Lf) : (lfC l)[7]? = some (.bool l.pt.g) := by simp only [lfC_eq, ptC_eq]; rfl
theorem lfC_9 (l : Lf) : (lfC l)[9]? = some (.bool l.pt.d) := by simp only [lfC_eq, ptC_eq]; rfl
theorem lfC_11 (l : Lf) : (lfC l)[11]? = some (.int .u64 (l.pt.pp : Int)) := by simp only [lfC_eq, ptC_eq]; rfl
theorem nb_cast (a l : Int) : nbI a l = (((nbI a l).toNat : Nat) : Int) := by have := nb_lt a l; omega
theorem ofE_build (l : Lf) (a n : Nat) : Tryd.prog.built 29 [(0, .bool true), (1, .int .u64 (n : Int)), (2, .bool l.pt.g), (3, .int .i64 l.lv), (4, .int .u64 (((nbI a l.lv).toNat : Nat) : Int)), (5, .int .u64 (l.pt.pp : Int)), (6, .agg (pmC (permP l.pt))), (7, .bool l.pt.d)] = some (enC (ofE l a n)) := by
  unfold ofE
  exact en_build ⟨true, n, l.pt.g, l.lv, (nbI a l.lv).toNat, l.pt.pp, permP l.pt, l.pt.d⟩
set_option maxHeartbeats 1000000 in
theorem of12_c (l : Lf) (l0 : 0 ≤ l.lv) (l2 : l.lv ≤ 2) (a n : Nat) (a1 : a < 18446744073709551616) (w : World) (hT : Siz w) :
    Calls Tryd.prog 35 #[.agg (lfC l), .int .u64 (a : Int), .int .u64 (n : Int)] w fun r w' => r = .returned (.agg (enC (ofE l a n))) ∧ Ext w w' := by
  obtain ⟨W0, hW⟩ : ∃ W0, W0 = (w.alloc (.cells (lfC l) 71)).alloc (.cells #[.bool false, .int .u64 0, .bool false, .int .i64 0, .int .u64 0, .int .u64 0, .bool false, .bool false, .bool false, .bool false, .bool false] 29) := ⟨_, rfl⟩
  have HE : Hid (Ext w W0) := Lib.hid (by rw [hW]; exact ((Ext.refl w).alloc _).alloc _)
  have h1 : Blk W0 w.heap.size 71 (lfC l) := by rw [hW]; exact (Blk.new w _ _).alloc _
  have h2 : Blk W0 (w.heap.size + 1) 29 #[.bool false, .int .u64 0, .bool false, .int .i64 0, .int .u64 0, .int .u64 0, .bool false, .bool false, .bool false, .bool false, .bool false] := by rw [hW]; exact blk_at (by simp)
  have HT := Lib.hid (hT.ext HE.out)
  have hnb := fun w h => number12_c (a : Int) l.lv (by omega) (by omega) l0 l2 w h
  have hpm := perm_c l.pt
  have hbd := ofE_build l a n
  have hps : w.heap.size + 2 ≤ W0.heap.size := by rw [hW]; simp
  rw [nb_cast] at hnb
  generalize (nbI a l.lv).toNat = v at hnb hbd
  generalize ofE l a n = e at hbd ⊢
  have HW := Lib.hid hW
  clear hW hT
  go_enter Tryd.func35, Tryd.ntmps35
  go_wp2_with fail
  rw [← HW.out]
  clear HW
  (try replace h1 := Blk.drew h1); (try replace h2 := Blk.drew h2); replace HE := Lib.hid HE.out.drew
  replace HT := Lib.hid (HT.out.ext (Ext.refl _).drew)
  refine wp_region_seq [(0, false), (1, false), (2, false), (3, false), (4, false), (5, false), (6, false), (7, false), (8, false), (10, false), (11, false), (12, false), (13, false), (14, false), (16, false), (17, false), (18, false), (9, true), (15, true), (19, false), (20, true)] (Gap (w.heap.size + 1) (w.heap.size + 2)) (by kernel_rfl) (by kernel_rfl) (Gap.refl _ _) (fun _ _ _ => Gap.trans) ?_; simp only [List.map, nth_z, nth_s]
  (repeat (first | (refine seq_skip (by rfl) ?_; intro K hK; simp only [Act.put, List.setIfInBounds_toArray, List.set_cons_zero, List.set_cons_succ]; refine hK _ ?_; clear hK K) | (refine seq_skipc (by rfl) ?_; intro K hK; simp only [Act.put, List.setIfInBounds_toArray, List.set_cons_zero, List.set_cons_succ]; refine hK _ ?_; clear hK K) | (refine seq_read (by rfl) (by rfl) ?_; intro K hK; go_big_quiet_op; first | go_big_quiet_on | (refine ⟨_, fun _ _ => rfl, ?_⟩; go_big_quiet_on))))
  refine seq_value (.bool l.pt.g) (by rfl) (fun x hx => by have hq := ((Gap.blk hx (h1) (by omega)).cell 7).trans (lfC_7 l); simp [go_sem, execOp, Act.eval, hq]) ?_; intro K hK; simp only [Act.put, List.setIfInBounds_toArray, List.set_cons_zero, List.set_cons_succ]; refine hK _ ?_; clear hK K
  (repeat (first | (refine seq_skip (by rfl) ?_; intro K hK; simp only [Act.put, List.setIfInBounds_toArray, List.set_cons_zero, List.set_cons_succ]; refine hK _ ?_; clear hK K) | (refine seq_skipc (by rfl) ?_; intro K hK; simp only [Act.put, List.setIfInBounds_toArray, List.set_cons_zero, List.set_cons_succ]; refine hK _ ?_; clear hK K) | (refine seq_read (by rfl) (by rfl) ?_; intro K hK; go_big_quiet_op; first | go_big_quiet_on | (refine ⟨_, fun _ _ => rfl, ?_⟩; go_big_quiet_on))))
  refine seq_value (.int .i64 l.lv) (by rfl) (fun x hx => by have hq := ((Gap.blk hx (h1) (by omega)).cell 0).trans (lfC_lv l); simp [go_sem, execOp, Act.eval, hq]) ?_; intro K hK; simp only [Act.put, List.setIfInBounds_toArray, List.set_cons_zero, List.set_cons_succ]; refine hK _ ?_; clear hK K
  (repeat (first | (refine seq_skip (by rfl) ?_; intro K hK; simp only [Act.put, List.setIfInBounds_toArray, List.set_cons_zero, List.set_cons_succ]; refine hK _ ?_; clear hK K) | (refine seq_skipc (by rfl) ?_; intro K hK; simp only [Act.put, List.setIfInBounds_toArray, List.set_cons_zero, List.set_cons_succ]; refine hK _ ?_; clear hK K) | (refine seq_read (by rfl) (by rfl) ?_; intro K hK; go_big_quiet_op; first | go_big_quiet_on | (refine ⟨_, fun _ _ => rfl, ?_⟩; go_big_quiet_on))))
  refine seq_value (.int .i64 l.lv) (by rfl) (fun x hx => by have hq := ((Gap.blk hx (h1) (by omega)).cell 0).trans (lfC_lv l); simp [go_sem, execOp, Act.eval, hq]) ?_; intro K hK; simp only [Act.put, List.setIfInBounds_toArray, List.set_cons_zero, List.set_cons_succ]; refine hK _ ?_; clear hK K
  (repeat (first | (refine seq_skip (by rfl) ?_; intro K hK; simp only [Act.put, List.setIfInBounds_toArray, List.set_cons_zero, List.set_cons_succ]; refine hK _ ?_; clear hK K) | (refine seq_skipc (by rfl) ?_; intro K hK; simp only [Act.put, List.setIfInBounds_toArray, List.set_cons_zero, List.set_cons_succ]; refine hK _ ?_; clear hK K) | (refine seq_read (by rfl) (by rfl) ?_; intro K hK; go_big_quiet_op; first | go_big_quiet_on | (refine ⟨_, fun _ _ => rfl, ?_⟩; go_big_quiet_on))))
  refine seq_value (.int .u64 (l.pt.pp : Int)) (by rfl) (fun x hx => by have hq := ((Gap.blk hx (h1) (by omega)).cell 11).trans (lfC_11 l); simp [go_sem, execOp, Act.eval, hq]) ?_; intro K hK; simp only [Act.put, List.setIfInBounds_toArray, List.set_cons_zero, List.set_cons_succ]; refine hK _ ?_; clear hK K
  (repeat (first | (refine seq_skip (by rfl) ?_; intro K hK; simp only [Act.put, List.setIfInBounds_toArray, List.set_cons_zero, List.set_cons_succ]; refine hK _ ?_; clear hK K) | (refine seq_skipc (by rfl) ?_; intro K hK; simp only [Act.put, List.setIfInBounds_toArray, List.set_cons_zero, List.set_cons_succ]; refine hK _ ?_; clear hK K) | (refine seq_read (by rfl) (by rfl) ?_; intro K hK; go_big_quiet_op; first | go_big_quiet_on | (refine ⟨_, fun _ _ => rfl, ?_⟩; go_big_quiet_on))))
  refine seq_load_part rfl rfl ((fun x hx => Gap.blk hx h1 (by omega))) (lfC_pt l) rfl Tryd.underlying69 (pt_info _) (by rfl) ?_; intro K hK; simp only [Act.put, List.setIfInBounds_toArray, List.set_cons_zero, List.set_cons_succ]; refine hK _ ?_; clear hK K
  (repeat (first | (refine seq_skip (by rfl) ?_; intro K hK; simp only [Act.put, List.setIfInBounds_toArray, List.set_cons_zero, List.set_cons_succ]; refine hK _ ?_; clear hK K) | (refine seq_skipc (by rfl) ?_; intro K hK; simp only [Act.put, List.setIfInBounds_toArray, List.set_cons_zero, List.set_cons_succ]; refine hK _ ?_; clear hK K) | (refine seq_read (by rfl) (by rfl) ?_; intro K hK; go_big_quiet_op; first | go_big_quiet_on | (refine ⟨_, fun _ _ => rfl, ?_⟩; go_big_quiet_on))))
  refine seq_value (.bool l.pt.d) (by rfl) (fun x hx => by have hq := ((Gap.blk hx (h1) (by omega)).cell 9).trans (lfC_9 l); simp [go_sem, execOp, Act.eval, hq]) ?_; intro K hK; simp only [Act.put, List.setIfInBounds_toArray, List.set_cons_zero, List.set_cons_succ]; refine hK _ ?_; clear hK K
  (repeat (first | (refine seq_skip (by rfl) ?_; intro K hK; simp only [Act.put, List.setIfInBounds_toArray, List.set_cons_zero, List.set_cons_succ]; refine hK _ ?_; clear hK K) | (refine seq_skipc (by rfl) ?_; intro K hK; simp only [Act.put, List.setIfInBounds_toArray, List.set_cons_zero, List.set_cons_succ]; refine hK _ ?_; clear hK K) | (refine seq_read (by rfl) (by rfl) ?_; intro K hK; go_big_quiet_op; first | go_big_quiet_on | (refine ⟨_, fun _ _ => rfl, ?_⟩; go_big_quiet_on))))
  refine seq_call (calls_ext (hnb _ HT.out)) rfl Tryd.func55 (by kernel_rfl) (by kernel_rfl) (by rfl) (by rfl) ?_; intro K hK; rintro e w' ⟨rfl, hE⟩; refine ⟨_, rfl, (Gap.ext hE), ?_⟩; simp only [Act.put, List.setIfInBounds_toArray, List.set_cons_zero, List.set_cons_succ]; refine hK _ _ ?_; clear hK K; (try replace h1 := h1.ext hE); (try replace h2 := h2.ext hE); (try replace HT := Lib.hid (HT.out.ext hE)); (try replace HE := Lib.hid (HE.out.trans hE))
  clear hE
  refine seq_call (hpm _) rfl Tryd.func56 (by kernel_rfl) (by kernel_rfl) (by rfl) (by rfl) ?_; intro K hK; rintro e w' ⟨rfl, hE⟩; refine ⟨_, rfl, (Gap.ext hE), ?_⟩; simp only [Act.put, List.setIfInBounds_toArray, List.set_cons_zero, List.set_cons_succ]; refine hK _ _ ?_; clear hK K; (try replace h1 := h1.ext hE); (try replace h2 := h2.ext hE); (try replace HT := Lib.hid (HT.out.ext hE)); (try replace HE := Lib.hid (HE.out.trans hE))
  clear hE
  (repeat (first | (refine seq_skip (by rfl) ?_; intro K hK; simp only [Act.put, List.setIfInBounds_toArray, List.set_cons_zero, List.set_cons_succ]; refine hK _ ?_; clear hK K) | (refine seq_skipc (by rfl) ?_; intro K hK; simp only [Act.put, List.setIfInBounds_toArray, List.set_cons_zero, List.set_cons_succ]; refine hK _ ?_; clear hK K) | (refine seq_read (by rfl) (by rfl) ?_; intro K hK; go_big_quiet_op; first | go_big_quiet_on | (refine ⟨_, fun _ _ => rfl, ?_⟩; go_big_quiet_on))))
  refine seq_build_as rfl (hbd) (by rfl) ?_; intro K hK; simp only [Act.put, List.setIfInBounds_toArray, List.set_cons_zero, List.set_cons_succ]; refine hK _ ?_; clear hK K
  refine seq_store_row rfl rfl rfl (h2) (en_info _) (by simp [enC_size]) (enC_one _) (by rfl) (Gap.row _ (by omega) (by omega) _) ?_; intro K hK; simp only [Act.put, List.setIfInBounds_toArray, List.set_cons_zero, List.set_cons_succ]; refine hK _ _ ?_; clear hK K
  refine seq_done ?_
  go_wp2
  (try simp only [Exit.inBlock, Exit.then]); (try rw [Exit.noGoto_ret]); refine bodyPost_ret (results_cell_row rfl _ _ _ _ _ _ _ rfl ((h2.row _)) Tryd.underlying29 rfl (en_info _)) rfl ?_
  exact ⟨rfl, HE.out.row (by omega) _⟩

def enN (p : En) (x : Nat) : En := { p with n := x }
def enVp (p : En) (x : Nat) : En := { p with vp := x }
def enPp (p : En) (x : Nat) : En := { p with pp := x }
theorem set_enN (p : En) (x : Nat) {y : Int} (h : y = (x : Int)) : (enC p).setIfInBounds 1 (.int .u64 y) = enC (enN p x) := by rw [h]; exact enC_set_n p x
theorem set_enVp (p : En) (x : Nat) {y : Int} (h : y = (x : Int)) : (enC p).setIfInBounds 4 (.int .u64 y) = enC (enVp p x) := by rw [h]; exact enC_set_vp p x
theorem set_enPp (p : En) (x : Nat) {y : Int} (h : y = (x : Int)) : (enC p).setIfInBounds 5 (.int .u64 y) = enC (enPp p x) := by rw [h]; exact enC_set_pp p x
theorem enN_at (p : En) (x : Nat) : (enN p x).l = p.l ∧ (enN p x).vp = p.vp ∧ (enN p x).pp = p.pp := ⟨rfl, rfl, rfl⟩
theorem enVp_at (p : En) (x : Nat) : (enVp p x).l = p.l ∧ (enVp p x).pp = p.pp := ⟨rfl, rfl⟩
theorem enPp_at (p : En) (x : Nat) : (enPp p x).l = p.l ∧ (enPp p x).pp = x := ⟨rfl, rfl⟩
theorem upE_eq (e : En) (n v p q : Nat) : enPp (enPp (enVp (enN e n) v) p) q = upE e n v q := by unfold upE enPp enVp enN; rfl
attribute [irreducible] enN enVp enPp
theorem e0_cells : enC e0 = #[.bool false, .int .u64 0, .bool false, .int .i64 0, .int .u64 0, .int .u64 0, .bool false, .bool false, .bool false, .bool false, .bool false] := by unfold e0; rw [enC_def, pmC_def]; rfl
theorem e0_build : Tryd.prog.built 29 [] = some (enC e0) := by rw [e0_cells]; kernel_rfl

set_option maxHeartbeats 1000000 in
theorem trimmed_neg (e : En) (hn : trimE e = e0) (hc : (!e.v || (decide (e.l < 0) || decide (2 < e.l))) = true) (w : World) (hT : Siz w) :
    Calls Tryd.prog 66 #[.agg (enC e)] w fun r w' => r = .returned (.agg (enC (trimE e))) ∧ Ext w w' := by
  rw [hn]
  clear hn
  have h1 : Blk ((w.alloc (.cells (enC e) 29)).alloc (.cells #[.bool false, .int .u64 0, .bool false, .int .i64 0, .int .u64 0, .int .u64 0, .bool false, .bool false, .bool false, .bool false, .bool false] 29)) w.heap.size 29 (enC e) := (Blk.new w _ _).alloc _
  have h2 : Blk ((w.alloc (.cells (enC e) 29)).alloc (.cells #[.bool false, .int .u64 0, .bool false, .int .i64 0, .int .u64 0, .int .u64 0, .bool false, .bool false, .bool false, .bool false, .bool false] 29)) (w.heap.size + 1) 29 #[.bool false, .int .u64 0, .bool false, .int .i64 0, .int .u64 0, .int .u64 0, .bool false, .bool false, .bool false, .bool false, .bool false] := blk_at (by simp)
  have HE : Hid (Ext w ((w.alloc (.cells (enC e) 29)).alloc (.cells #[.bool false, .int .u64 0, .bool false, .int .i64 0, .int .u64 0, .int .u64 0, .bool false, .bool false, .bool false, .bool false, .bool false] 29))) := Lib.hid (((Ext.refl w).alloc _).alloc _)
  have x0 := h1.en_v
  have x3 := h1.en_l
  clear h1
  cases hv : e.v <;> cases hl : decide (e.l < 0) <;> cases hg : decide (2 < e.l)
  all_goals
    rw [hv, hl, hg] at hc
    try
      clear hc
      rw [hv] at x0
      clear hv
      go_enter Tryd.func66, Tryd.ntmps66
      go_wp2_with (first | (refine wpList_build_as (by rfl) rfl (e0_build) ?_) | (refine wpList_store_row rfl 29 _ _ rfl _ (enC _) rfl rfl _ _ h2 (en_info _) (by simp [enC_size]) (enC_one _) ?_))
      (try simp only [Exit.inBlock, Exit.then]); (try rw [Exit.noGoto_ret]); refine bodyPost_ret (results_cell_row rfl _ _ _ _ _ _ _ rfl ((h2.row _)) Tryd.underlying29 rfl (en_info _)) rfl ?_
      exact ⟨rfl, HE.out.row (by omega) _⟩
  exact absurd hc (by decide)

set_option maxHeartbeats 4000000 in
theorem trimmed_pos (e : En) (hv : e.v = true) (v0 : e.vp < 18446744073709551616) (lv : Int) (l0 : 0 ≤ lv) (l2 : lv ≤ 2) (hl : e.l = lv) (sz : Int) (hsz : ∀ w, Siz w → Calls Tryd.prog 74 #[.int .i64 lv] w fun e w' => e = .returned (.int .u64 sz) ∧ w = w')
    (p q : Nat) (hp : (e.pp : Int) % 17592186044416 = (p : Int)) (hs : (sz = 4096 ∧ (p : Int) = (q : Int)) ∨ (sz = 2097152 ∧ (p : Int) - (p : Int) % 512 = (q : Int)) ∨ (sz = 1073741824 ∧ (p : Int) - (p : Int) % 262144 = (q : Int))) (v : Nat) (hnv : nbI (ofI e.vp) lv = (v : Int)) (w : World) (hT : Siz w) :
    Calls Tryd.prog 66 #[.agg (enC e)] w fun r w' => r = .returned (.agg (enC (upE e (e.n % 65536) v q))) ∧ Ext w w' := by
  have b1 := of_lt (e.vp : Int)
  have hof := fun w => of5_c (e.vp : Int) (by omega) (by omega) w
  have hnb := fun w h => number12_c (ofI e.vp) lv b1.1 b1.2 l0 l2 w h
  rw [hnv] at hnb
  generalize ofI (e.vp : Int) = x at *
  rw [← upE_eq e (e.n % 65536) v p q]
  have hn : (e.n : Int) % 65536 = ((e.n % 65536 : Nat) : Int) := by omega
  generalize e.n % 65536 = n' at hn ⊢
  have HA := enN_at e n'
  have HB := enVp_at (enN e n') v
  have HC := enPp_at (enVp (enN e n') v) p
  have SA := set_enN e n' hn
  obtain ⟨W0, hW⟩ : ∃ W0, W0 = (w.alloc (.cells (enC e) 29)).alloc (.cells #[.bool false, .int .u64 0, .bool false, .int .i64 0, .int .u64 0, .int .u64 0, .bool false, .bool false, .bool false, .bool false, .bool false] 29) := ⟨_, rfl⟩
  have HE : Hid (Ext w W0) := Lib.hid (by rw [hW]; exact ((Ext.refl w).alloc _).alloc _)
  have h1 : Blk W0 w.heap.size 29 (enC e) := by rw [hW]; exact (Blk.new w _ _).alloc _
  have h2 : Blk W0 (w.heap.size + 1) 29 #[.bool false, .int .u64 0, .bool false, .int .i64 0, .int .u64 0, .int .u64 0, .bool false, .bool false, .bool false, .bool false, .bool false] := by rw [hW]; exact blk_at (by simp)
  have hps : w.heap.size + 2 ≤ W0.heap.size := by rw [hW]; simp
  have x0 := h1.en_v
  have x3 := h1.en_l
  have x1 := h1.en_n
  rw [hv] at x0
  rw [hl] at x3
  rw [hW] at x0 x3 x1
  have h1W := h1
  rw [hW] at h1W
  have HW := Lib.hid hW
  clear hW hv
  go_enter Tryd.func66, Tryd.ntmps66
  go_wp2_with (refine wpList_store_cell rfl 25 _ _ rfl rfl rfl h1W (by simp [enC_size]) (SA) (by kernel_rfl) rfl rfl ?_)
  rw [← HW.out]
  clear HW SA h1W x0 x3 x1
  replace h2 := h2.apart (show w.heap.size + 1 ≠ w.heap.size by omega) (enC (enN e n'))
  replace h1 := h1.row (enC (enN e n'))
  replace HE := Lib.hid (HE.out.row (Nat.le_refl _) (enC (enN e n')))
  refine region_tail 7 (by kernel_rfl) (by kernel_rfl) ?_; intro w1 hE
  (try replace h1 := h1.ext hE); (try replace h2 := h2.ext hE); (try replace HE := Lib.hid (HE.out.trans hE))
  clear hE
  have x4 := h1.en_vp
  have x3 := h1.en_l
  rw [HA.2.1] at x4
  rw [HA.1, hl] at x3
  simp only [List.take_succ_cons, List.take_zero, List.drop_succ_cons, List.drop_zero]; repeat still_step
  still_call (Calls.mono (hof _) fun _ _ h => ⟨h.1, h.2.symm⟩); repeat still_step
  still_call (Calls.mono (hnb _ (hT.ext HE.out)) fun _ _ h => ⟨h.1, h.2.symm⟩); repeat still_step
  refine wpStill_nil ?_
  have SB := set_enVp (enN e n') v rfl
  clear x4 x3
  have h1b := h1.row (enC (enVp (enN e n') v))
  have x5 := h1b.en_pp
  rw [HB.2, HA.2.2] at x5
  have SC := set_enPp (enVp (enN e n') v) p hp
  go_wp2_with (first | (refine wpList_store_cell rfl 25 _ _ rfl rfl rfl h1 (by simp [enC_size]) (SB) (by kernel_rfl) rfl rfl ?_) | (refine wpList_store_cell rfl 25 _ _ rfl rfl rfl h1b (by simp [enC_size]) (SC) (by kernel_rfl) rfl rfl ?_))
  clear SB SC h1b x5
  replace h2 := (h2.apart (show w.heap.size + 1 ≠ w.heap.size by omega) (enC (enVp (enN e n') v))).apart (show w.heap.size + 1 ≠ w.heap.size by omega) (enC (enPp (enVp (enN e n') v) p))
  replace h1 := (h1.row (enC (enVp (enN e n') v))).row (enC (enPp (enVp (enN e n') v) p))
  replace HE := Lib.hid ((HE.out.row (Nat.le_refl _) (enC (enVp (enN e n') v))).row (Nat.le_refl _) (enC (enPp (enVp (enN e n') v) p)))
  have p1 : (p : Int) < 17592186044416 := by omega
  clear hp hn
  have m1 : IntKind.u64.wrap ((p : Int) - (p : Int).tmod 512) = (p : Int) - (p : Int) % 512 := by rw [Int.tmod_eq_emod_of_nonneg (by omega)]; exact IntWalk.u64_in _ (by omega)
  have m2 : IntKind.u64.wrap ((p : Int) - (p : Int).tmod 262144) = (p : Int) - (p : Int) % 262144 := by rw [Int.tmod_eq_emod_of_nonneg (by omega)]; exact IntWalk.u64_in _ (by omega)
  have m3 : IntKind.u64.wrap (p : Int) = (p : Int) := IntWalk.u64_in _ (by omega)
  rcases hs with ⟨rfl, hq⟩ | ⟨rfl, hq⟩ | ⟨rfl, hq⟩
  all_goals
    refine region_tail 11 (by kernel_rfl) (by kernel_rfl) ?_; intro w2 hE
    (try replace h1 := h1.ext hE); (try replace h2 := h2.ext hE); (try replace HE := Lib.hid (HE.out.trans hE))
    clear hE
    have x5 := h1.en_pp
    have x3 := h1.en_l
    rw [HC.2] at x5
    rw [HC.1, HB.1, HA.1, hl] at x3
    have h1c := h1.row (enC (enPp (enPp (enVp (enN e n') v) p) q))
    have h2c := h2.apart (show w.heap.size + 1 ≠ w.heap.size by omega) (enC (enPp (enPp (enVp (enN e n') v) p) q))
    have SD := set_enPp (enPp (enVp (enN e n') v) p) q hq
    have HX := Lib.hid ((HE.out.row (Nat.le_refl _) (enC (enPp (enPp (enVp (enN e n') v) p) q))).row (show w.heap.size ≤ w.heap.size + 1 by omega) (enC (enPp (enPp (enVp (enN e n') v) p) q)))
    replace hsz := hsz w2 (hT.ext HE.out)
    clear HA HB HC HE hq
    simp only [List.take_succ_cons, List.take_zero, List.drop_succ_cons, List.drop_zero]; repeat still_step
    still_call (Calls.mono (hsz) fun _ _ h => ⟨h.1, h.2.symm⟩); repeat still_step
    (first | rw [show IntKind.u64.wrap 1 = 1 by decide] | rw [show IntKind.u64.wrap 512 = 512 by decide] | rw [show IntKind.u64.wrap 262144 = 262144 by decide])
    repeat still_step
    refine wpStill_nil ?_
    clear m1 m2 m3
    go_wp2_with (first | (refine wpList_store_cell rfl 25 _ _ rfl rfl rfl h1 (by simp [enC_size]) (SD) (by kernel_rfl) rfl rfl ?_) | (refine wpList_load_blk (by rfl) 29 _ rfl rfl (by with_reducible assumption) Tryd.underlying29 rfl (by kernel_rfl) ?_) | (refine wpList_store_row rfl 29 _ _ rfl _ (enC _) rfl rfl _ _ h2c (en_info _) (by simp [enC_size]) (enC_one _) ?_))
    (try simp only [Exit.inBlock, Exit.then]); (try rw [Exit.noGoto_ret]); refine bodyPost_ret (results_cell_row rfl _ _ _ _ _ _ _ rfl ((h2c.row _)) Tryd.underlying29 rfl (en_info _)) rfl ?_
    exact ⟨rfl, HX.out⟩
theorem trimmed_c (e : En) (he : e.ok) (w : World) (hT : Siz w) :
    Calls Tryd.prog 66 #[.agg (enC e)] w fun r w' => r = .returned (.agg (enC (trimE e))) ∧ Ext w w' := by
  by_cases h : e.v = true ∧ 0 ≤ e.l ∧ e.l ≤ 2
  · obtain ⟨hv, l0, l2⟩ := h
    rw [trim_pos hv l0 l2]
    have h1 : (e.pp : Int) % 17592186044416 = (((e.pp : Int) % 17592186044416).toNat : Nat) := by omega
    have hv1 := nb_cast (ofI e.vp) e.l
    have hsz := fun w h => size5_c e.l l0 l2 w h
    refine trimmed_pos e hv he.2.2.1 e.l l0 l2 rfl (sizI e.l) hsz _ _ h1 ?_ _ hv1 w hT
    rw [← h1]
    have hn : 0 ≤ (e.pp : Int) % 17592186044416 := by omega
    generalize (e.pp : Int) % 17592186044416 = x at hn
    rcases level_lt l0 l2 with h | h | h
    · rw [h, siz0, pag0]; exact .inl ⟨rfl, by omega⟩
    · rw [h, siz1, pag1]; exact .inr (.inl ⟨rfl, by omega⟩)
    · rw [h, siz2, pag2]; exact .inr (.inr ⟨rfl, by omega⟩)
  · refine trimmed_neg e (trim_neg h) ?_ w hT
    cases hv : e.v
    · rfl
    · simp only [hv, true_and] at h
      simp; omega
theorem may12_c (e : En) (he : e.ok) (w : World) (hT : Siz w) :
    Calls Tryd.prog 50 #[.agg (enC e)] w fun r w' => r = .returned (.bool (mayE e)) ∧ Ext w w' := by
  have h1 := Blk.new w 29 (enC e)
  have HE := Lib.hid ((Ext.refl w).alloc (.cells (enC e) 29))
  have htr := fun w h => trimmed_c e he w h
  have heq : ∀ w, (binOp .eql 29 (.agg (enC e)) (.agg (enC (trimE e)))).run Tryd.prog w = .ok (.bool (mayE e)) w := fun w => by rw [eql_en, may_eq]
  generalize trimE e = f at htr heq
  generalize mayE e = B at heq ⊢
  go_enter Tryd.func50, Tryd.ntmps50
  go_wp2_with fail
  (try replace h1 := Blk.drew h1); replace HE := Lib.hid HE.out.drew
  refine wp_region_seq [(0, false), (1, false), (2, true), (3, false), (4, false)] Ext (by kernel_rfl) (by kernel_rfl) Ext.refl (fun _ _ _ => Ext.trans) ?_; simp only [List.map, nth_z, nth_s]
  refine seq_load rfl rfl (fun x hx => Blk.ext (h1) hx) rfl Tryd.underlying29 (by kernel_rfl) (by rfl) ?_; intro K hK; simp only [Act.put, List.setIfInBounds_toArray, List.set_cons_zero, List.set_cons_succ]; refine hK _ ?_; clear hK K
  refine seq_load rfl rfl (fun x hx => Blk.ext (h1) hx) rfl Tryd.underlying29 (by kernel_rfl) (by rfl) ?_; intro K hK; simp only [Act.put, List.setIfInBounds_toArray, List.set_cons_zero, List.set_cons_succ]; refine hK _ ?_; clear hK K
  refine seq_call (htr _ (hT.ext HE.out)) rfl Tryd.func66 (by kernel_rfl) (by kernel_rfl) (by rfl) (by rfl) ?_; intro K hK; rintro e w' ⟨rfl, hE⟩; refine ⟨_, rfl, hE, ?_⟩; simp only [Act.put, List.setIfInBounds_toArray, List.set_cons_zero, List.set_cons_succ]; refine hK _ _ ?_; clear hK K; (try replace h1 := h1.ext hE); (try replace HE := Lib.hid (HE.out.trans hE))
  clear hE
  refine seq_cmp rfl rfl rfl (en_guard) (heq) (by rfl) ?_; intro K hK; simp only [Act.put, List.setIfInBounds_toArray, List.set_cons_zero, List.set_cons_succ]; refine hK _ ?_; clear hK K
  (repeat (first | (refine seq_skip (by rfl) ?_; intro K hK; simp only [Act.put, List.setIfInBounds_toArray, List.set_cons_zero, List.set_cons_succ]; refine hK _ ?_; clear hK K) | (refine seq_skipc (by rfl) ?_; intro K hK; simp only [Act.put, List.setIfInBounds_toArray, List.set_cons_zero, List.set_cons_succ]; refine hK _ ?_; clear hK K) | (refine seq_read (by rfl) (by rfl) ?_; intro K hK; go_big_quiet_op; first | go_big_quiet_on | (refine ⟨_, fun _ _ => rfl, ?_⟩; go_big_quiet_on))))
  refine seq_done ?_
  go_wp2
  go_ret
  exact ⟨rfl, HE.out⟩
end Go.Proofs.YtdbflmceomnmlaaDoor
