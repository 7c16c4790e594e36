/- EntryLeads. -/
import Derived.Test.YtklickoclgjnkaaDoorLaw12a
namespace Go.Proofs.YtklickoclgjnkaaDoor
open Go.ChangeShapes Go.WideShapes Go.ChangeAt Go.RowKit
set_option linter.unusedVariables false
set_option linter.unusedSimpArgs false

theorem ofE_ok {l : Lf} (hl : l.ok) (hp : l.pt.pp < 17592186044416) (a : Nat) {n : Nat} (hn : n < 65536) : (ofE l a n).ok := by
  obtain ⟨h1, h2, h3, h4, h5, h6⟩ := ofE_v l a n
  have := nb_lt a l.lv
  refine ⟨?_, ?_, ?_, ?_, ?_⟩
  · omega
  · rw [h2]; exact hl.1
  · omega
  · omega
  · unfold Pm.ok; trivial
set_option maxRecDepth 100000 in
set_option maxHeartbeats 8000000 in
theorem EntryLeads_w (l : Lf) (hl : l.ok) (a b s t : Nat) (ha : a < 18446744073709551616) (hb' : b < 18446744073709551616) (hs : s < 65536) (ht : t < 65536) (w : World) (hT : Siz w) :
    Calls Tryd.prog 5 #[.agg (lfC l), .int .u64 (a : Int), .int .u64 (b : Int), .int .u16 (s : Int), .int .u16 (t : Int)] w fun r w' => r = .returned (.bool true) ∧ Ext w w' := by
  have h1 := Blk.new w 26 (lfC l)
  have HE := Lib.hid ((Ext.refl w).alloc (.cells (lfC l) 26))
  have HT := Lib.hid (hT.ext HE.out)
  clear hT
  have clf := fun w => leaf12_c l w
  have cia := fun w => ris5_c (a : Int) (by omega) (by omega) w
  have cib := fun w => ris5_c (b : Int) (by omega) (by omega) w
  cases hlf : leafE l
  · rw [hlf] at clf
    go_enter Tryd.func5, Tryd.ntmps5
    go_wp2_with ((refine wpList_load_blk (by rfl) 26 _ rfl rfl (by first | exact h1 | exact h2) Tryd.underlying26 rfl (by kernel_rfl) ?_)); refine (awake12_c _ HT.out).mono ?_; rintro e w' ⟨rfl, hE⟩; (try replace h1 := h1.ext hE); (try replace h2 := h2.ext hE); (try replace HT := Lib.hid (HT.out.ext hE)); (try replace HE := Lib.hid (HE.out.trans hE))
    clear hE
    go_wp2_with ((refine wpList_load_blk (by rfl) 26 _ rfl rfl (by first | exact h1 | exact h2) Tryd.underlying26 rfl (by kernel_rfl) ?_)); refine (clf _).mono ?_; rintro e w' ⟨rfl, hE⟩; (try replace h1 := h1.ext hE); (try replace h2 := h2.ext hE); (try replace HT := Lib.hid (HT.out.ext hE)); (try replace HE := Lib.hid (HE.out.trans hE))
    clear hE
    go_wp2_with ((refine wpList_load_blk (by rfl) 26 _ rfl rfl (by first | exact h1 | exact h2) Tryd.underlying26 rfl (by kernel_rfl) ?_)); refine (awake12_c _ HT.out).mono ?_; rintro e w' ⟨rfl, hE⟩; (try replace h1 := h1.ext hE); (try replace h2 := h2.ext hE); (try replace HT := Lib.hid (HT.out.ext hE)); (try replace HE := Lib.hid (HE.out.trans hE))
    clear hE
    go_wp2
    go_ret
    exact ⟨rfl, HE.out⟩
  rw [hlf] at clf
  cases hva : vaB (a : Int)
  · rw [hva] at cia
    go_enter Tryd.func5, Tryd.ntmps5
    go_wp2_with ((refine wpList_load_blk (by rfl) 26 _ rfl rfl (by first | exact h1 | exact h2) Tryd.underlying26 rfl (by kernel_rfl) ?_)); refine (awake12_c _ HT.out).mono ?_; rintro e w' ⟨rfl, hE⟩; (try replace h1 := h1.ext hE); (try replace h2 := h2.ext hE); (try replace HT := Lib.hid (HT.out.ext hE)); (try replace HE := Lib.hid (HE.out.trans hE))
    clear hE
    go_wp2_with ((refine wpList_load_blk (by rfl) 26 _ rfl rfl (by first | exact h1 | exact h2) Tryd.underlying26 rfl (by kernel_rfl) ?_)); refine (clf _).mono ?_; rintro e w' ⟨rfl, hE⟩; (try replace h1 := h1.ext hE); (try replace h2 := h2.ext hE); (try replace HT := Lib.hid (HT.out.ext hE)); (try replace HE := Lib.hid (HE.out.trans hE))
    clear hE
    go_wp2_with ((refine wpList_load_blk (by rfl) 26 _ rfl rfl (by first | exact h1 | exact h2) Tryd.underlying26 rfl (by kernel_rfl) ?_)); refine (calls_ext (cia _)).mono ?_; rintro e w' ⟨rfl, hE⟩; (try replace h1 := h1.ext hE); (try replace h2 := h2.ext hE); (try replace HT := Lib.hid (HT.out.ext hE)); (try replace HE := Lib.hid (HE.out.trans hE))
    clear hE
    go_wp2_with ((refine wpList_load_blk (by rfl) 26 _ rfl rfl (by first | exact h1 | exact h2) Tryd.underlying26 rfl (by kernel_rfl) ?_)); refine (awake12_c _ HT.out).mono ?_; rintro e w' ⟨rfl, hE⟩; (try replace h1 := h1.ext hE); (try replace h2 := h2.ext hE); (try replace HT := Lib.hid (HT.out.ext hE)); (try replace HE := Lib.hid (HE.out.trans hE))
    clear hE
    go_wp2
    go_ret
    exact ⟨rfl, HE.out⟩
  rw [hva] at cia
  cases hvb : vaB (b : Int)
  · rw [hvb] at cib
    go_enter Tryd.func5, Tryd.ntmps5
    go_wp2_with ((refine wpList_load_blk (by rfl) 26 _ rfl rfl (by first | exact h1 | exact h2) Tryd.underlying26 rfl (by kernel_rfl) ?_)); refine (awake12_c _ HT.out).mono ?_; rintro e w' ⟨rfl, hE⟩; (try replace h1 := h1.ext hE); (try replace h2 := h2.ext hE); (try replace HT := Lib.hid (HT.out.ext hE)); (try replace HE := Lib.hid (HE.out.trans hE))
    clear hE
    go_wp2_with ((refine wpList_load_blk (by rfl) 26 _ rfl rfl (by first | exact h1 | exact h2) Tryd.underlying26 rfl (by kernel_rfl) ?_)); refine (clf _).mono ?_; rintro e w' ⟨rfl, hE⟩; (try replace h1 := h1.ext hE); (try replace h2 := h2.ext hE); (try replace HT := Lib.hid (HT.out.ext hE)); (try replace HE := Lib.hid (HE.out.trans hE))
    clear hE
    go_wp2_with ((refine wpList_load_blk (by rfl) 26 _ rfl rfl (by first | exact h1 | exact h2) Tryd.underlying26 rfl (by kernel_rfl) ?_)); refine (calls_ext (cia _)).mono ?_; rintro e w' ⟨rfl, hE⟩; (try replace h1 := h1.ext hE); (try replace h2 := h2.ext hE); (try replace HT := Lib.hid (HT.out.ext hE)); (try replace HE := Lib.hid (HE.out.trans hE))
    clear hE
    go_wp2_with ((refine wpList_load_blk (by rfl) 26 _ rfl rfl (by first | exact h1 | exact h2) Tryd.underlying26 rfl (by kernel_rfl) ?_)); refine (calls_ext (cib _)).mono ?_; rintro e w' ⟨rfl, hE⟩; (try replace h1 := h1.ext hE); (try replace h2 := h2.ext hE); (try replace HT := Lib.hid (HT.out.ext hE)); (try replace HE := Lib.hid (HE.out.trans hE))
    clear hE
    go_wp2_with ((refine wpList_load_blk (by rfl) 26 _ rfl rfl (by first | exact h1 | exact h2) Tryd.underlying26 rfl (by kernel_rfl) ?_)); refine (awake12_c _ HT.out).mono ?_; rintro e w' ⟨rfl, hE⟩; (try replace h1 := h1.ext hE); (try replace h2 := h2.ext hE); (try replace HT := Lib.hid (HT.out.ext hE)); (try replace HE := Lib.hid (HE.out.trans hE))
    clear hE
    go_wp2
    go_ret
    exact ⟨rfl, HE.out⟩
  rw [hvb] at cib
  have hk := leaf_v hlf
  have l0 := hk.l0
  have l2 := hk.l2
  have a0 : 0 ≤ (a : Int) := by omega
  have a1 : (a : Int) < 18446744073709551616 := by omega
  have b0 : 0 ≤ (b : Int) := by omega
  have b1 : (b : Int) < 18446744073709551616 := by omega
  obtain ⟨v1, v2, v3, v4, v5, v6⟩ := ofE_v l a s
  have hqm := ofE_may hlf a hs
  have hql := may_lv hqm
  have hqp := (may_lt hqm).2.1
  have cof := fun w h => of12_c l l0 l2 a s ha w h
  have cmy := fun w h => may12_c (ofE l a s) (ofE_ok hl hk.pp a hs) w h
  rw [hqm] at cmy
  have cca := fun w h => covers_c (ofE l a s) (fun _ => hql) a a0 a1 w h
  rw [ofE_cova hlf s ha hva] at cca
  have ccb := fun w h => covers_c (ofE l a s) (fun _ => hql) b b0 b1 w h
  rw [ofE_cov hlf s ha hb' hva hvb] at ccb
  have cpa := fun w h => physical12_c (ofE l a s) hql.1 hql.2 hqp a a0 a1 w h
  rw [ofE_phy] at cpa
  have cpb := fun w h => physical12_c (ofE l a s) hql.1 hql.2 hqp b b0 b1 w h
  rw [ofE_phy] at cpb
  have rpa := fun w => rphys10_c l hk.pp l0 l2 a a0 a1 w
  have rpb := fun w => rphys10_c l hk.pp l0 l2 b b0 b1 w
  have cms := fun w h => matches_c (ofE l a s) (fun _ => hql) s a (by omega) (by omega) a0 a1 w h
  rw [ofE_mat, ofE_cova hlf s ha hva] at cms
  have hself : (true && (l.pt.g || ((s : Int) == (s : Int)))) = true := by simp
  rw [hself] at cms
  have cmt := fun w h => matches_c (ofE l a s) (fun _ => hql) t a (by omega) (by omega) a0 a1 w h
  rw [ofE_mat, ofE_cova hlf s ha hva, Bool.true_and] at cmt
  have cba := fun w => rbase5_c (a : Int) l.lv a0 a1 l0 l2 w
  have cbb := fun w => rbase5_c (b : Int) l.lv b0 b1 l0 l2 w
  clear hself hqm hql hqp v1 v2 v3 v4 v5 v6 hlf hva hvb hk l0 l2 a0 a1 b0 b1 hl
  generalize ofE l a s = q at *
  generalize (l.pt.pp : Int) * 4096 + offI (a : Int) l.lv = pa at *
  generalize (l.pt.pp : Int) * 4096 + offI (b : Int) l.lv = pb at *
  generalize basI (a : Int) l.lv = x at *
  generalize basI (b : Int) l.lv = y at *
  go_enter Tryd.func5, Tryd.ntmps5
  go_wp2_with ((refine wpList_load_blk (by rfl) 26 _ rfl rfl (by first | exact h1 | exact h2) Tryd.underlying26 rfl (by kernel_rfl) ?_)); refine (awake12_c _ HT.out).mono ?_; rintro e w' ⟨rfl, hE⟩; (try replace h1 := h1.ext hE); (try replace h2 := h2.ext hE); (try replace HT := Lib.hid (HT.out.ext hE)); (try replace HE := Lib.hid (HE.out.trans hE))
  clear hE
  go_wp2_with ((refine wpList_load_blk (by rfl) 26 _ rfl rfl (by first | exact h1 | exact h2) Tryd.underlying26 rfl (by kernel_rfl) ?_)); refine (clf _).mono ?_; rintro e w' ⟨rfl, hE⟩; (try replace h1 := h1.ext hE); (try replace h2 := h2.ext hE); (try replace HT := Lib.hid (HT.out.ext hE)); (try replace HE := Lib.hid (HE.out.trans hE))
  clear hE
  go_wp2_with ((refine wpList_load_blk (by rfl) 26 _ rfl rfl (by first | exact h1 | exact h2) Tryd.underlying26 rfl (by kernel_rfl) ?_)); refine (calls_ext (cia _)).mono ?_; rintro e w' ⟨rfl, hE⟩; (try replace h1 := h1.ext hE); (try replace h2 := h2.ext hE); (try replace HT := Lib.hid (HT.out.ext hE)); (try replace HE := Lib.hid (HE.out.trans hE))
  clear hE
  go_wp2_with ((refine wpList_load_blk (by rfl) 26 _ rfl rfl (by first | exact h1 | exact h2) Tryd.underlying26 rfl (by kernel_rfl) ?_)); refine (calls_ext (cib _)).mono ?_; rintro e w' ⟨rfl, hE⟩; (try replace h1 := h1.ext hE); (try replace h2 := h2.ext hE); (try replace HT := Lib.hid (HT.out.ext hE)); (try replace HE := Lib.hid (HE.out.trans hE))
  clear hE
  have hcv : IntKind.u64.wrap (s : Int) = (s : Int) := IntWalk.u64_in _ (by omega)
  have hcv2 : IntKind.u64.wrap (t : Int) = (t : Int) := IntWalk.u64_in _ (by omega)
  go_wp2_with ((refine wpList_load_blk (by rfl) 26 _ rfl rfl (by first | exact h1 | exact h2) Tryd.underlying26 rfl (by kernel_rfl) ?_)); refine (cof _ HT.out).mono ?_; rintro e w' ⟨rfl, hE⟩; (try replace h1 := h1.ext hE); (try replace h2 := h2.ext hE); (try replace HT := Lib.hid (HT.out.ext hE)); (try replace HE := Lib.hid (HE.out.trans hE))
  clear hE cof clf cia cib
  have hE := (Ext.refl (w')).alloc (.cells (enC q) 30); have hnew := Blk.new (w') 30 (enC q); (try replace h1 := h1.ext hE); (try replace h2 := h2.ext hE); (try replace HT := Lib.hid (HT.out.ext hE)); (try replace HE := Lib.hid (HE.out.trans hE)); clear hE; have h2 := hnew; clear hnew
  go_wp2_with (refine wpList_store_new rfl 30 _ _ rfl (enC _) _ _ rfl rfl (en_info _) (by simp [enC_size]) (enC_one _) ?_)
  (try replace h1 := Blk.drew h1); (try replace h2 := Blk.drew h2); replace HE := Lib.hid HE.out.drew
  replace HT := Lib.hid (HT.out.ext (Ext.refl _).drew)
  refine wp_region_seq [(0, false), (1, false), (2, false), (4, false), (5, false), (6, false), (3, true), (7, true), (8, false), (9, false)] Ext (by kernel_rfl) (by kernel_rfl) Ext.refl (fun _ _ _ => Ext.trans) ?_; simp only [List.map, nth_z, nth_s]
  simp only [Act.put, List.setIfInBounds_toArray, List.set_cons_zero, List.set_cons_succ]
  (repeat (first | (refine seq_skip (by rfl) ?_; intro K hK; simp only [Act.put, List.setIfInBounds_toArray, List.set_cons_zero, List.set_cons_succ]; refine hK _ ?_; clear hK K) | (refine seq_skipc (by rfl) ?_; intro K hK; simp only [Act.put, List.setIfInBounds_toArray, List.set_cons_zero, List.set_cons_succ]; refine hK _ ?_; clear hK K) | (refine seq_read (by rfl) (by rfl) ?_; intro K hK; go_big_quiet_op; first | go_big_quiet_on | (refine ⟨_, fun _ _ => rfl, ?_⟩; go_big_quiet_on))))
  refine seq_value (.int .i64 l.lv) (by rfl) (fun x hx => by have hq := ext_cell hx ((h1.cell 0).trans (lfC_lv l)); simp [go_sem, execOp, Act.eval, hq]) ?_; intro K hK; simp only [Act.put, List.setIfInBounds_toArray, List.set_cons_zero, List.set_cons_succ]; refine hK _ ?_; clear hK K
  (repeat (first | (refine seq_skip (by rfl) ?_; intro K hK; simp only [Act.put, List.setIfInBounds_toArray, List.set_cons_zero, List.set_cons_succ]; refine hK _ ?_; clear hK K) | (refine seq_skipc (by rfl) ?_; intro K hK; simp only [Act.put, List.setIfInBounds_toArray, List.set_cons_zero, List.set_cons_succ]; refine hK _ ?_; clear hK K) | (refine seq_read (by rfl) (by rfl) ?_; intro K hK; go_big_quiet_op; first | go_big_quiet_on | (refine ⟨_, fun _ _ => rfl, ?_⟩; go_big_quiet_on))))
  refine seq_value (.int .i64 l.lv) (by rfl) (fun x hx => by have hq := ext_cell hx ((h1.cell 0).trans (lfC_lv l)); simp [go_sem, execOp, Act.eval, hq]) ?_; intro K hK; simp only [Act.put, List.setIfInBounds_toArray, List.set_cons_zero, List.set_cons_succ]; refine hK _ ?_; clear hK K
  (repeat (first | (refine seq_skip (by rfl) ?_; intro K hK; simp only [Act.put, List.setIfInBounds_toArray, List.set_cons_zero, List.set_cons_succ]; refine hK _ ?_; clear hK K) | (refine seq_skipc (by rfl) ?_; intro K hK; simp only [Act.put, List.setIfInBounds_toArray, List.set_cons_zero, List.set_cons_succ]; refine hK _ ?_; clear hK K) | (refine seq_read (by rfl) (by rfl) ?_; intro K hK; go_big_quiet_op; first | go_big_quiet_on | (refine ⟨_, fun _ _ => rfl, ?_⟩; go_big_quiet_on))))
  refine seq_call (cba _) rfl Tryd.func23 (by kernel_rfl) (by kernel_rfl) (by rfl) (by rfl) ?_; intro K hK; rintro e w' ⟨rfl, hE⟩; refine ⟨_, rfl, hE, ?_⟩; simp only [Act.put, List.setIfInBounds_toArray, List.set_cons_zero, List.set_cons_succ]; refine hK _ _ ?_; clear hK K; (try replace h1 := h1.ext hE); (try replace h2 := h2.ext hE); (try replace HT := Lib.hid (HT.out.ext hE)); (try replace HE := Lib.hid (HE.out.trans hE))
  clear hE
  refine seq_call (cbb _) rfl Tryd.func23 (by kernel_rfl) (by kernel_rfl) (by rfl) (by rfl) ?_; intro K hK; rintro e w' ⟨rfl, hE⟩; refine ⟨_, rfl, hE, ?_⟩; simp only [Act.put, List.setIfInBounds_toArray, List.set_cons_zero, List.set_cons_succ]; refine hK _ _ ?_; clear hK K; (try replace h1 := h1.ext hE); (try replace h2 := h2.ext hE); (try replace HT := Lib.hid (HT.out.ext hE)); (try replace HE := Lib.hid (HE.out.trans hE))
  clear hE cba cbb
  cases hsm : (x == y)
  all_goals
    rw [hsm] at ccb
    (repeat (first | (refine seq_skip (by rfl) ?_; intro K hK; simp only [Act.put, List.setIfInBounds_toArray, List.set_cons_zero, List.set_cons_succ]; refine hK _ ?_; clear hK K) | (refine seq_skipc (by rfl) ?_; intro K hK; simp only [Act.put, List.setIfInBounds_toArray, List.set_cons_zero, List.set_cons_succ]; refine hK _ ?_; clear hK K) | (refine seq_read (by rfl) (by rfl) ?_; intro K hK; go_big_quiet_op; first | go_big_quiet_on | (refine ⟨_, fun _ _ => rfl, ?_⟩; go_big_quiet_on))))
    refine seq_done ?_
    go_wp2_with fail
    (try replace h1 := Blk.drew h1); (try replace h2 := Blk.drew h2); replace HE := Lib.hid HE.out.drew
    replace HT := Lib.hid (HT.out.ext (Ext.refl _).drew)
    refine wp_region_seq [(0, false), (1, true), (2, false), (3, false), (4, false), (5, false), (6, true), (7, false), (8, false), (9, false), (10, false), (11, false), (13, false), (14, false), (12, true), (15, true), (16, false), (17, false), (18, false), (19, false), (20, false), (22, false), (21, true), (23, false), (24, false)] Ext (by kernel_rfl) (by kernel_rfl) Ext.refl (fun _ _ _ => Ext.trans) ?_; simp only [List.map, nth_z, nth_s]
    refine seq_load rfl rfl (fun x hx => Blk.ext (h2) hx) rfl Tryd.underlying30 (by kernel_rfl) (by rfl) ?_; intro K hK; simp only [Act.put, List.setIfInBounds_toArray, List.set_cons_zero, List.set_cons_succ]; refine hK _ ?_; clear hK K
    refine seq_call (cmy _ HT.out) rfl Tryd.func9 (by kernel_rfl) (by kernel_rfl) (by rfl) (by rfl) ?_; intro K hK; rintro e w' ⟨rfl, hE⟩; refine ⟨_, rfl, hE, ?_⟩; simp only [Act.put, List.setIfInBounds_toArray, List.set_cons_zero, List.set_cons_succ]; refine hK _ _ ?_; clear hK K; (try replace h1 := h1.ext hE); (try replace h2 := h2.ext hE); (try replace HT := Lib.hid (HT.out.ext hE)); (try replace HE := Lib.hid (HE.out.trans hE))
    clear hE cmy
    (repeat (first | (refine seq_skip (by rfl) ?_; intro K hK; simp only [Act.put, List.setIfInBounds_toArray, List.set_cons_zero, List.set_cons_succ]; refine hK _ ?_; clear hK K) | (refine seq_skipc (by rfl) ?_; intro K hK; simp only [Act.put, List.setIfInBounds_toArray, List.set_cons_zero, List.set_cons_succ]; refine hK _ ?_; clear hK K) | (refine seq_read (by rfl) (by rfl) ?_; intro K hK; go_big_quiet_op; first | go_big_quiet_on | (refine ⟨_, fun _ _ => rfl, ?_⟩; go_big_quiet_on))))
    refine seq_load rfl rfl (fun x hx => Blk.ext (h2) hx) rfl Tryd.underlying30 (by kernel_rfl) (by rfl) ?_; intro K hK; simp only [Act.put, List.setIfInBounds_toArray, List.set_cons_zero, List.set_cons_succ]; refine hK _ ?_; clear hK K
    (repeat (first | (refine seq_skip (by rfl) ?_; intro K hK; simp only [Act.put, List.setIfInBounds_toArray, List.set_cons_zero, List.set_cons_succ]; refine hK _ ?_; clear hK K) | (refine seq_skipc (by rfl) ?_; intro K hK; simp only [Act.put, List.setIfInBounds_toArray, List.set_cons_zero, List.set_cons_succ]; refine hK _ ?_; clear hK K) | (refine seq_read (by rfl) (by rfl) ?_; intro K hK; go_big_quiet_op; first | go_big_quiet_on | (refine ⟨_, fun _ _ => rfl, ?_⟩; go_big_quiet_on))))
    refine seq_call (cca _ HT.out) rfl Tryd.func15 (by kernel_rfl) (by kernel_rfl) (by rfl) (by rfl) ?_; intro K hK; rintro e w' ⟨rfl, hE⟩; refine ⟨_, rfl, hE, ?_⟩; simp only [Act.put, List.setIfInBounds_toArray, List.set_cons_zero, List.set_cons_succ]; refine hK _ _ ?_; clear hK K; (try replace h1 := h1.ext hE); (try replace h2 := h2.ext hE); (try replace HT := Lib.hid (HT.out.ext hE)); (try replace HE := Lib.hid (HE.out.trans hE))
    clear hE cca
    (repeat (first | (refine seq_skip (by rfl) ?_; intro K hK; simp only [Act.put, List.setIfInBounds_toArray, List.set_cons_zero, List.set_cons_succ]; refine hK _ ?_; clear hK K) | (refine seq_skipc (by rfl) ?_; intro K hK; simp only [Act.put, List.setIfInBounds_toArray, List.set_cons_zero, List.set_cons_succ]; refine hK _ ?_; clear hK K) | (refine seq_read (by rfl) (by rfl) ?_; intro K hK; go_big_quiet_op; first | go_big_quiet_on | (refine ⟨_, fun _ _ => rfl, ?_⟩; go_big_quiet_on))))
    refine seq_load rfl rfl (fun x hx => Blk.ext (h2) hx) rfl Tryd.underlying30 (by kernel_rfl) (by rfl) ?_; intro K hK; simp only [Act.put, List.setIfInBounds_toArray, List.set_cons_zero, List.set_cons_succ]; refine hK _ ?_; clear hK K
    (repeat (first | (refine seq_skip (by rfl) ?_; intro K hK; simp only [Act.put, List.setIfInBounds_toArray, List.set_cons_zero, List.set_cons_succ]; refine hK _ ?_; clear hK K) | (refine seq_skipc (by rfl) ?_; intro K hK; simp only [Act.put, List.setIfInBounds_toArray, List.set_cons_zero, List.set_cons_succ]; refine hK _ ?_; clear hK K) | (refine seq_read (by rfl) (by rfl) ?_; intro K hK; go_big_quiet_op; first | go_big_quiet_on | (refine ⟨_, fun _ _ => rfl, ?_⟩; go_big_quiet_on))))
    refine seq_load rfl rfl (fun x hx => Blk.ext (h1) hx) rfl Tryd.underlying26 (by kernel_rfl) (by rfl) ?_; intro K hK; simp only [Act.put, List.setIfInBounds_toArray, List.set_cons_zero, List.set_cons_succ]; refine hK _ ?_; clear hK K
    (repeat (first | (refine seq_skip (by rfl) ?_; intro K hK; simp only [Act.put, List.setIfInBounds_toArray, List.set_cons_zero, List.set_cons_succ]; refine hK _ ?_; clear hK K) | (refine seq_skipc (by rfl) ?_; intro K hK; simp only [Act.put, List.setIfInBounds_toArray, List.set_cons_zero, List.set_cons_succ]; refine hK _ ?_; clear hK K) | (refine seq_read (by rfl) (by rfl) ?_; intro K hK; go_big_quiet_op; first | go_big_quiet_on | (refine ⟨_, fun _ _ => rfl, ?_⟩; go_big_quiet_on))))
    refine seq_call (cpa _ HT.out) rfl Tryd.func21 (by kernel_rfl) (by kernel_rfl) (by rfl) (by rfl) ?_; intro K hK; rintro e w' ⟨rfl, hE⟩; refine ⟨_, rfl, hE, ?_⟩; simp only [Act.put, List.setIfInBounds_toArray, List.set_cons_zero, List.set_cons_succ]; refine hK _ _ ?_; clear hK K; (try replace h1 := h1.ext hE); (try replace h2 := h2.ext hE); (try replace HT := Lib.hid (HT.out.ext hE)); (try replace HE := Lib.hid (HE.out.trans hE))
    clear hE cpa
    refine seq_call (rpa _) rfl Tryd.func24 (by kernel_rfl) (by kernel_rfl) (by rfl) (by rfl) ?_; intro K hK; rintro e w' ⟨rfl, hE⟩; refine ⟨_, rfl, hE, ?_⟩; simp only [Act.put, List.setIfInBounds_toArray, List.set_cons_zero, List.set_cons_succ]; refine hK _ _ ?_; clear hK K; (try replace h1 := h1.ext hE); (try replace h2 := h2.ext hE); (try replace HT := Lib.hid (HT.out.ext hE)); (try replace HE := Lib.hid (HE.out.trans hE))
    clear hE rpa
    (repeat (first | (refine seq_skip (by rfl) ?_; intro K hK; simp only [Act.put, List.setIfInBounds_toArray, List.set_cons_zero, List.set_cons_succ]; refine hK _ ?_; clear hK K) | (refine seq_skipc (by rfl) ?_; intro K hK; simp only [Act.put, List.setIfInBounds_toArray, List.set_cons_zero, List.set_cons_succ]; refine hK _ ?_; clear hK K) | (refine seq_read (by rfl) (by rfl) ?_; intro K hK; go_big_quiet_op; first | go_big_quiet_on | (refine ⟨_, fun _ _ => rfl, ?_⟩; go_big_quiet_on))))
    refine seq_load rfl rfl (fun x hx => Blk.ext (h2) hx) rfl Tryd.underlying30 (by kernel_rfl) (by rfl) ?_; intro K hK; simp only [Act.put, List.setIfInBounds_toArray, List.set_cons_zero, List.set_cons_succ]; refine hK _ ?_; clear hK K
    (repeat (first | (refine seq_skip (by rfl) ?_; intro K hK; simp only [Act.put, List.setIfInBounds_toArray, List.set_cons_zero, List.set_cons_succ]; refine hK _ ?_; clear hK K) | (refine seq_skipc (by rfl) ?_; intro K hK; simp only [Act.put, List.setIfInBounds_toArray, List.set_cons_zero, List.set_cons_succ]; refine hK _ ?_; clear hK K) | (refine seq_read (by rfl) (by rfl) ?_; intro K hK; go_big_quiet_op; first | go_big_quiet_on | (refine ⟨_, fun _ _ => rfl, ?_⟩; go_big_quiet_on))))
    refine seq_call (ccb _ HT.out) rfl Tryd.func15 (by kernel_rfl) (by kernel_rfl) (by rfl) (by rfl) ?_; intro K hK; rintro e w' ⟨rfl, hE⟩; refine ⟨_, rfl, hE, ?_⟩; simp only [Act.put, List.setIfInBounds_toArray, List.set_cons_zero, List.set_cons_succ]; refine hK _ _ ?_; clear hK K; (try replace h1 := h1.ext hE); (try replace h2 := h2.ext hE); (try replace HT := Lib.hid (HT.out.ext hE)); (try replace HE := Lib.hid (HE.out.trans hE))
    clear hE ccb
    (repeat (first | (refine seq_skip (by rfl) ?_; intro K hK; simp only [Act.put, List.setIfInBounds_toArray, List.set_cons_zero, List.set_cons_succ]; refine hK _ ?_; clear hK K) | (refine seq_skipc (by rfl) ?_; intro K hK; simp only [Act.put, List.setIfInBounds_toArray, List.set_cons_zero, List.set_cons_succ]; refine hK _ ?_; clear hK K) | (refine seq_read (by rfl) (by rfl) ?_; intro K hK; go_big_quiet_op; first | go_big_quiet_on | (refine ⟨_, fun _ _ => rfl, ?_⟩; go_big_quiet_on))))
    refine seq_done ?_
    go_wp2_with fail
    (try replace h1 := Blk.drew h1); (try replace h2 := Blk.drew h2); replace HE := Lib.hid HE.out.drew
    replace HT := Lib.hid (HT.out.ext (Ext.refl _).drew)
    refine wp_region_seq [(0, false), (1, false), (2, false), (3, false), (5, false), (6, false), (4, true), (7, true), (8, false), (9, false)] Ext (by kernel_rfl) (by kernel_rfl) Ext.refl (fun _ _ _ => Ext.trans) ?_; simp only [List.map, nth_z, nth_s]
    (repeat (first | (refine seq_skip (by rfl) ?_; intro K hK; simp only [Act.put, List.setIfInBounds_toArray, List.set_cons_zero, List.set_cons_succ]; refine hK _ ?_; clear hK K) | (refine seq_skipc (by rfl) ?_; intro K hK; simp only [Act.put, List.setIfInBounds_toArray, List.set_cons_zero, List.set_cons_succ]; refine hK _ ?_; clear hK K) | (refine seq_read (by rfl) (by rfl) ?_; intro K hK; go_big_quiet_op; first | go_big_quiet_on | (refine ⟨_, fun _ _ => rfl, ?_⟩; go_big_quiet_on))))
  · skip
    refine seq_done ?_
    go_wp2_with ((refine wpList_load_blk (by rfl) 30 _ rfl rfl (by first | exact h1 | exact h2) Tryd.underlying30 rfl (by kernel_rfl) ?_)); refine (cms _ HT.out).mono ?_; rintro e w' ⟨rfl, hE⟩; (try replace h1 := h1.ext hE); (try replace h2 := h2.ext hE); (try replace HT := Lib.hid (HT.out.ext hE)); (try replace HE := Lib.hid (HE.out.trans hE))
    clear hE cms
    go_wp2_with ((refine wpList_load_blk (by rfl) 30 _ rfl rfl (by first | exact h1 | exact h2) Tryd.underlying30 rfl (by kernel_rfl) ?_)); refine (cmt _ HT.out).mono ?_; rintro e w' ⟨rfl, hE⟩; (try replace h1 := h1.ext hE); (try replace h2 := h2.ext hE); (try replace HT := Lib.hid (HT.out.ext hE)); (try replace HE := Lib.hid (HE.out.trans hE))
    clear hE cmt
    have x7 := (h1.cell 7).trans (lfC_7 l)
    cases hg : l.pt.g <;> cases hst : ((s : Int) == (t : Int))
    all_goals
      rw [hg] at x7
      go_wp2
      go_ret
      exact ⟨rfl, HE.out⟩
  · refine seq_load rfl rfl (fun x hx => Blk.ext (h2) hx) rfl Tryd.underlying30 (by kernel_rfl) (by rfl) ?_; intro K hK; simp only [Act.put, List.setIfInBounds_toArray, List.set_cons_zero, List.set_cons_succ]; refine hK _ ?_; clear hK K
    (repeat (first | (refine seq_skip (by rfl) ?_; intro K hK; simp only [Act.put, List.setIfInBounds_toArray, List.set_cons_zero, List.set_cons_succ]; refine hK _ ?_; clear hK K) | (refine seq_skipc (by rfl) ?_; intro K hK; simp only [Act.put, List.setIfInBounds_toArray, List.set_cons_zero, List.set_cons_succ]; refine hK _ ?_; clear hK K) | (refine seq_read (by rfl) (by rfl) ?_; intro K hK; go_big_quiet_op; first | go_big_quiet_on | (refine ⟨_, fun _ _ => rfl, ?_⟩; go_big_quiet_on))))
    refine seq_load rfl rfl (fun x hx => Blk.ext (h1) hx) rfl Tryd.underlying26 (by kernel_rfl) (by rfl) ?_; intro K hK; simp only [Act.put, List.setIfInBounds_toArray, List.set_cons_zero, List.set_cons_succ]; refine hK _ ?_; clear hK K
    (repeat (first | (refine seq_skip (by rfl) ?_; intro K hK; simp only [Act.put, List.setIfInBounds_toArray, List.set_cons_zero, List.set_cons_succ]; refine hK _ ?_; clear hK K) | (refine seq_skipc (by rfl) ?_; intro K hK; simp only [Act.put, List.setIfInBounds_toArray, List.set_cons_zero, List.set_cons_succ]; refine hK _ ?_; clear hK K) | (refine seq_read (by rfl) (by rfl) ?_; intro K hK; go_big_quiet_op; first | go_big_quiet_on | (refine ⟨_, fun _ _ => rfl, ?_⟩; go_big_quiet_on))))
    refine seq_call (cpb _ HT.out) rfl Tryd.func21 (by kernel_rfl) (by kernel_rfl) (by rfl) (by rfl) ?_; intro K hK; rintro e w' ⟨rfl, hE⟩; refine ⟨_, rfl, hE, ?_⟩; simp only [Act.put, List.setIfInBounds_toArray, List.set_cons_zero, List.set_cons_succ]; refine hK _ _ ?_; clear hK K; (try replace h1 := h1.ext hE); (try replace h2 := h2.ext hE); (try replace HT := Lib.hid (HT.out.ext hE)); (try replace HE := Lib.hid (HE.out.trans hE))
    clear hE cpb
    refine seq_call (rpb _) rfl Tryd.func24 (by kernel_rfl) (by kernel_rfl) (by rfl) (by rfl) ?_; intro K hK; rintro e w' ⟨rfl, hE⟩; refine ⟨_, rfl, hE, ?_⟩; simp only [Act.put, List.setIfInBounds_toArray, List.set_cons_zero, List.set_cons_succ]; refine hK _ _ ?_; clear hK K; (try replace h1 := h1.ext hE); (try replace h2 := h2.ext hE); (try replace HT := Lib.hid (HT.out.ext hE)); (try replace HE := Lib.hid (HE.out.trans hE))
    clear hE rpb
    (repeat (first | (refine seq_skip (by rfl) ?_; intro K hK; simp only [Act.put, List.setIfInBounds_toArray, List.set_cons_zero, List.set_cons_succ]; refine hK _ ?_; clear hK K) | (refine seq_skipc (by rfl) ?_; intro K hK; simp only [Act.put, List.setIfInBounds_toArray, List.set_cons_zero, List.set_cons_succ]; refine hK _ ?_; clear hK K) | (refine seq_read (by rfl) (by rfl) ?_; intro K hK; go_big_quiet_op; first | go_big_quiet_on | (refine ⟨_, fun _ _ => rfl, ?_⟩; go_big_quiet_on))))
    refine seq_done ?_
    go_wp2_with ((refine wpList_load_blk (by rfl) 30 _ rfl rfl (by first | exact h1 | exact h2) Tryd.underlying30 rfl (by kernel_rfl) ?_)); refine (cms _ HT.out).mono ?_; rintro e w' ⟨rfl, hE⟩; (try replace h1 := h1.ext hE); (try replace h2 := h2.ext hE); (try replace HT := Lib.hid (HT.out.ext hE)); (try replace HE := Lib.hid (HE.out.trans hE))
    clear hE cms
    go_wp2_with ((refine wpList_load_blk (by rfl) 30 _ rfl rfl (by first | exact h1 | exact h2) Tryd.underlying30 rfl (by kernel_rfl) ?_)); refine (cmt _ HT.out).mono ?_; rintro e w' ⟨rfl, hE⟩; (try replace h1 := h1.ext hE); (try replace h2 := h2.ext hE); (try replace HT := Lib.hid (HT.out.ext hE)); (try replace HE := Lib.hid (HE.out.trans hE))
    clear hE cmt
    have x7 := (h1.cell 7).trans (lfC_7 l)
    cases hg : l.pt.g <;> cases hst : ((s : Int) == (t : Int))
    all_goals
      rw [hg] at x7
      go_wp2
      go_ret
      exact ⟨rfl, HE.out⟩
end Go.Proofs.YtklickoclgjnkaaDoor
