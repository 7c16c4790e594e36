/- Layer 13: awake answers true. -/
import Derived.Test.YtbncaghcokmefaaDoorRthirb
import Derived.Lib.Hide
namespace Go.Proofs.YtbncaghcokmefaaDoor
open Go.ChangeShapes Go.WideShapes Go.ChangeAt Go.RowKit
set_option linter.unusedVariables false
set_option linter.unusedSimpArgs false

def onE (v n : Nat) : En := ⟨true, n, false, 0, v, 0, ⟨false, false, false, false⟩, false⟩
def KA : St := ⟨⟨onE 5 1, e0, e0, e0⟩, 3⟩
def KB : St := ⟨⟨onE 5 1, onE 6 1, e0, e0⟩, 1⟩
def KC : St := ⟨⟨onE 7 1, onE 6 1, e0, e0⟩, 3⟩
def KD : St := ⟨⟨e0, onE 6 1, e0, onE 5 1⟩, 0⟩
def K8 : St := ⟨⟨e0, e0, e0, e0⟩, 8⟩
theorem K_put : putS (onE 5 1) (-1) s0 = KA ∧ putS (onE 6 1) 9 KA = KB ∧ putS (onE 7 1) 0 KB = KC ∧ putS (onE 5 1) 3 KB = KD := ⟨by kernel_rfl, by kernel_rfl, by kernel_rfl, by kernel_rfl⟩
theorem K_way : wayS (onE 5 1) (-1) s0 = 0 ∧ wayS (onE 6 1) 9 KA = 1 ∧ wayS (onE 7 1) 0 KB = 0 ∧ wayS (onE 5 1) 3 KB = 3 := ⟨by kernel_rfl, by kernel_rfl, by kernel_rfl, by kernel_rfl⟩
theorem K_find : fiW (hitE 1 24585 0) KB.ws = 1 ∧ fbW (hitE 1 24585 0) KB.ws = true ∧ fiW (hitE 1 20480 0) KC.ws = 0 ∧ fbW (hitE 1 20480 0) KC.ws = false ∧ fiW (hitE 2 24576 0) KB.ws = 0 ∧ fbW (hitE 2 24576 0) KB.ws = false := ⟨by kernel_rfl, by kernel_rfl, by kernel_rfl, by kernel_rfl, by kernel_rfl, by kernel_rfl⟩
theorem K_use : (⟨s0.ws, toN s0.t 0⟩ : St) = ⟨s0.ws, 3⟩ := by kernel_rfl
theorem K_drop : KA.put 0 e0 = ⟨⟨e0, e0, e0, e0⟩, 3⟩ := by kernel_rfl
theorem K_right : rightS KD = true ∧ rightS K8 = false ∧ rightS KB = true ∧ rightS KC = true := ⟨by kernel_rfl, by kernel_rfl, by kernel_rfl, by kernel_rfl⟩
theorem K_same : sameE (onE 5 1) (onE 5 1) = true ∧ sameE (onE 5 1) (onE 5 2) = false := ⟨by kernel_rfl, by kernel_rfl⟩
theorem onE_ok (v n : Nat) (hv : v < 18446744073709551616) (hn : n < 18446744073709551616) : (onE v n).ok := ⟨hn, ⟨by show (-9223372036854775808 : Int) ≤ 0; decide, by show (0 : Int) ≤ 9223372036854775807; decide⟩, hv, by show (0 : Nat) < 18446744073709551616; decide, trivial⟩
theorem e0_ok : e0.ok := by unfold e0 En.ok Pm.ok; decide
theorem K_t : s0.t = 0 ∧ KA.t = 3 ∧ KB.t = 1 ∧ KC.t = 3 := ⟨rfl, rfl, rfl, rfl⟩
theorem K_ok : KD.ok ∧ K8.ok := ⟨⟨⟨e0_ok, onE_ok _ _ (by decide) (by decide), e0_ok, onE_ok _ _ (by decide) (by decide)⟩, by decide⟩, ⟨⟨e0_ok, e0_ok, e0_ok, e0_ok⟩, by decide⟩⟩
theorem s0_cells : stC s0 = #[.bool false, .int .u64 0, .bool false, .int .i64 0, .int .u64 0, .int .u64 0, .bool false, .bool false, .bool false, .bool false, .bool false, .bool false, .int .u64 0, .bool false, .int .i64 0, .int .u64 0, .int .u64 0, .bool false, .bool false, .bool false, .bool false, .bool false, .bool false, .int .u64 0, .bool false, .int .i64 0, .int .u64 0, .int .u64 0, .bool false, .bool false, .bool false, .bool false, .bool false, .bool false, .int .u64 0, .bool false, .int .i64 0, .int .u64 0, .int .u64 0, .bool false, .bool false, .bool false, .bool false, .bool false, .int .u8 0] := by unfold s0 e0; simp only [stC_eq, wsC_eq, enC_eq, pmC_eq]; rfl
theorem s0_build : Tryd.prog.built 29 [] = some (stC s0) := by rw [s0_cells]; kernel_rfl
theorem K8_build : Tryd.prog.built 29 [(1, .int .u8 8)] = some (stC K8) := by unfold K8 e0; simp only [stC_eq, wsC_eq, enC_eq, pmC_eq]; kernel_rfl
theorem onE_build (v n : Nat) : Tryd.prog.built 26 [(0, .bool true), (1, .int .u64 (n : Int)), (4, .int .u64 (v : Int))] = some (enC (onE v n)) := by unfold onE; rw [enC_def, pmC_def]; kernel_rfl
theorem K_v : (KD.ws.at 0).v = false ∧ (KD.ws.at 3).v = true ∧ ((⟨⟨e0, e0, e0, e0⟩, 3⟩ : St).ws.at 0).v = false := ⟨by kernel_rfl, by kernel_rfl, by kernel_rfl⟩
attribute [irreducible] onE KA KB KC KD K8
attribute [local irreducible] s0
theorem one13_c (v n : Nat) (w : World) :
    Calls Tryd.prog 26 #[.int .u64 (v : Int), .int .u64 (n : Int)] w fun r w' => r = .returned (.agg (enC (onE v n))) ∧ Ext w w' := by
  have hb := onE_build v n
  generalize onE v n = e at hb ⊢
  have h1 := Blk.new w 26 (enC e)
  have HE := Lib.hid ((Ext.refl w).alloc (.cells (enC e) 26))
  go_enter Tryd.func26, Tryd.ntmps26
  go_wp2_with (first | (refine wpList_build_as (by rfl) rfl (hb) ?_) | (refine wpList_store_new rfl 26 _ _ rfl (enC _) _ _ rfl rfl (en_info _) (by simp [enC_size]) (enC_one _) ?_))
  (try simp only [Exit.inBlock, Exit.then]); (try rw [Exit.noGoto_ret]); refine bodyPost_ret (results_cell_row rfl _ _ _ _ _ _ _ rfl (h1) Tryd.underlying26 rfl (en_info _)) rfl ?_
  exact ⟨rfl, HE.out⟩
theorem field_ws (s : St) (w : World) : (Instr.field 29 (.agg (stC s)) 0).run Tryd.prog w = .ok (.agg (wsC s.ws)) w := by
  have he := stC_ws s
  rw [wsC_size] at he
  simp only [Nat.zero_add] at he
  simp [Instr.field, Tryd.underlying29, go_sem, asAgg, he]
theorem field_t (s : St) (w : World) : (Instr.field 29 (.agg (stC s)) 1).run Tryd.prog w = .ok (.int .u8 (s.t : Int)) w := by
  simp [Instr.field, Tryd.underlying29, go_sem, asAgg, stC_t s]
theorem field_v (e : En) (w : World) : (Instr.field 26 (.agg (enC e)) 0).run Tryd.prog w = .ok (.bool e.v) w := by
  simp [Instr.field, Tryd.underlying26, go_sem, asAgg, enC_v e]
/-- several walks with one end: the end is shown once, whatever block and world the walk has come to -/
theorem cut_fork {F : Nat → World → Prop} (A : Nat → World → Prop) {G : Prop} (h : (∀ g W, A g W → F g W) → G) (k : ∀ g W, A g W → F g W) : G := h k

attribute [local irreducible] World.setRow World.alloc Blk
set_option maxRecDepth 100000 in
set_option maxHeartbeats 8000000 in
theorem awake13_c (w : World) (hT : Lays w) :
    Calls Tryd.prog 7 #[] w fun e w' => e = .returned (.bool true) ∧ Ext w w' := by
  obtain ⟨p1, p2, p3, p4⟩ := K_put
  obtain ⟨y1, y2, y3, y4⟩ := K_way
  obtain ⟨t1, t2, t3, t4⟩ := K_t
  have cp1 := fun w h => put13_c s0 (by omega) (onE 5 1) (-1) w h
  rw [p1, y1] at cp1
  have cp2 := fun w h => put13_c KA (by omega) (onE 6 1) 9 w h
  rw [p2, y2] at cp2
  have cp3 := fun w h => put13_c KB (by omega) (onE 7 1) 0 w h
  rw [p3, y3] at cp3
  have cp4 := fun w h => put13_c KB (by omega) (onE 5 1) 3 w h
  rw [p4, y4] at cp4
  have co5 := fun w => one13_c 5 1 w
  have co6 := fun w => one13_c 6 1 w
  have co7 := fun w => one13_c 7 1 w
  obtain ⟨f1, f2, f3, f4, f5, f6⟩ := K_find
  obtain ⟨r1, r2, r3, r4⟩ := K_right
  obtain ⟨m1, m2⟩ := K_same
  obtain ⟨v1, v2, v3⟩ := K_v
  obtain ⟨o1, o2⟩ := K_ok
  have cu := fun w h => use13_c s0 (by omega) 0 (by decide) w h
  rw [K_use] at cu
  have cd := fun w => drop13_c KA 0 (by decide) w
  rw [K_drop] at cd
  have cr1 := fun w h => right13_c KD o1 w h
  rw [r1] at cr1
  have cr2 := fun w h => right13_c K8 o2 w h
  rw [r2] at cr2
  have cs1 := fun w => same13_c (onE 5 1) (onE 5 1) w
  rw [m1] at cs1
  have cs2 := fun w => same13_c (onE 5 1) (onE 5 2) w
  rw [m2] at cs2
  have co2 := fun w => one13_c 5 2 w
  have ft := fun w => field_t ⟨s0.ws, 3⟩ w
  have fw := fun w => field_ws ⟨⟨e0, e0, e0, e0⟩, 3⟩ w
  have fi : ∀ w, (Instr.index 27 (.agg (wsC (⟨⟨e0, e0, e0, e0⟩, 3⟩ : St).ws)) (.int .i64 0)).run Tryd.prog w = .ok (.agg (enC ((⟨⟨e0, e0, e0, e0⟩, 3⟩ : St).ws.at 0))) w := fun w => index_ws (⟨⟨e0, e0, e0, e0⟩, 3⟩ : St).ws (k := 0) (by decide) w
  have fv := fun w => field_v ((⟨⟨e0, e0, e0, e0⟩, 3⟩ : St).ws.at 0) w
  rw [v3] at fv
  generalize (⟨⟨e0, e0, e0, e0⟩, 3⟩ : St).ws.at 0 = f0 at fi fv
  generalize (⟨⟨e0, e0, e0, e0⟩, 3⟩ : St).ws = w0 at fw fi
  generalize (⟨⟨e0, e0, e0, e0⟩, 3⟩ : St) = s4 at cd fw
  simp only at ft
  generalize (⟨s0.ws, 3⟩ : St) = s3 at cu ft
  have cf1 := fun w h => find13_c KB (fun k hk _ => may_lv (right_may r3 hk)) 1 24585 0 (by decide) (by decide) (by decide) (by decide) w h
  rw [f1, f2] at cf1
  have cf2 := fun w h => find13_c KC (fun k hk _ => may_lv (right_may r4 hk)) 1 20480 0 (by decide) (by decide) (by decide) (by decide) w h
  rw [f3, f4] at cf2
  have cf3 := fun w h => find13_c KB (fun k hk _ => may_lv (right_may r3 hk)) 2 24576 0 (by decide) (by decide) (by decide) (by decide) w h
  rw [f5, f6] at cf3
  clear p1 p2 p3 p4 y1 y2 y3 y4 f1 f2 f3 f4 f5 f6 r1 r2 r3 r4 m1 m2 v3 o1 o2 t1 t2 t3 t4
  have HE := Lib.hid (Ext.refl w)
  have hT0 := hT
  have HT := Lib.hid hT
  clear hT
  go_enter Tryd.func7, Tryd.ntmps7
  go_wp2_with ((refine wpList_build_as (by rfl) rfl (s0_build) ?_)); refine (co5 _).mono ?_; rintro e w' ⟨rfl, hE⟩; (try replace hm := hm.ext hE); (try replace h1 := h1.ext hE); (try replace h2 := h2.ext hE); (try replace h3 := h3.ext hE); (try replace h4 := h4.ext hE); (try replace HT := Lib.hid (HT.out.ext hE)); (try replace HE := Lib.hid (HE.out.trans hE))
  clear hE
  go_wp2_with (fail); refine (cp1 _ HT.out).mono ?_; rintro e w' ⟨rfl, hE⟩; (try replace hm := hm.ext hE); (try replace h1 := h1.ext hE); (try replace h2 := h2.ext hE); (try replace h3 := h3.ext hE); (try replace h4 := h4.ext hE); (try replace HT := Lib.hid (HT.out.ext hE)); (try replace HE := Lib.hid (HE.out.trans hE))
  clear hE cp1
  have h1 := Blk.new w' 29 (stC KA)
  have hE := (Ext.refl w').alloc (.cells (stC KA) 29)
  replace HT := Lib.hid (HT.out.ext hE)
  replace HE := Lib.hid (HE.out.trans hE)
  clear hE
  go_wp2_with (refine wpList_store_new rfl 29 _ _ rfl (stC _) _ _ rfl rfl (st_info _) (by simp [stC_size]) (stC_one _) ?_)
  generalize w'.heap.size = g1 at *
  generalize w'.alloc (.cells (stC KA) 29) = W1 at *
  clear HT
  go_wp2_with fail
  replace h1 := Blk.drew h1
  replace HE := Lib.hid HE.out.drew
  refine wp_region_fork2 [(0, false)] 1 [] 2 [(3, false), (4, false), (5, false), (6, true), (7, true), (8, false)] 6 [(2, true), (3, false), (4, false), (5, false), (7, true), (8, false)] 6 [(1, true), (2, true), (3, false), (4, false), (5, false), (7, true), (8, false)] (Below W1.drew.heap.size) (by kernel_rfl) (by kernel_rfl) (Below.refl _) (fun _ _ _ => Below.trans) ?_
  simp only [List.map, nth_z, nth_s]
  have hs0 : W1.drew.heap.size ≤ W1.drew.heap.size := Nat.le_refl _
  have l_h1 := h1.lt
  generalize hBB : W1.drew.heap.size = B at l_h1 hs0 ⊢
  rw [← hBB] at hs0
  generalize W1.drew = wd at *
  rw [hBB] at hs0
  replace hs0 : B ≤ wd.heap.size := by omega
  clear hBB
  apply cut_fork (fun g W => Blk W g1 29 (stC KA) ∧ Blk W g 29 (stC KB) ∧ g1 < g ∧ Ext w W)
  case h =>
    intro key
    refine seq_load rfl rfl (fun x hx => Blk.lower (h1) hx (by omega)) rfl Tryd.underlying29 (by kernel_rfl) (by rfl) ?_; intro K hK; simp only [Act.put, List.setIfInBounds_toArray, List.set_cons_zero, List.set_cons_succ]; refine hK _ ?_; clear hK K
    refine seq_done ?_
    refine ⟨?_, ?_⟩
    · skip
      refine seq_call (co6 _) rfl Tryd.func26 (by kernel_rfl) (by kernel_rfl) (by rfl) (by rfl) ?_; intro K hK; rintro e w' ⟨rfl, hE⟩; refine ⟨_, rfl, (Below.mono hE hs0), ?_⟩; simp only [Act.put, List.setIfInBounds_toArray, List.set_cons_zero, List.set_cons_succ]; refine hK _ _ ?_; clear hK K
      replace h1 := h1.ext hE
      replace HE := Lib.hid (HE.out.trans hE)
      replace hs0 := Nat.le_trans hs0 hE.size
      try replace hn := hn.ext hE
      clear hE
      refine seq_done ?_
      refine seq_done ?_
      refine ⟨?_, ?_⟩
      · skip
        refine seq_call (cp2 _ (hT0.ext HE.out)) rfl Tryd.func20 (by kernel_rfl) (by kernel_rfl) (by rfl) (by rfl) ?_; intro K hK; rintro e w' ⟨rfl, hE⟩; refine ⟨_, rfl, (Below.mono hE hs0), ?_⟩; simp only [Act.put, List.setIfInBounds_toArray, List.set_cons_zero, List.set_cons_succ]; refine hK _ _ ?_; clear hK K
        replace h1 := h1.ext hE
        replace HE := Lib.hid (HE.out.trans hE)
        replace hs0 := Nat.le_trans hs0 hE.size
        try replace hn := hn.ext hE
        clear hE
        refine seq_done ?_
        (repeat (first | (refine seq_skip (by rfl) ?_; intro K hK; simp only [Act.put, List.setIfInBounds_toArray, List.set_cons_zero, List.set_cons_succ]; refine hK _ ?_; clear hK K) | (refine seq_skipc (by rfl) ?_; intro K hK; simp only [Act.put, List.setIfInBounds_toArray, List.set_cons_zero, List.set_cons_succ]; refine hK _ ?_; clear hK K) | (refine seq_read (by rfl) (by rfl) ?_; intro K hK; go_big_quiet_op; first | go_big_quiet_on | (refine ⟨_, fun _ _ => rfl, ?_⟩; go_big_quiet_on))))
        have hn := Blk.new w' 29 #[.bool false, .int .u64 0, .bool false, .int .i64 0, .int .u64 0, .int .u64 0, .bool false, .bool false, .bool false, .bool false, .bool false, .bool false, .int .u64 0, .bool false, .int .i64 0, .int .u64 0, .int .u64 0, .bool false, .bool false, .bool false, .bool false, .bool false, .bool false, .int .u64 0, .bool false, .int .i64 0, .int .u64 0, .int .u64 0, .bool false, .bool false, .bool false, .bool false, .bool false, .bool false, .int .u64 0, .bool false, .int .i64 0, .int .u64 0, .int .u64 0, .bool false, .bool false, .bool false, .bool false, .bool false, .int .u8 0]
        have hgB : B ≤ w'.heap.size := hs0
        refine seq_run (.pointer (some ⟨w'.heap.size, 0, none⟩)) (w'.alloc (.cells #[.bool false, .int .u64 0, .bool false, .int .i64 0, .int .u64 0, .int .u64 0, .bool false, .bool false, .bool false, .bool false, .bool false, .bool false, .int .u64 0, .bool false, .int .i64 0, .int .u64 0, .int .u64 0, .bool false, .bool false, .bool false, .bool false, .bool false, .bool false, .int .u64 0, .bool false, .int .i64 0, .int .u64 0, .int .u64 0, .bool false, .bool false, .bool false, .bool false, .bool false, .bool false, .int .u64 0, .bool false, .int .i64 0, .int .u64 0, .int .u64 0, .bool false, .bool false, .bool false, .bool false, .bool false, .int .u8 0] 29)) (by rfl) ?_ ((Below.refl _ _).alloc hs0 _) ?_; (simp [go_sem, execOp, Act.eval]); intro K hK; simp only [Act.put, List.setIfInBounds_toArray, List.set_cons_zero, List.set_cons_succ]; refine hK _ _ ?_; clear hK K
        have hE := (Ext.refl w').alloc (.cells #[.bool false, .int .u64 0, .bool false, .int .i64 0, .int .u64 0, .int .u64 0, .bool false, .bool false, .bool false, .bool false, .bool false, .bool false, .int .u64 0, .bool false, .int .i64 0, .int .u64 0, .int .u64 0, .bool false, .bool false, .bool false, .bool false, .bool false, .bool false, .int .u64 0, .bool false, .int .i64 0, .int .u64 0, .int .u64 0, .bool false, .bool false, .bool false, .bool false, .bool false, .bool false, .int .u64 0, .bool false, .int .i64 0, .int .u64 0, .int .u64 0, .bool false, .bool false, .bool false, .bool false, .bool false, .int .u8 0] 29)
        have hgw : w.heap.size ≤ w'.heap.size := HE.out.size
        replace h1 := h1.ext hE
        replace HE := Lib.hid (HE.out.trans hE)
        replace hs0 := Nat.le_trans hs0 hE.size
        clear hE
        generalize w'.alloc (.cells #[.bool false, .int .u64 0, .bool false, .int .i64 0, .int .u64 0, .int .u64 0, .bool false, .bool false, .bool false, .bool false, .bool false, .bool false, .int .u64 0, .bool false, .int .i64 0, .int .u64 0, .int .u64 0, .bool false, .bool false, .bool false, .bool false, .bool false, .bool false, .int .u64 0, .bool false, .int .i64 0, .int .u64 0, .int .u64 0, .bool false, .bool false, .bool false, .bool false, .bool false, .bool false, .int .u64 0, .bool false, .int .i64 0, .int .u64 0, .int .u64 0, .bool false, .bool false, .bool false, .bool false, .bool false, .int .u8 0] 29) = WA at *
        generalize w'.heap.size = gq at *
        (repeat (first | (refine seq_skip (by rfl) ?_; intro K hK; simp only [Act.put, List.setIfInBounds_toArray, List.set_cons_zero, List.set_cons_succ]; refine hK _ ?_; clear hK K) | (refine seq_skipc (by rfl) ?_; intro K hK; simp only [Act.put, List.setIfInBounds_toArray, List.set_cons_zero, List.set_cons_succ]; refine hK _ ?_; clear hK K) | (refine seq_read (by rfl) (by rfl) ?_; intro K hK; go_big_quiet_op; first | go_big_quiet_on | (refine ⟨_, fun _ _ => rfl, ?_⟩; go_big_quiet_on))))
        refine seq_store_row rfl rfl rfl (hn) (st_info _) (by simp [stC_size]) (stC_one _) (by rfl) ((below_row (Below.refl _ _) hgB _)) ?_; intro K hK; simp only [Act.put, List.setIfInBounds_toArray, List.set_cons_zero, List.set_cons_succ]; refine hK _ _ ?_; clear hK K
        (repeat (first | (refine seq_skip (by rfl) ?_; intro K hK; simp only [Act.put, List.setIfInBounds_toArray, List.set_cons_zero, List.set_cons_succ]; refine hK _ ?_; clear hK K) | (refine seq_skipc (by rfl) ?_; intro K hK; simp only [Act.put, List.setIfInBounds_toArray, List.set_cons_zero, List.set_cons_succ]; refine hK _ ?_; clear hK K) | (refine seq_read (by rfl) (by rfl) ?_; intro K hK; go_big_quiet_op; first | go_big_quiet_on | (refine ⟨_, fun _ _ => rfl, ?_⟩; go_big_quiet_on))))
        refine seq_done ?_
        have hm := hn.row (stC KB)
        replace h1 := h1.apart (k := gq) (by omega) (stC KB)
        replace HE := Lib.hid (Ext.row HE.out hgw (stC KB))
        generalize WA.setRow gq (stC KB) = WF at *
        exact key gq WF ⟨h1, hm, (by omega), HE.out⟩
      · skip
        have hn := Blk.new w' 29 #[.bool false, .int .u64 0, .bool false, .int .i64 0, .int .u64 0, .int .u64 0, .bool false, .bool false, .bool false, .bool false, .bool false, .bool false, .int .u64 0, .bool false, .int .i64 0, .int .u64 0, .int .u64 0, .bool false, .bool false, .bool false, .bool false, .bool false, .bool false, .int .u64 0, .bool false, .int .i64 0, .int .u64 0, .int .u64 0, .bool false, .bool false, .bool false, .bool false, .bool false, .bool false, .int .u64 0, .bool false, .int .i64 0, .int .u64 0, .int .u64 0, .bool false, .bool false, .bool false, .bool false, .bool false, .int .u8 0]
        have hgB : B ≤ w'.heap.size := hs0
        refine seq_run (.pointer (some ⟨w'.heap.size, 0, none⟩)) (w'.alloc (.cells #[.bool false, .int .u64 0, .bool false, .int .i64 0, .int .u64 0, .int .u64 0, .bool false, .bool false, .bool false, .bool false, .bool false, .bool false, .int .u64 0, .bool false, .int .i64 0, .int .u64 0, .int .u64 0, .bool false, .bool false, .bool false, .bool false, .bool false, .bool false, .int .u64 0, .bool false, .int .i64 0, .int .u64 0, .int .u64 0, .bool false, .bool false, .bool false, .bool false, .bool false, .bool false, .int .u64 0, .bool false, .int .i64 0, .int .u64 0, .int .u64 0, .bool false, .bool false, .bool false, .bool false, .bool false, .int .u8 0] 29)) (by rfl) ?_ ((Below.refl _ _).alloc hs0 _) ?_; (simp [go_sem, execOp, Act.eval]); intro K hK; simp only [Act.put, List.setIfInBounds_toArray, List.set_cons_zero, List.set_cons_succ]; refine hK _ _ ?_; clear hK K
        have hE := (Ext.refl w').alloc (.cells #[.bool false, .int .u64 0, .bool false, .int .i64 0, .int .u64 0, .int .u64 0, .bool false, .bool false, .bool false, .bool false, .bool false, .bool false, .int .u64 0, .bool false, .int .i64 0, .int .u64 0, .int .u64 0, .bool false, .bool false, .bool false, .bool false, .bool false, .bool false, .int .u64 0, .bool false, .int .i64 0, .int .u64 0, .int .u64 0, .bool false, .bool false, .bool false, .bool false, .bool false, .bool false, .int .u64 0, .bool false, .int .i64 0, .int .u64 0, .int .u64 0, .bool false, .bool false, .bool false, .bool false, .bool false, .int .u8 0] 29)
        have hgw : w.heap.size ≤ w'.heap.size := HE.out.size
        replace h1 := h1.ext hE
        replace HE := Lib.hid (HE.out.trans hE)
        replace hs0 := Nat.le_trans hs0 hE.size
        clear hE
        generalize w'.alloc (.cells #[.bool false, .int .u64 0, .bool false, .int .i64 0, .int .u64 0, .int .u64 0, .bool false, .bool false, .bool false, .bool false, .bool false, .bool false, .int .u64 0, .bool false, .int .i64 0, .int .u64 0, .int .u64 0, .bool false, .bool false, .bool false, .bool false, .bool false, .bool false, .int .u64 0, .bool false, .int .i64 0, .int .u64 0, .int .u64 0, .bool false, .bool false, .bool false, .bool false, .bool false, .bool false, .int .u64 0, .bool false, .int .i64 0, .int .u64 0, .int .u64 0, .bool false, .bool false, .bool false, .bool false, .bool false, .int .u8 0] 29) = WA at *
        generalize w'.heap.size = gq at *
        refine seq_done ?_
        refine seq_call (cp2 _ (hT0.ext HE.out)) rfl Tryd.func20 (by kernel_rfl) (by kernel_rfl) (by rfl) (by rfl) ?_; intro K hK; rintro e w' ⟨rfl, hE⟩; refine ⟨_, rfl, (Below.mono hE hs0), ?_⟩; simp only [Act.put, List.setIfInBounds_toArray, List.set_cons_zero, List.set_cons_succ]; refine hK _ _ ?_; clear hK K
        replace h1 := h1.ext hE
        replace HE := Lib.hid (HE.out.trans hE)
        replace hs0 := Nat.le_trans hs0 hE.size
        try replace hn := hn.ext hE
        clear hE
        (repeat (first | (refine seq_skip (by rfl) ?_; intro K hK; simp only [Act.put, List.setIfInBounds_toArray, List.set_cons_zero, List.set_cons_succ]; refine hK _ ?_; clear hK K) | (refine seq_skipc (by rfl) ?_; intro K hK; simp only [Act.put, List.setIfInBounds_toArray, List.set_cons_zero, List.set_cons_succ]; refine hK _ ?_; clear hK K) | (refine seq_read (by rfl) (by rfl) ?_; intro K hK; go_big_quiet_op; first | go_big_quiet_on | (refine ⟨_, fun _ _ => rfl, ?_⟩; go_big_quiet_on))))
        refine seq_store_row rfl rfl rfl (hn) (st_info _) (by simp [stC_size]) (stC_one _) (by rfl) ((below_row (Below.refl _ _) hgB _)) ?_; intro K hK; simp only [Act.put, List.setIfInBounds_toArray, List.set_cons_zero, List.set_cons_succ]; refine hK _ _ ?_; clear hK K
        (repeat (first | (refine seq_skip (by rfl) ?_; intro K hK; simp only [Act.put, List.setIfInBounds_toArray, List.set_cons_zero, List.set_cons_succ]; refine hK _ ?_; clear hK K) | (refine seq_skipc (by rfl) ?_; intro K hK; simp only [Act.put, List.setIfInBounds_toArray, List.set_cons_zero, List.set_cons_succ]; refine hK _ ?_; clear hK K) | (refine seq_read (by rfl) (by rfl) ?_; intro K hK; go_big_quiet_op; first | go_big_quiet_on | (refine ⟨_, fun _ _ => rfl, ?_⟩; go_big_quiet_on))))
        refine seq_done ?_
        have hm := hn.row (stC KB)
        replace h1 := h1.apart (k := gq) (by omega) (stC KB)
        replace HE := Lib.hid (Ext.row HE.out hgw (stC KB))
        generalize w'.setRow gq (stC KB) = WF at *
        exact key gq WF ⟨h1, hm, (by omega), HE.out⟩
    · skip
      have hn := Blk.new wd 29 #[.bool false, .int .u64 0, .bool false, .int .i64 0, .int .u64 0, .int .u64 0, .bool false, .bool false, .bool false, .bool false, .bool false, .bool false, .int .u64 0, .bool false, .int .i64 0, .int .u64 0, .int .u64 0, .bool false, .bool false, .bool false, .bool false, .bool false, .bool false, .int .u64 0, .bool false, .int .i64 0, .int .u64 0, .int .u64 0, .bool false, .bool false, .bool false, .bool false, .bool false, .bool false, .int .u64 0, .bool false, .int .i64 0, .int .u64 0, .int .u64 0, .bool false, .bool false, .bool false, .bool false, .bool false, .int .u8 0]
      have hgB : B ≤ wd.heap.size := hs0
      refine seq_run (.pointer (some ⟨wd.heap.size, 0, none⟩)) (wd.alloc (.cells #[.bool false, .int .u64 0, .bool false, .int .i64 0, .int .u64 0, .int .u64 0, .bool false, .bool false, .bool false, .bool false, .bool false, .bool false, .int .u64 0, .bool false, .int .i64 0, .int .u64 0, .int .u64 0, .bool false, .bool false, .bool false, .bool false, .bool false, .bool false, .int .u64 0, .bool false, .int .i64 0, .int .u64 0, .int .u64 0, .bool false, .bool false, .bool false, .bool false, .bool false, .bool false, .int .u64 0, .bool false, .int .i64 0, .int .u64 0, .int .u64 0, .bool false, .bool false, .bool false, .bool false, .bool false, .int .u8 0] 29)) (by rfl) ?_ ((Below.refl _ _).alloc hs0 _) ?_; (simp [go_sem, execOp, Act.eval]); intro K hK; simp only [Act.put, List.setIfInBounds_toArray, List.set_cons_zero, List.set_cons_succ]; refine hK _ _ ?_; clear hK K
      have hE := (Ext.refl wd).alloc (.cells #[.bool false, .int .u64 0, .bool false, .int .i64 0, .int .u64 0, .int .u64 0, .bool false, .bool false, .bool false, .bool false, .bool false, .bool false, .int .u64 0, .bool false, .int .i64 0, .int .u64 0, .int .u64 0, .bool false, .bool false, .bool false, .bool false, .bool false, .bool false, .int .u64 0, .bool false, .int .i64 0, .int .u64 0, .int .u64 0, .bool false, .bool false, .bool false, .bool false, .bool false, .bool false, .int .u64 0, .bool false, .int .i64 0, .int .u64 0, .int .u64 0, .bool false, .bool false, .bool false, .bool false, .bool false, .int .u8 0] 29)
      have hgw : w.heap.size ≤ wd.heap.size := HE.out.size
      replace h1 := h1.ext hE
      replace HE := Lib.hid (HE.out.trans hE)
      replace hs0 := Nat.le_trans hs0 hE.size
      clear hE
      generalize wd.alloc (.cells #[.bool false, .int .u64 0, .bool false, .int .i64 0, .int .u64 0, .int .u64 0, .bool false, .bool false, .bool false, .bool false, .bool false, .bool false, .int .u64 0, .bool false, .int .i64 0, .int .u64 0, .int .u64 0, .bool false, .bool false, .bool false, .bool false, .bool false, .bool false, .int .u64 0, .bool false, .int .i64 0, .int .u64 0, .int .u64 0, .bool false, .bool false, .bool false, .bool false, .bool false, .bool false, .int .u64 0, .bool false, .int .i64 0, .int .u64 0, .int .u64 0, .bool false, .bool false, .bool false, .bool false, .bool false, .int .u8 0] 29) = WA at *
      generalize wd.heap.size = gq at *
      refine seq_done ?_
      refine seq_call (co6 _) rfl Tryd.func26 (by kernel_rfl) (by kernel_rfl) (by rfl) (by rfl) ?_; intro K hK; rintro e w' ⟨rfl, hE⟩; refine ⟨_, rfl, (Below.mono hE hs0), ?_⟩; simp only [Act.put, List.setIfInBounds_toArray, List.set_cons_zero, List.set_cons_succ]; refine hK _ _ ?_; clear hK K
      replace h1 := h1.ext hE
      replace HE := Lib.hid (HE.out.trans hE)
      replace hs0 := Nat.le_trans hs0 hE.size
      try replace hn := hn.ext hE
      clear hE
      refine seq_call (cp2 _ (hT0.ext HE.out)) rfl Tryd.func20 (by kernel_rfl) (by kernel_rfl) (by rfl) (by rfl) ?_; intro K hK; rintro e w' ⟨rfl, hE⟩; refine ⟨_, rfl, (Below.mono hE hs0), ?_⟩; simp only [Act.put, List.setIfInBounds_toArray, List.set_cons_zero, List.set_cons_succ]; refine hK _ _ ?_; clear hK K
      replace h1 := h1.ext hE
      replace HE := Lib.hid (HE.out.trans hE)
      replace hs0 := Nat.le_trans hs0 hE.size
      try replace hn := hn.ext hE
      clear hE
      (repeat (first | (refine seq_skip (by rfl) ?_; intro K hK; simp only [Act.put, List.setIfInBounds_toArray, List.set_cons_zero, List.set_cons_succ]; refine hK _ ?_; clear hK K) | (refine seq_skipc (by rfl) ?_; intro K hK; simp only [Act.put, List.setIfInBounds_toArray, List.set_cons_zero, List.set_cons_succ]; refine hK _ ?_; clear hK K) | (refine seq_read (by rfl) (by rfl) ?_; intro K hK; go_big_quiet_op; first | go_big_quiet_on | (refine ⟨_, fun _ _ => rfl, ?_⟩; go_big_quiet_on))))
      refine seq_store_row rfl rfl rfl (hn) (st_info _) (by simp [stC_size]) (stC_one _) (by rfl) ((below_row (Below.refl _ _) hgB _)) ?_; intro K hK; simp only [Act.put, List.setIfInBounds_toArray, List.set_cons_zero, List.set_cons_succ]; refine hK _ _ ?_; clear hK K
      (repeat (first | (refine seq_skip (by rfl) ?_; intro K hK; simp only [Act.put, List.setIfInBounds_toArray, List.set_cons_zero, List.set_cons_succ]; refine hK _ ?_; clear hK K) | (refine seq_skipc (by rfl) ?_; intro K hK; simp only [Act.put, List.setIfInBounds_toArray, List.set_cons_zero, List.set_cons_succ]; refine hK _ ?_; clear hK K) | (refine seq_read (by rfl) (by rfl) ?_; intro K hK; go_big_quiet_op; first | go_big_quiet_on | (refine ⟨_, fun _ _ => rfl, ?_⟩; go_big_quiet_on))))
      refine seq_done ?_
      have hm := hn.row (stC KB)
      replace h1 := h1.apart (k := gq) (by omega) (stC KB)
      replace HE := Lib.hid (Ext.row HE.out hgw (stC KB))
      generalize w'.setRow gq (stC KB) = WF at *
      exact key gq WF ⟨h1, hm, (by omega), HE.out⟩
  intro g2 WN hk
  clear h1 l_h1
  clear HE
  obtain ⟨h1, h2, d_h1_h2, hE⟩ := hk
  have HE := Lib.hid hE
  clear hE
  clear cp2 co6
  generalize WN = W2 at *
  go_wp2_with fail
  replace h1 := Blk.drew h1
  replace h2 := Blk.drew h2
  replace HE := Lib.hid HE.out.drew
  refine wp_region_fork2 [(0, false)] 1 [] 2 [(3, false), (4, false), (5, false), (6, true), (7, true), (8, false)] 6 [(2, true), (3, false), (4, false), (5, false), (7, true), (8, false)] 6 [(1, true), (2, true), (3, false), (4, false), (5, false), (7, true), (8, false)] (Below W2.drew.heap.size) (by kernel_rfl) (by kernel_rfl) (Below.refl _) (fun _ _ _ => Below.trans) ?_
  simp only [List.map, nth_z, nth_s]
  have hs0 : W2.drew.heap.size ≤ W2.drew.heap.size := Nat.le_refl _
  have l_h1 := h1.lt
  have l_h2 := h2.lt
  generalize hBB : W2.drew.heap.size = B at l_h1 l_h2 hs0 ⊢
  rw [← hBB] at hs0
  generalize W2.drew = wd at *
  rw [hBB] at hs0
  replace hs0 : B ≤ wd.heap.size := by omega
  clear hBB
  apply cut_fork (fun g W => Blk W g1 29 (stC KA) ∧ Blk W g2 29 (stC KB) ∧ Blk W g 29 (stC KC) ∧ g1 < g ∧ g2 < g ∧ Ext w W)
  case h =>
    intro key
    refine seq_load rfl rfl (fun x hx => Blk.lower (h2) hx (by omega)) rfl Tryd.underlying29 (by kernel_rfl) (by rfl) ?_; intro K hK; simp only [Act.put, List.setIfInBounds_toArray, List.set_cons_zero, List.set_cons_succ]; refine hK _ ?_; clear hK K
    refine seq_done ?_
    refine ⟨?_, ?_⟩
    · skip
      refine seq_call (co7 _) rfl Tryd.func26 (by kernel_rfl) (by kernel_rfl) (by rfl) (by rfl) ?_; intro K hK; rintro e w' ⟨rfl, hE⟩; refine ⟨_, rfl, (Below.mono hE hs0), ?_⟩; simp only [Act.put, List.setIfInBounds_toArray, List.set_cons_zero, List.set_cons_succ]; refine hK _ _ ?_; clear hK K
      replace h1 := h1.ext hE
      replace h2 := h2.ext hE
      replace HE := Lib.hid (HE.out.trans hE)
      replace hs0 := Nat.le_trans hs0 hE.size
      try replace hn := hn.ext hE
      clear hE
      refine seq_done ?_
      refine seq_done ?_
      refine ⟨?_, ?_⟩
      · skip
        refine seq_call (cp3 _ (hT0.ext HE.out)) rfl Tryd.func20 (by kernel_rfl) (by kernel_rfl) (by rfl) (by rfl) ?_; intro K hK; rintro e w' ⟨rfl, hE⟩; refine ⟨_, rfl, (Below.mono hE hs0), ?_⟩; simp only [Act.put, List.setIfInBounds_toArray, List.set_cons_zero, List.set_cons_succ]; refine hK _ _ ?_; clear hK K
        replace h1 := h1.ext hE
        replace h2 := h2.ext hE
        replace HE := Lib.hid (HE.out.trans hE)
        replace hs0 := Nat.le_trans hs0 hE.size
        try replace hn := hn.ext hE
        clear hE
        refine seq_done ?_
        (repeat (first | (refine seq_skip (by rfl) ?_; intro K hK; simp only [Act.put, List.setIfInBounds_toArray, List.set_cons_zero, List.set_cons_succ]; refine hK _ ?_; clear hK K) | (refine seq_skipc (by rfl) ?_; intro K hK; simp only [Act.put, List.setIfInBounds_toArray, List.set_cons_zero, List.set_cons_succ]; refine hK _ ?_; clear hK K) | (refine seq_read (by rfl) (by rfl) ?_; intro K hK; go_big_quiet_op; first | go_big_quiet_on | (refine ⟨_, fun _ _ => rfl, ?_⟩; go_big_quiet_on))))
        have hn := Blk.new w' 29 #[.bool false, .int .u64 0, .bool false, .int .i64 0, .int .u64 0, .int .u64 0, .bool false, .bool false, .bool false, .bool false, .bool false, .bool false, .int .u64 0, .bool false, .int .i64 0, .int .u64 0, .int .u64 0, .bool false, .bool false, .bool false, .bool false, .bool false, .bool false, .int .u64 0, .bool false, .int .i64 0, .int .u64 0, .int .u64 0, .bool false, .bool false, .bool false, .bool false, .bool false, .bool false, .int .u64 0, .bool false, .int .i64 0, .int .u64 0, .int .u64 0, .bool false, .bool false, .bool false, .bool false, .bool false, .int .u8 0]
        have hgB : B ≤ w'.heap.size := hs0
        refine seq_run (.pointer (some ⟨w'.heap.size, 0, none⟩)) (w'.alloc (.cells #[.bool false, .int .u64 0, .bool false, .int .i64 0, .int .u64 0, .int .u64 0, .bool false, .bool false, .bool false, .bool false, .bool false, .bool false, .int .u64 0, .bool false, .int .i64 0, .int .u64 0, .int .u64 0, .bool false, .bool false, .bool false, .bool false, .bool false, .bool false, .int .u64 0, .bool false, .int .i64 0, .int .u64 0, .int .u64 0, .bool false, .bool false, .bool false, .bool false, .bool false, .bool false, .int .u64 0, .bool false, .int .i64 0, .int .u64 0, .int .u64 0, .bool false, .bool false, .bool false, .bool false, .bool false, .int .u8 0] 29)) (by rfl) ?_ ((Below.refl _ _).alloc hs0 _) ?_; (simp [go_sem, execOp, Act.eval]); intro K hK; simp only [Act.put, List.setIfInBounds_toArray, List.set_cons_zero, List.set_cons_succ]; refine hK _ _ ?_; clear hK K
        have hE := (Ext.refl w').alloc (.cells #[.bool false, .int .u64 0, .bool false, .int .i64 0, .int .u64 0, .int .u64 0, .bool false, .bool false, .bool false, .bool false, .bool false, .bool false, .int .u64 0, .bool false, .int .i64 0, .int .u64 0, .int .u64 0, .bool false, .bool false, .bool false, .bool false, .bool false, .bool false, .int .u64 0, .bool false, .int .i64 0, .int .u64 0, .int .u64 0, .bool false, .bool false, .bool false, .bool false, .bool false, .bool false, .int .u64 0, .bool false, .int .i64 0, .int .u64 0, .int .u64 0, .bool false, .bool false, .bool false, .bool false, .bool false, .int .u8 0] 29)
        have hgw : w.heap.size ≤ w'.heap.size := HE.out.size
        replace h1 := h1.ext hE
        replace h2 := h2.ext hE
        replace HE := Lib.hid (HE.out.trans hE)
        replace hs0 := Nat.le_trans hs0 hE.size
        clear hE
        generalize w'.alloc (.cells #[.bool false, .int .u64 0, .bool false, .int .i64 0, .int .u64 0, .int .u64 0, .bool false, .bool false, .bool false, .bool false, .bool false, .bool false, .int .u64 0, .bool false, .int .i64 0, .int .u64 0, .int .u64 0, .bool false, .bool false, .bool false, .bool false, .bool false, .bool false, .int .u64 0, .bool false, .int .i64 0, .int .u64 0, .int .u64 0, .bool false, .bool false, .bool false, .bool false, .bool false, .bool false, .int .u64 0, .bool false, .int .i64 0, .int .u64 0, .int .u64 0, .bool false, .bool false, .bool false, .bool false, .bool false, .int .u8 0] 29) = WA at *
        generalize w'.heap.size = gq at *
        (repeat (first | (refine seq_skip (by rfl) ?_; intro K hK; simp only [Act.put, List.setIfInBounds_toArray, List.set_cons_zero, List.set_cons_succ]; refine hK _ ?_; clear hK K) | (refine seq_skipc (by rfl) ?_; intro K hK; simp only [Act.put, List.setIfInBounds_toArray, List.set_cons_zero, List.set_cons_succ]; refine hK _ ?_; clear hK K) | (refine seq_read (by rfl) (by rfl) ?_; intro K hK; go_big_quiet_op; first | go_big_quiet_on | (refine ⟨_, fun _ _ => rfl, ?_⟩; go_big_quiet_on))))
        refine seq_store_row rfl rfl rfl (hn) (st_info _) (by simp [stC_size]) (stC_one _) (by rfl) ((below_row (Below.refl _ _) hgB _)) ?_; intro K hK; simp only [Act.put, List.setIfInBounds_toArray, List.set_cons_zero, List.set_cons_succ]; refine hK _ _ ?_; clear hK K
        (repeat (first | (refine seq_skip (by rfl) ?_; intro K hK; simp only [Act.put, List.setIfInBounds_toArray, List.set_cons_zero, List.set_cons_succ]; refine hK _ ?_; clear hK K) | (refine seq_skipc (by rfl) ?_; intro K hK; simp only [Act.put, List.setIfInBounds_toArray, List.set_cons_zero, List.set_cons_succ]; refine hK _ ?_; clear hK K) | (refine seq_read (by rfl) (by rfl) ?_; intro K hK; go_big_quiet_op; first | go_big_quiet_on | (refine ⟨_, fun _ _ => rfl, ?_⟩; go_big_quiet_on))))
        refine seq_done ?_
        have hm := hn.row (stC KC)
        replace h1 := h1.apart (k := gq) (by omega) (stC KC)
        replace h2 := h2.apart (k := gq) (by omega) (stC KC)
        replace HE := Lib.hid (Ext.row HE.out hgw (stC KC))
        generalize WA.setRow gq (stC KC) = WF at *
        exact key gq WF ⟨h1, h2, hm, (by omega), (by omega), HE.out⟩
      · skip
        have hn := Blk.new w' 29 #[.bool false, .int .u64 0, .bool false, .int .i64 0, .int .u64 0, .int .u64 0, .bool false, .bool false, .bool false, .bool false, .bool false, .bool false, .int .u64 0, .bool false, .int .i64 0, .int .u64 0, .int .u64 0, .bool false, .bool false, .bool false, .bool false, .bool false, .bool false, .int .u64 0, .bool false, .int .i64 0, .int .u64 0, .int .u64 0, .bool false, .bool false, .bool false, .bool false, .bool false, .bool false, .int .u64 0, .bool false, .int .i64 0, .int .u64 0, .int .u64 0, .bool false, .bool false, .bool false, .bool false, .bool false, .int .u8 0]
        have hgB : B ≤ w'.heap.size := hs0
        refine seq_run (.pointer (some ⟨w'.heap.size, 0, none⟩)) (w'.alloc (.cells #[.bool false, .int .u64 0, .bool false, .int .i64 0, .int .u64 0, .int .u64 0, .bool false, .bool false, .bool false, .bool false, .bool false, .bool false, .int .u64 0, .bool false, .int .i64 0, .int .u64 0, .int .u64 0, .bool false, .bool false, .bool false, .bool false, .bool false, .bool false, .int .u64 0, .bool false, .int .i64 0, .int .u64 0, .int .u64 0, .bool false, .bool false, .bool false, .bool false, .bool false, .bool false, .int .u64 0, .bool false, .int .i64 0, .int .u64 0, .int .u64 0, .bool false, .bool false, .bool false, .bool false, .bool false, .int .u8 0] 29)) (by rfl) ?_ ((Below.refl _ _).alloc hs0 _) ?_; (simp [go_sem, execOp, Act.eval]); intro K hK; simp only [Act.put, List.setIfInBounds_toArray, List.set_cons_zero, List.set_cons_succ]; refine hK _ _ ?_; clear hK K
        have hE := (Ext.refl w').alloc (.cells #[.bool false, .int .u64 0, .bool false, .int .i64 0, .int .u64 0, .int .u64 0, .bool false, .bool false, .bool false, .bool false, .bool false, .bool false, .int .u64 0, .bool false, .int .i64 0, .int .u64 0, .int .u64 0, .bool false, .bool false, .bool false, .bool false, .bool false, .bool false, .int .u64 0, .bool false, .int .i64 0, .int .u64 0, .int .u64 0, .bool false, .bool false, .bool false, .bool false, .bool false, .bool false, .int .u64 0, .bool false, .int .i64 0, .int .u64 0, .int .u64 0, .bool false, .bool false, .bool false, .bool false, .bool false, .int .u8 0] 29)
        have hgw : w.heap.size ≤ w'.heap.size := HE.out.size
        replace h1 := h1.ext hE
        replace h2 := h2.ext hE
        replace HE := Lib.hid (HE.out.trans hE)
        replace hs0 := Nat.le_trans hs0 hE.size
        clear hE
        generalize w'.alloc (.cells #[.bool false, .int .u64 0, .bool false, .int .i64 0, .int .u64 0, .int .u64 0, .bool false, .bool false, .bool false, .bool false, .bool false, .bool false, .int .u64 0, .bool false, .int .i64 0, .int .u64 0, .int .u64 0, .bool false, .bool false, .bool false, .bool false, .bool false, .bool false, .int .u64 0, .bool false, .int .i64 0, .int .u64 0, .int .u64 0, .bool false, .bool false, .bool false, .bool false, .bool false, .bool false, .int .u64 0, .bool false, .int .i64 0, .int .u64 0, .int .u64 0, .bool false, .bool false, .bool false, .bool false, .bool false, .int .u8 0] 29) = WA at *
        generalize w'.heap.size = gq at *
        refine seq_done ?_
        refine seq_call (cp3 _ (hT0.ext HE.out)) rfl Tryd.func20 (by kernel_rfl) (by kernel_rfl) (by rfl) (by rfl) ?_; intro K hK; rintro e w' ⟨rfl, hE⟩; refine ⟨_, rfl, (Below.mono hE hs0), ?_⟩; simp only [Act.put, List.setIfInBounds_toArray, List.set_cons_zero, List.set_cons_succ]; refine hK _ _ ?_; clear hK K
        replace h1 := h1.ext hE
        replace h2 := h2.ext hE
        replace HE := Lib.hid (HE.out.trans hE)
        replace hs0 := Nat.le_trans hs0 hE.size
        try replace hn := hn.ext hE
        clear hE
        (repeat (first | (refine seq_skip (by rfl) ?_; intro K hK; simp only [Act.put, List.setIfInBounds_toArray, List.set_cons_zero, List.set_cons_succ]; refine hK _ ?_; clear hK K) | (refine seq_skipc (by rfl) ?_; intro K hK; simp only [Act.put, List.setIfInBounds_toArray, List.set_cons_zero, List.set_cons_succ]; refine hK _ ?_; clear hK K) | (refine seq_read (by rfl) (by rfl) ?_; intro K hK; go_big_quiet_op; first | go_big_quiet_on | (refine ⟨_, fun _ _ => rfl, ?_⟩; go_big_quiet_on))))
        refine seq_store_row rfl rfl rfl (hn) (st_info _) (by simp [stC_size]) (stC_one _) (by rfl) ((below_row (Below.refl _ _) hgB _)) ?_; intro K hK; simp only [Act.put, List.setIfInBounds_toArray, List.set_cons_zero, List.set_cons_succ]; refine hK _ _ ?_; clear hK K
        (repeat (first | (refine seq_skip (by rfl) ?_; intro K hK; simp only [Act.put, List.setIfInBounds_toArray, List.set_cons_zero, List.set_cons_succ]; refine hK _ ?_; clear hK K) | (refine seq_skipc (by rfl) ?_; intro K hK; simp only [Act.put, List.setIfInBounds_toArray, List.set_cons_zero, List.set_cons_succ]; refine hK _ ?_; clear hK K) | (refine seq_read (by rfl) (by rfl) ?_; intro K hK; go_big_quiet_op; first | go_big_quiet_on | (refine ⟨_, fun _ _ => rfl, ?_⟩; go_big_quiet_on))))
        refine seq_done ?_
        have hm := hn.row (stC KC)
        replace h1 := h1.apart (k := gq) (by omega) (stC KC)
        replace h2 := h2.apart (k := gq) (by omega) (stC KC)
        replace HE := Lib.hid (Ext.row HE.out hgw (stC KC))
        generalize w'.setRow gq (stC KC) = WF at *
        exact key gq WF ⟨h1, h2, hm, (by omega), (by omega), HE.out⟩
    · skip
      have hn := Blk.new wd 29 #[.bool false, .int .u64 0, .bool false, .int .i64 0, .int .u64 0, .int .u64 0, .bool false, .bool false, .bool false, .bool false, .bool false, .bool false, .int .u64 0, .bool false, .int .i64 0, .int .u64 0, .int .u64 0, .bool false, .bool false, .bool false, .bool false, .bool false, .bool false, .int .u64 0, .bool false, .int .i64 0, .int .u64 0, .int .u64 0, .bool false, .bool false, .bool false, .bool false, .bool false, .bool false, .int .u64 0, .bool false, .int .i64 0, .int .u64 0, .int .u64 0, .bool false, .bool false, .bool false, .bool false, .bool false, .int .u8 0]
      have hgB : B ≤ wd.heap.size := hs0
      refine seq_run (.pointer (some ⟨wd.heap.size, 0, none⟩)) (wd.alloc (.cells #[.bool false, .int .u64 0, .bool false, .int .i64 0, .int .u64 0, .int .u64 0, .bool false, .bool false, .bool false, .bool false, .bool false, .bool false, .int .u64 0, .bool false, .int .i64 0, .int .u64 0, .int .u64 0, .bool false, .bool false, .bool false, .bool false, .bool false, .bool false, .int .u64 0, .bool false, .int .i64 0, .int .u64 0, .int .u64 0, .bool false, .bool false, .bool false, .bool false, .bool false, .bool false, .int .u64 0, .bool false, .int .i64 0, .int .u64 0, .int .u64 0, .bool false, .bool false, .bool false, .bool false, .bool false, .int .u8 0] 29)) (by rfl) ?_ ((Below.refl _ _).alloc hs0 _) ?_; (simp [go_sem, execOp, Act.eval]); intro K hK; simp only [Act.put, List.setIfInBounds_toArray, List.set_cons_zero, List.set_cons_succ]; refine hK _ _ ?_; clear hK K
      have hE := (Ext.refl wd).alloc (.cells #[.bool false, .int .u64 0, .bool false, .int .i64 0, .int .u64 0, .int .u64 0, .bool false, .bool false, .bool false, .bool false, .bool false, .bool false, .int .u64 0, .bool false, .int .i64 0, .int .u64 0, .int .u64 0, .bool false, .bool false, .bool false, .bool false, .bool false, .bool false, .int .u64 0, .bool false, .int .i64 0, .int .u64 0, .int .u64 0, .bool false, .bool false, .bool false, .bool false, .bool false, .bool false, .int .u64 0, .bool false, .int .i64 0, .int .u64 0, .int .u64 0, .bool false, .bool false, .bool false, .bool false, .bool false, .int .u8 0] 29)
      have hgw : w.heap.size ≤ wd.heap.size := HE.out.size
      replace h1 := h1.ext hE
      replace h2 := h2.ext hE
      replace HE := Lib.hid (HE.out.trans hE)
      replace hs0 := Nat.le_trans hs0 hE.size
      clear hE
      generalize wd.alloc (.cells #[.bool false, .int .u64 0, .bool false, .int .i64 0, .int .u64 0, .int .u64 0, .bool false, .bool false, .bool false, .bool false, .bool false, .bool false, .int .u64 0, .bool false, .int .i64 0, .int .u64 0, .int .u64 0, .bool false, .bool false, .bool false, .bool false, .bool false, .bool false, .int .u64 0, .bool false, .int .i64 0, .int .u64 0, .int .u64 0, .bool false, .bool false, .bool false, .bool false, .bool false, .bool false, .int .u64 0, .bool false, .int .i64 0, .int .u64 0, .int .u64 0, .bool false, .bool false, .bool false, .bool false, .bool false, .int .u8 0] 29) = WA at *
      generalize wd.heap.size = gq at *
      refine seq_done ?_
      refine seq_call (co7 _) rfl Tryd.func26 (by kernel_rfl) (by kernel_rfl) (by rfl) (by rfl) ?_; intro K hK; rintro e w' ⟨rfl, hE⟩; refine ⟨_, rfl, (Below.mono hE hs0), ?_⟩; simp only [Act.put, List.setIfInBounds_toArray, List.set_cons_zero, List.set_cons_succ]; refine hK _ _ ?_; clear hK K
      replace h1 := h1.ext hE
      replace h2 := h2.ext hE
      replace HE := Lib.hid (HE.out.trans hE)
      replace hs0 := Nat.le_trans hs0 hE.size
      try replace hn := hn.ext hE
      clear hE
      refine seq_call (cp3 _ (hT0.ext HE.out)) rfl Tryd.func20 (by kernel_rfl) (by kernel_rfl) (by rfl) (by rfl) ?_; intro K hK; rintro e w' ⟨rfl, hE⟩; refine ⟨_, rfl, (Below.mono hE hs0), ?_⟩; simp only [Act.put, List.setIfInBounds_toArray, List.set_cons_zero, List.set_cons_succ]; refine hK _ _ ?_; clear hK K
      replace h1 := h1.ext hE
      replace h2 := h2.ext hE
      replace HE := Lib.hid (HE.out.trans hE)
      replace hs0 := Nat.le_trans hs0 hE.size
      try replace hn := hn.ext hE
      clear hE
      (repeat (first | (refine seq_skip (by rfl) ?_; intro K hK; simp only [Act.put, List.setIfInBounds_toArray, List.set_cons_zero, List.set_cons_succ]; refine hK _ ?_; clear hK K) | (refine seq_skipc (by rfl) ?_; intro K hK; simp only [Act.put, List.setIfInBounds_toArray, List.set_cons_zero, List.set_cons_succ]; refine hK _ ?_; clear hK K) | (refine seq_read (by rfl) (by rfl) ?_; intro K hK; go_big_quiet_op; first | go_big_quiet_on | (refine ⟨_, fun _ _ => rfl, ?_⟩; go_big_quiet_on))))
      refine seq_store_row rfl rfl rfl (hn) (st_info _) (by simp [stC_size]) (stC_one _) (by rfl) ((below_row (Below.refl _ _) hgB _)) ?_; intro K hK; simp only [Act.put, List.setIfInBounds_toArray, List.set_cons_zero, List.set_cons_succ]; refine hK _ _ ?_; clear hK K
      (repeat (first | (refine seq_skip (by rfl) ?_; intro K hK; simp only [Act.put, List.setIfInBounds_toArray, List.set_cons_zero, List.set_cons_succ]; refine hK _ ?_; clear hK K) | (refine seq_skipc (by rfl) ?_; intro K hK; simp only [Act.put, List.setIfInBounds_toArray, List.set_cons_zero, List.set_cons_succ]; refine hK _ ?_; clear hK K) | (refine seq_read (by rfl) (by rfl) ?_; intro K hK; go_big_quiet_op; first | go_big_quiet_on | (refine ⟨_, fun _ _ => rfl, ?_⟩; go_big_quiet_on))))
      refine seq_done ?_
      have hm := hn.row (stC KC)
      replace h1 := h1.apart (k := gq) (by omega) (stC KC)
      replace h2 := h2.apart (k := gq) (by omega) (stC KC)
      replace HE := Lib.hid (Ext.row HE.out hgw (stC KC))
      generalize w'.setRow gq (stC KC) = WF at *
      exact key gq WF ⟨h1, h2, hm, (by omega), (by omega), HE.out⟩
  intro g3 WN hk
  clear h1 l_h1
  clear h2 l_h2
  clear HE
  obtain ⟨h1, h2, h3, d_h1_h3, d_h2_h3, hE⟩ := hk
  have HE := Lib.hid hE
  clear hE
  clear cp3 co7
  generalize WN = W3 at *
  go_wp2_with fail
  replace h1 := Blk.drew h1
  replace h2 := Blk.drew h2
  replace h3 := Blk.drew h3
  replace HE := Lib.hid HE.out.drew
  refine wp_region_fork2 [(0, false)] 1 [] 2 [(3, false), (4, false), (5, false), (6, true), (7, true), (8, false)] 6 [(2, true), (3, false), (4, false), (5, false), (7, true), (8, false)] 6 [(1, true), (2, true), (3, false), (4, false), (5, false), (7, true), (8, false)] (Below W3.drew.heap.size) (by kernel_rfl) (by kernel_rfl) (Below.refl _) (fun _ _ _ => Below.trans) ?_
  simp only [List.map, nth_z, nth_s]
  have hs0 : W3.drew.heap.size ≤ W3.drew.heap.size := Nat.le_refl _
  have l_h1 := h1.lt
  have l_h2 := h2.lt
  have l_h3 := h3.lt
  generalize hBB : W3.drew.heap.size = B at l_h1 l_h2 l_h3 hs0 ⊢
  rw [← hBB] at hs0
  generalize W3.drew = wd at *
  rw [hBB] at hs0
  replace hs0 : B ≤ wd.heap.size := by omega
  clear hBB
  apply cut_fork (fun g W => Blk W g1 29 (stC KA) ∧ Blk W g2 29 (stC KB) ∧ Blk W g3 29 (stC KC) ∧ Blk W g 29 (stC KD) ∧ g1 < g ∧ g2 < g ∧ g3 < g ∧ Ext w W)
  case h =>
    intro key
    refine seq_load rfl rfl (fun x hx => Blk.lower (h2) hx (by omega)) rfl Tryd.underlying29 (by kernel_rfl) (by rfl) ?_; intro K hK; simp only [Act.put, List.setIfInBounds_toArray, List.set_cons_zero, List.set_cons_succ]; refine hK _ ?_; clear hK K
    refine seq_done ?_
    refine ⟨?_, ?_⟩
    · skip
      refine seq_call (co5 _) rfl Tryd.func26 (by kernel_rfl) (by kernel_rfl) (by rfl) (by rfl) ?_; intro K hK; rintro e w' ⟨rfl, hE⟩; refine ⟨_, rfl, (Below.mono hE hs0), ?_⟩; simp only [Act.put, List.setIfInBounds_toArray, List.set_cons_zero, List.set_cons_succ]; refine hK _ _ ?_; clear hK K
      replace h1 := h1.ext hE
      replace h2 := h2.ext hE
      replace h3 := h3.ext hE
      replace HE := Lib.hid (HE.out.trans hE)
      replace hs0 := Nat.le_trans hs0 hE.size
      try replace hn := hn.ext hE
      clear hE
      refine seq_done ?_
      refine seq_done ?_
      refine ⟨?_, ?_⟩
      · skip
        refine seq_call (cp4 _ (hT0.ext HE.out)) rfl Tryd.func20 (by kernel_rfl) (by kernel_rfl) (by rfl) (by rfl) ?_; intro K hK; rintro e w' ⟨rfl, hE⟩; refine ⟨_, rfl, (Below.mono hE hs0), ?_⟩; simp only [Act.put, List.setIfInBounds_toArray, List.set_cons_zero, List.set_cons_succ]; refine hK _ _ ?_; clear hK K
        replace h1 := h1.ext hE
        replace h2 := h2.ext hE
        replace h3 := h3.ext hE
        replace HE := Lib.hid (HE.out.trans hE)
        replace hs0 := Nat.le_trans hs0 hE.size
        try replace hn := hn.ext hE
        clear hE
        refine seq_done ?_
        (repeat (first | (refine seq_skip (by rfl) ?_; intro K hK; simp only [Act.put, List.setIfInBounds_toArray, List.set_cons_zero, List.set_cons_succ]; refine hK _ ?_; clear hK K) | (refine seq_skipc (by rfl) ?_; intro K hK; simp only [Act.put, List.setIfInBounds_toArray, List.set_cons_zero, List.set_cons_succ]; refine hK _ ?_; clear hK K) | (refine seq_read (by rfl) (by rfl) ?_; intro K hK; go_big_quiet_op; first | go_big_quiet_on | (refine ⟨_, fun _ _ => rfl, ?_⟩; go_big_quiet_on))))
        have hn := Blk.new w' 29 #[.bool false, .int .u64 0, .bool false, .int .i64 0, .int .u64 0, .int .u64 0, .bool false, .bool false, .bool false, .bool false, .bool false, .bool false, .int .u64 0, .bool false, .int .i64 0, .int .u64 0, .int .u64 0, .bool false, .bool false, .bool false, .bool false, .bool false, .bool false, .int .u64 0, .bool false, .int .i64 0, .int .u64 0, .int .u64 0, .bool false, .bool false, .bool false, .bool false, .bool false, .bool false, .int .u64 0, .bool false, .int .i64 0, .int .u64 0, .int .u64 0, .bool false, .bool false, .bool false, .bool false, .bool false, .int .u8 0]
        have hgB : B ≤ w'.heap.size := hs0
        refine seq_run (.pointer (some ⟨w'.heap.size, 0, none⟩)) (w'.alloc (.cells #[.bool false, .int .u64 0, .bool false, .int .i64 0, .int .u64 0, .int .u64 0, .bool false, .bool false, .bool false, .bool false, .bool false, .bool false, .int .u64 0, .bool false, .int .i64 0, .int .u64 0, .int .u64 0, .bool false, .bool false, .bool false, .bool false, .bool false, .bool false, .int .u64 0, .bool false, .int .i64 0, .int .u64 0, .int .u64 0, .bool false, .bool false, .bool false, .bool false, .bool false, .bool false, .int .u64 0, .bool false, .int .i64 0, .int .u64 0, .int .u64 0, .bool false, .bool false, .bool false, .bool false, .bool false, .int .u8 0] 29)) (by rfl) ?_ ((Below.refl _ _).alloc hs0 _) ?_; (simp [go_sem, execOp, Act.eval]); intro K hK; simp only [Act.put, List.setIfInBounds_toArray, List.set_cons_zero, List.set_cons_succ]; refine hK _ _ ?_; clear hK K
        have hE := (Ext.refl w').alloc (.cells #[.bool false, .int .u64 0, .bool false, .int .i64 0, .int .u64 0, .int .u64 0, .bool false, .bool false, .bool false, .bool false, .bool false, .bool false, .int .u64 0, .bool false, .int .i64 0, .int .u64 0, .int .u64 0, .bool false, .bool false, .bool false, .bool false, .bool false, .bool false, .int .u64 0, .bool false, .int .i64 0, .int .u64 0, .int .u64 0, .bool false, .bool false, .bool false, .bool false, .bool false, .bool false, .int .u64 0, .bool false, .int .i64 0, .int .u64 0, .int .u64 0, .bool false, .bool false, .bool false, .bool false, .bool false, .int .u8 0] 29)
        have hgw : w.heap.size ≤ w'.heap.size := HE.out.size
        replace h1 := h1.ext hE
        replace h2 := h2.ext hE
        replace h3 := h3.ext hE
        replace HE := Lib.hid (HE.out.trans hE)
        replace hs0 := Nat.le_trans hs0 hE.size
        clear hE
        generalize w'.alloc (.cells #[.bool false, .int .u64 0, .bool false, .int .i64 0, .int .u64 0, .int .u64 0, .bool false, .bool false, .bool false, .bool false, .bool false, .bool false, .int .u64 0, .bool false, .int .i64 0, .int .u64 0, .int .u64 0, .bool false, .bool false, .bool false, .bool false, .bool false, .bool false, .int .u64 0, .bool false, .int .i64 0, .int .u64 0, .int .u64 0, .bool false, .bool false, .bool false, .bool false, .bool false, .bool false, .int .u64 0, .bool false, .int .i64 0, .int .u64 0, .int .u64 0, .bool false, .bool false, .bool false, .bool false, .bool false, .int .u8 0] 29) = WA at *
        generalize w'.heap.size = gq at *
        (repeat (first | (refine seq_skip (by rfl) ?_; intro K hK; simp only [Act.put, List.setIfInBounds_toArray, List.set_cons_zero, List.set_cons_succ]; refine hK _ ?_; clear hK K) | (refine seq_skipc (by rfl) ?_; intro K hK; simp only [Act.put, List.setIfInBounds_toArray, List.set_cons_zero, List.set_cons_succ]; refine hK _ ?_; clear hK K) | (refine seq_read (by rfl) (by rfl) ?_; intro K hK; go_big_quiet_op; first | go_big_quiet_on | (refine ⟨_, fun _ _ => rfl, ?_⟩; go_big_quiet_on))))
        refine seq_store_row rfl rfl rfl (hn) (st_info _) (by simp [stC_size]) (stC_one _) (by rfl) ((below_row (Below.refl _ _) hgB _)) ?_; intro K hK; simp only [Act.put, List.setIfInBounds_toArray, List.set_cons_zero, List.set_cons_succ]; refine hK _ _ ?_; clear hK K
        (repeat (first | (refine seq_skip (by rfl) ?_; intro K hK; simp only [Act.put, List.setIfInBounds_toArray, List.set_cons_zero, List.set_cons_succ]; refine hK _ ?_; clear hK K) | (refine seq_skipc (by rfl) ?_; intro K hK; simp only [Act.put, List.setIfInBounds_toArray, List.set_cons_zero, List.set_cons_succ]; refine hK _ ?_; clear hK K) | (refine seq_read (by rfl) (by rfl) ?_; intro K hK; go_big_quiet_op; first | go_big_quiet_on | (refine ⟨_, fun _ _ => rfl, ?_⟩; go_big_quiet_on))))
        refine seq_done ?_
        have hm := hn.row (stC KD)
        replace h1 := h1.apart (k := gq) (by omega) (stC KD)
        replace h2 := h2.apart (k := gq) (by omega) (stC KD)
        replace h3 := h3.apart (k := gq) (by omega) (stC KD)
        replace HE := Lib.hid (Ext.row HE.out hgw (stC KD))
        generalize WA.setRow gq (stC KD) = WF at *
        exact key gq WF ⟨h1, h2, h3, hm, (by omega), (by omega), (by omega), HE.out⟩
      · skip
        have hn := Blk.new w' 29 #[.bool false, .int .u64 0, .bool false, .int .i64 0, .int .u64 0, .int .u64 0, .bool false, .bool false, .bool false, .bool false, .bool false, .bool false, .int .u64 0, .bool false, .int .i64 0, .int .u64 0, .int .u64 0, .bool false, .bool false, .bool false, .bool false, .bool false, .bool false, .int .u64 0, .bool false, .int .i64 0, .int .u64 0, .int .u64 0, .bool false, .bool false, .bool false, .bool false, .bool false, .bool false, .int .u64 0, .bool false, .int .i64 0, .int .u64 0, .int .u64 0, .bool false, .bool false, .bool false, .bool false, .bool false, .int .u8 0]
        have hgB : B ≤ w'.heap.size := hs0
        refine seq_run (.pointer (some ⟨w'.heap.size, 0, none⟩)) (w'.alloc (.cells #[.bool false, .int .u64 0, .bool false, .int .i64 0, .int .u64 0, .int .u64 0, .bool false, .bool false, .bool false, .bool false, .bool false, .bool false, .int .u64 0, .bool false, .int .i64 0, .int .u64 0, .int .u64 0, .bool false, .bool false, .bool false, .bool false, .bool false, .bool false, .int .u64 0, .bool false, .int .i64 0, .int .u64 0, .int .u64 0, .bool false, .bool false, .bool false, .bool false, .bool false, .bool false, .int .u64 0, .bool false, .int .i64 0, .int .u64 0, .int .u64 0, .bool false, .bool false, .bool false, .bool false, .bool false, .int .u8 0] 29)) (by rfl) ?_ ((Below.refl _ _).alloc hs0 _) ?_; (simp [go_sem, execOp, Act.eval]); intro K hK; simp only [Act.put, List.setIfInBounds_toArray, List.set_cons_zero, List.set_cons_succ]; refine hK _ _ ?_; clear hK K
        have hE := (Ext.refl w').alloc (.cells #[.bool false, .int .u64 0, .bool false, .int .i64 0, .int .u64 0, .int .u64 0, .bool false, .bool false, .bool false, .bool false, .bool false, .bool false, .int .u64 0, .bool false, .int .i64 0, .int .u64 0, .int .u64 0, .bool false, .bool false, .bool false, .bool false, .bool false, .bool false, .int .u64 0, .bool false, .int .i64 0, .int .u64 0, .int .u64 0, .bool false, .bool false, .bool false, .bool false, .bool false, .bool false, .int .u64 0, .bool false, .int .i64 0, .int .u64 0, .int .u64 0, .bool false, .bool false, .bool false, .bool false, .bool false, .int .u8 0] 29)
        have hgw : w.heap.size ≤ w'.heap.size := HE.out.size
        replace h1 := h1.ext hE
        replace h2 := h2.ext hE
        replace h3 := h3.ext hE
        replace HE := Lib.hid (HE.out.trans hE)
        replace hs0 := Nat.le_trans hs0 hE.size
        clear hE
        generalize w'.alloc (.cells #[.bool false, .int .u64 0, .bool false, .int .i64 0, .int .u64 0, .int .u64 0, .bool false, .bool false, .bool false, .bool false, .bool false, .bool false, .int .u64 0, .bool false, .int .i64 0, .int .u64 0, .int .u64 0, .bool false, .bool false, .bool false, .bool false, .bool false, .bool false, .int .u64 0, .bool false, .int .i64 0, .int .u64 0, .int .u64 0, .bool false, .bool false, .bool false, .bool false, .bool false, .bool false, .int .u64 0, .bool false, .int .i64 0, .int .u64 0, .int .u64 0, .bool false, .bool false, .bool false, .bool false, .bool false, .int .u8 0] 29) = WA at *
        generalize w'.heap.size = gq at *
        refine seq_done ?_
        refine seq_call (cp4 _ (hT0.ext HE.out)) rfl Tryd.func20 (by kernel_rfl) (by kernel_rfl) (by rfl) (by rfl) ?_; intro K hK; rintro e w' ⟨rfl, hE⟩; refine ⟨_, rfl, (Below.mono hE hs0), ?_⟩; simp only [Act.put, List.setIfInBounds_toArray, List.set_cons_zero, List.set_cons_succ]; refine hK _ _ ?_; clear hK K
        replace h1 := h1.ext hE
        replace h2 := h2.ext hE
        replace h3 := h3.ext hE
        replace HE := Lib.hid (HE.out.trans hE)
        replace hs0 := Nat.le_trans hs0 hE.size
        try replace hn := hn.ext hE
        clear hE
        (repeat (first | (refine seq_skip (by rfl) ?_; intro K hK; simp only [Act.put, List.setIfInBounds_toArray, List.set_cons_zero, List.set_cons_succ]; refine hK _ ?_; clear hK K) | (refine seq_skipc (by rfl) ?_; intro K hK; simp only [Act.put, List.setIfInBounds_toArray, List.set_cons_zero, List.set_cons_succ]; refine hK _ ?_; clear hK K) | (refine seq_read (by rfl) (by rfl) ?_; intro K hK; go_big_quiet_op; first | go_big_quiet_on | (refine ⟨_, fun _ _ => rfl, ?_⟩; go_big_quiet_on))))
        refine seq_store_row rfl rfl rfl (hn) (st_info _) (by simp [stC_size]) (stC_one _) (by rfl) ((below_row (Below.refl _ _) hgB _)) ?_; intro K hK; simp only [Act.put, List.setIfInBounds_toArray, List.set_cons_zero, List.set_cons_succ]; refine hK _ _ ?_; clear hK K
        (repeat (first | (refine seq_skip (by rfl) ?_; intro K hK; simp only [Act.put, List.setIfInBounds_toArray, List.set_cons_zero, List.set_cons_succ]; refine hK _ ?_; clear hK K) | (refine seq_skipc (by rfl) ?_; intro K hK; simp only [Act.put, List.setIfInBounds_toArray, List.set_cons_zero, List.set_cons_succ]; refine hK _ ?_; clear hK K) | (refine seq_read (by rfl) (by rfl) ?_; intro K hK; go_big_quiet_op; first | go_big_quiet_on | (refine ⟨_, fun _ _ => rfl, ?_⟩; go_big_quiet_on))))
        refine seq_done ?_
        have hm := hn.row (stC KD)
        replace h1 := h1.apart (k := gq) (by omega) (stC KD)
        replace h2 := h2.apart (k := gq) (by omega) (stC KD)
        replace h3 := h3.apart (k := gq) (by omega) (stC KD)
        replace HE := Lib.hid (Ext.row HE.out hgw (stC KD))
        generalize w'.setRow gq (stC KD) = WF at *
        exact key gq WF ⟨h1, h2, h3, hm, (by omega), (by omega), (by omega), HE.out⟩
    · skip
      have hn := Blk.new wd 29 #[.bool false, .int .u64 0, .bool false, .int .i64 0, .int .u64 0, .int .u64 0, .bool false, .bool false, .bool false, .bool false, .bool false, .bool false, .int .u64 0, .bool false, .int .i64 0, .int .u64 0, .int .u64 0, .bool false, .bool false, .bool false, .bool false, .bool false, .bool false, .int .u64 0, .bool false, .int .i64 0, .int .u64 0, .int .u64 0, .bool false, .bool false, .bool false, .bool false, .bool false, .bool false, .int .u64 0, .bool false, .int .i64 0, .int .u64 0, .int .u64 0, .bool false, .bool false, .bool false, .bool false, .bool false, .int .u8 0]
      have hgB : B ≤ wd.heap.size := hs0
      refine seq_run (.pointer (some ⟨wd.heap.size, 0, none⟩)) (wd.alloc (.cells #[.bool false, .int .u64 0, .bool false, .int .i64 0, .int .u64 0, .int .u64 0, .bool false, .bool false, .bool false, .bool false, .bool false, .bool false, .int .u64 0, .bool false, .int .i64 0, .int .u64 0, .int .u64 0, .bool false, .bool false, .bool false, .bool false, .bool false, .bool false, .int .u64 0, .bool false, .int .i64 0, .int .u64 0, .int .u64 0, .bool false, .bool false, .bool false, .bool false, .bool false, .bool false, .int .u64 0, .bool false, .int .i64 0, .int .u64 0, .int .u64 0, .bool false, .bool false, .bool false, .bool false, .bool false, .int .u8 0] 29)) (by rfl) ?_ ((Below.refl _ _).alloc hs0 _) ?_; (simp [go_sem, execOp, Act.eval]); intro K hK; simp only [Act.put, List.setIfInBounds_toArray, List.set_cons_zero, List.set_cons_succ]; refine hK _ _ ?_; clear hK K
      have hE := (Ext.refl wd).alloc (.cells #[.bool false, .int .u64 0, .bool false, .int .i64 0, .int .u64 0, .int .u64 0, .bool false, .bool false, .bool false, .bool false, .bool false, .bool false, .int .u64 0, .bool false, .int .i64 0, .int .u64 0, .int .u64 0, .bool false, .bool false, .bool false, .bool false, .bool false, .bool false, .int .u64 0, .bool false, .int .i64 0, .int .u64 0, .int .u64 0, .bool false, .bool false, .bool false, .bool false, .bool false, .bool false, .int .u64 0, .bool false, .int .i64 0, .int .u64 0, .int .u64 0, .bool false, .bool false, .bool false, .bool false, .bool false, .int .u8 0] 29)
      have hgw : w.heap.size ≤ wd.heap.size := HE.out.size
      replace h1 := h1.ext hE
      replace h2 := h2.ext hE
      replace h3 := h3.ext hE
      replace HE := Lib.hid (HE.out.trans hE)
      replace hs0 := Nat.le_trans hs0 hE.size
      clear hE
      generalize wd.alloc (.cells #[.bool false, .int .u64 0, .bool false, .int .i64 0, .int .u64 0, .int .u64 0, .bool false, .bool false, .bool false, .bool false, .bool false, .bool false, .int .u64 0, .bool false, .int .i64 0, .int .u64 0, .int .u64 0, .bool false, .bool false, .bool false, .bool false, .bool false, .bool false, .int .u64 0, .bool false, .int .i64 0, .int .u64 0, .int .u64 0, .bool false, .bool false, .bool false, .bool false, .bool false, .bool false, .int .u64 0, .bool false, .int .i64 0, .int .u64 0, .int .u64 0, .bool false, .bool false, .bool false, .bool false, .bool false, .int .u8 0] 29) = WA at *
      generalize wd.heap.size = gq at *
      refine seq_done ?_
      refine seq_call (co5 _) rfl Tryd.func26 (by kernel_rfl) (by kernel_rfl) (by rfl) (by rfl) ?_; intro K hK; rintro e w' ⟨rfl, hE⟩; refine ⟨_, rfl, (Below.mono hE hs0), ?_⟩; simp only [Act.put, List.setIfInBounds_toArray, List.set_cons_zero, List.set_cons_succ]; refine hK _ _ ?_; clear hK K
      replace h1 := h1.ext hE
      replace h2 := h2.ext hE
      replace h3 := h3.ext hE
      replace HE := Lib.hid (HE.out.trans hE)
      replace hs0 := Nat.le_trans hs0 hE.size
      try replace hn := hn.ext hE
      clear hE
      refine seq_call (cp4 _ (hT0.ext HE.out)) rfl Tryd.func20 (by kernel_rfl) (by kernel_rfl) (by rfl) (by rfl) ?_; intro K hK; rintro e w' ⟨rfl, hE⟩; refine ⟨_, rfl, (Below.mono hE hs0), ?_⟩; simp only [Act.put, List.setIfInBounds_toArray, List.set_cons_zero, List.set_cons_succ]; refine hK _ _ ?_; clear hK K
      replace h1 := h1.ext hE
      replace h2 := h2.ext hE
      replace h3 := h3.ext hE
      replace HE := Lib.hid (HE.out.trans hE)
      replace hs0 := Nat.le_trans hs0 hE.size
      try replace hn := hn.ext hE
      clear hE
      (repeat (first | (refine seq_skip (by rfl) ?_; intro K hK; simp only [Act.put, List.setIfInBounds_toArray, List.set_cons_zero, List.set_cons_succ]; refine hK _ ?_; clear hK K) | (refine seq_skipc (by rfl) ?_; intro K hK; simp only [Act.put, List.setIfInBounds_toArray, List.set_cons_zero, List.set_cons_succ]; refine hK _ ?_; clear hK K) | (refine seq_read (by rfl) (by rfl) ?_; intro K hK; go_big_quiet_op; first | go_big_quiet_on | (refine ⟨_, fun _ _ => rfl, ?_⟩; go_big_quiet_on))))
      refine seq_store_row rfl rfl rfl (hn) (st_info _) (by simp [stC_size]) (stC_one _) (by rfl) ((below_row (Below.refl _ _) hgB _)) ?_; intro K hK; simp only [Act.put, List.setIfInBounds_toArray, List.set_cons_zero, List.set_cons_succ]; refine hK _ _ ?_; clear hK K
      (repeat (first | (refine seq_skip (by rfl) ?_; intro K hK; simp only [Act.put, List.setIfInBounds_toArray, List.set_cons_zero, List.set_cons_succ]; refine hK _ ?_; clear hK K) | (refine seq_skipc (by rfl) ?_; intro K hK; simp only [Act.put, List.setIfInBounds_toArray, List.set_cons_zero, List.set_cons_succ]; refine hK _ ?_; clear hK K) | (refine seq_read (by rfl) (by rfl) ?_; intro K hK; go_big_quiet_op; first | go_big_quiet_on | (refine ⟨_, fun _ _ => rfl, ?_⟩; go_big_quiet_on))))
      refine seq_done ?_
      have hm := hn.row (stC KD)
      replace h1 := h1.apart (k := gq) (by omega) (stC KD)
      replace h2 := h2.apart (k := gq) (by omega) (stC KD)
      replace h3 := h3.apart (k := gq) (by omega) (stC KD)
      replace HE := Lib.hid (Ext.row HE.out hgw (stC KD))
      generalize w'.setRow gq (stC KD) = WF at *
      exact key gq WF ⟨h1, h2, h3, hm, (by omega), (by omega), (by omega), HE.out⟩
  intro g4 WN hk
  clear h1 l_h1
  clear h2 l_h2
  clear h3 l_h3
  clear HE
  obtain ⟨h1, h2, h3, h4, d_h1_h4, d_h2_h4, d_h3_h4, hE⟩ := hk
  have HE := Lib.hid hE
  clear hE
  clear cp4
  generalize WN = W4 at *
  have HT := Lib.hid (hT0.ext HE.out)
  clear hT0
  go_wp2_with ((refine wpList_load_blk (by rfl) 29 _ rfl rfl (by first | exact h1 | exact h2 | exact h3 | exact h4) Tryd.underlying29 rfl (by kernel_rfl) ?_)); refine (cf1 _ HT.out).mono ?_; rintro e w' ⟨rfl, hE⟩; (try replace hm := hm.ext hE); (try replace h1 := h1.ext hE); (try replace h2 := h2.ext hE); (try replace h3 := h3.ext hE); (try replace h4 := h4.ext hE); (try replace HT := Lib.hid (HT.out.ext hE)); (try replace HE := Lib.hid (HE.out.trans hE))
  clear hE cf1
  go_wp2_with ((refine wpList_load_blk (by rfl) 29 _ rfl rfl (by first | exact h1 | exact h2 | exact h3 | exact h4) Tryd.underlying29 rfl (by kernel_rfl) ?_)); refine (cf2 _ HT.out).mono ?_; rintro e w' ⟨rfl, hE⟩; (try replace hm := hm.ext hE); (try replace h1 := h1.ext hE); (try replace h2 := h2.ext hE); (try replace h3 := h3.ext hE); (try replace h4 := h4.ext hE); (try replace HT := Lib.hid (HT.out.ext hE)); (try replace HE := Lib.hid (HE.out.trans hE))
  clear hE cf2
  go_wp2_with ((refine wpList_load_blk (by rfl) 29 _ rfl rfl (by first | exact h1 | exact h2 | exact h3 | exact h4) Tryd.underlying29 rfl (by kernel_rfl) ?_)); refine (cf3 _ HT.out).mono ?_; rintro e w' ⟨rfl, hE⟩; (try replace hm := hm.ext hE); (try replace h1 := h1.ext hE); (try replace h2 := h2.ext hE); (try replace h3 := h3.ext hE); (try replace h4 := h4.ext hE); (try replace HT := Lib.hid (HT.out.ext hE)); (try replace HE := Lib.hid (HE.out.trans hE))
  clear hE cf3
  have x0 := h4.way (k := 0) (i := 0) (by decide) (by decide)
  rw [enC_v, v1] at x0
  have x3 := h4.way (k := 3) (i := 0) (by decide) (by decide)
  rw [enC_v, v2] at x3
  simp only [Nat.reduceMul, Nat.reduceAdd] at x0 x3
  clear v1 v2
  go_wp2_with ((refine wpList_build_as (by rfl) rfl (s0_build) ?_)); refine (cu _ HT.out).mono ?_; rintro e w' ⟨rfl, hE⟩; (try replace hm := hm.ext hE); (try replace h1 := h1.ext hE); (try replace h2 := h2.ext hE); (try replace h3 := h3.ext hE); (try replace h4 := h4.ext hE); (try replace HT := Lib.hid (HT.out.ext hE)); (try replace HE := Lib.hid (HE.out.trans hE))
  clear hE cu x0 x3
  go_wp2_with ((refine wpList_load_blk (by rfl) 29 _ rfl rfl (by first | exact h1 | exact h2 | exact h3 | exact h4) Tryd.underlying29 rfl (by kernel_rfl) ?_)); refine (cd _).mono ?_; rintro e w' ⟨rfl, hE⟩; (try replace hm := hm.ext hE); (try replace h1 := h1.ext hE); (try replace h2 := h2.ext hE); (try replace h3 := h3.ext hE); (try replace h4 := h4.ext hE); (try replace HT := Lib.hid (HT.out.ext hE)); (try replace HE := Lib.hid (HE.out.trans hE))
  clear hE cd ft
  go_wp2_with ((refine wpList_load_blk (by rfl) 29 _ rfl rfl (by first | exact h1 | exact h2 | exact h3 | exact h4) Tryd.underlying29 rfl (by kernel_rfl) ?_)); refine (cr1 _ HT.out).mono ?_; rintro e w' ⟨rfl, hE⟩; (try replace hm := hm.ext hE); (try replace h1 := h1.ext hE); (try replace h2 := h2.ext hE); (try replace h3 := h3.ext hE); (try replace h4 := h4.ext hE); (try replace HT := Lib.hid (HT.out.ext hE)); (try replace HE := Lib.hid (HE.out.trans hE))
  clear hE cr1 fw fi fv
  go_wp2_with ((refine wpList_build_as (by rfl) rfl (K8_build) ?_)); refine (cr2 _ HT.out).mono ?_; rintro e w' ⟨rfl, hE⟩; (try replace hm := hm.ext hE); (try replace h1 := h1.ext hE); (try replace h2 := h2.ext hE); (try replace h3 := h3.ext hE); (try replace h4 := h4.ext hE); (try replace HT := Lib.hid (HT.out.ext hE)); (try replace HE := Lib.hid (HE.out.trans hE))
  clear hE cr2
  go_wp2_with fail; refine (co5 _).mono ?_; rintro e w' ⟨rfl, hE⟩; (try replace hm := hm.ext hE); (try replace h1 := h1.ext hE); (try replace h2 := h2.ext hE); (try replace h3 := h3.ext hE); (try replace h4 := h4.ext hE); (try replace HT := Lib.hid (HT.out.ext hE)); (try replace HE := Lib.hid (HE.out.trans hE))
  clear hE
  go_wp2_with fail; refine (co5 _).mono ?_; rintro e w' ⟨rfl, hE⟩; (try replace hm := hm.ext hE); (try replace h1 := h1.ext hE); (try replace h2 := h2.ext hE); (try replace h3 := h3.ext hE); (try replace h4 := h4.ext hE); (try replace HT := Lib.hid (HT.out.ext hE)); (try replace HE := Lib.hid (HE.out.trans hE))
  clear hE
  go_wp2_with fail; refine (cs1 _).mono ?_; rintro e w' ⟨rfl, hE⟩; (try replace hm := hm.ext hE); (try replace h1 := h1.ext hE); (try replace h2 := h2.ext hE); (try replace h3 := h3.ext hE); (try replace h4 := h4.ext hE); (try replace HT := Lib.hid (HT.out.ext hE)); (try replace HE := Lib.hid (HE.out.trans hE))
  clear hE
  go_wp2_with fail; refine (co5 _).mono ?_; rintro e w' ⟨rfl, hE⟩; (try replace hm := hm.ext hE); (try replace h1 := h1.ext hE); (try replace h2 := h2.ext hE); (try replace h3 := h3.ext hE); (try replace h4 := h4.ext hE); (try replace HT := Lib.hid (HT.out.ext hE)); (try replace HE := Lib.hid (HE.out.trans hE))
  clear hE
  go_wp2_with fail; refine (co2 _).mono ?_; rintro e w' ⟨rfl, hE⟩; (try replace hm := hm.ext hE); (try replace h1 := h1.ext hE); (try replace h2 := h2.ext hE); (try replace h3 := h3.ext hE); (try replace h4 := h4.ext hE); (try replace HT := Lib.hid (HT.out.ext hE)); (try replace HE := Lib.hid (HE.out.trans hE))
  clear hE
  go_wp2_with fail; refine (cs2 _).mono ?_; rintro e w' ⟨rfl, hE⟩; (try replace hm := hm.ext hE); (try replace h1 := h1.ext hE); (try replace h2 := h2.ext hE); (try replace h3 := h3.ext hE); (try replace h4 := h4.ext hE); (try replace HT := Lib.hid (HT.out.ext hE)); (try replace HE := Lib.hid (HE.out.trans hE))
  clear hE
  go_wp2
  go_ret
  exact ⟨rfl, HE.out⟩
end Go.Proofs.YtbncaghcokmefaaDoor
