/- Layer 15: awake. -/
import Derived.Test.YtlimipjfdecbfaaDoorCfena
namespace Go.Proofs.YtlimipjfdecbfaaDoor
open Go.ChangeShapes Go.WideShapes Go.ChangeAt Go.RowKit
set_option linter.unusedVariables false
set_option linter.unusedSimpArgs false
set_option maxRecDepth 10000

/-- a list of two fences, just made -/
theorem two_fc {w : World} {g : Nat} (a b : Fc) (h : Blk w g 24 #[.bool a.ha, .int .u64 (a.ad : Int), .bool a.hn, .int .u64 (a.n : Int), .bool b.ha, .int .u64 (b.ad : Int), .bool b.hn, .int .u64 (b.n : Int)]) : RowV KF w (some ⟨g, 0, none⟩) [a, b] 2 := by
  refine ⟨fun _ => ⟨g, 0, rfl, h.lt, fun i hi => ?_⟩, (fun h => by cases h), (by simp), (by omega)⟩
  have hi2 : i < 2 := by simpa using hi
  rcases (by omega : i = 0 ∨ i = 1) with rfl | rfl
  · have := h.part 0 (ds := fcC a) (by rw [fcC_eq]; rfl)
    simpa [KF] using this
  · have := h.part 4 (ds := fcC b) (by rw [fcC_eq]; rfl)
    simpa [KF] using this
def F5 : En := ⟨true, 1, false, 0, 5, 0, ⟨false, false, false, false⟩, false⟩
def G5 : En := ⟨true, 1, true, 0, 5, 0, ⟨false, false, false, false⟩, false⟩
def F6 : En := ⟨true, 0, true, 0, 6, 0, ⟨false, false, false, false⟩, false⟩
def T0 : List St := List.replicate 1 s0
def T1 : List St := putT F5 (-1) T0
def T2 : List St := putT F6 (-1) T1
theorem T0_r : rightT T0 = true := rt_rep (by decide)
theorem F5_may : mayE F5 = true := by kernel_rfl
theorem G5_may : mayE G5 = true := by kernel_rfl
theorem F6_may : mayE F6 = true := by kernel_rfl
theorem T1_r : rightT T1 = true := rt_put T0_r F5_may _
theorem T2_r : rightT T2 = true := rt_put T1_r F6_may _
theorem T0_len : T0.length = 1 := by unfold T0; simp
theorem T1_len : T1.length = 1 := by unfold T1; rw [putT_len, T0_len]
theorem T2_len : T2.length = 1 := by unfold T2; rw [putT_len, T1_len]
theorem F5_build : Tryd.prog.built 28 [(0, .bool true), (1, .int .u64 1), (4, .int .u64 5)] = some (enC F5) := by unfold F5; rw [enC_def, pmC_def]; kernel_rfl
theorem F6_build : Tryd.prog.built 28 [(0, .bool true), (2, .bool true), (4, .int .u64 6)] = some (enC F6) := by unfold F6; rw [enC_def, pmC_def]; kernel_rfl
theorem G5_set : (enC F5).setIfInBounds 2 (.bool true) = enC G5 := by unfold F5 G5; rw [enC_def, enC_def, pmC_def]; kernel_rfl
theorem n1 : namF (fOf 1 20771) F5 = true := by kernel_rfl
theorem n2 : namF (fOf 2 20771) F5 = false := by kernel_rfl
theorem n3 : namF (fAs 1) G5 = false := by kernel_rfl
theorem n4 : namF (fAd 20480) G5 = true := by kernel_rfl
theorem n5 : namF fc0 G5 = true := by kernel_rfl
theorem t1 : (allT (doF (fAs 1) T2)).length = 1 := by kernel_rfl
theorem t2 : (allT (allF [fAs 1, fAd 24576] T2)).length = 0 := by kernel_rfl
theorem fc0_build : Tryd.prog.built 24 [] = some (fcC fc0) := by rw [fcC_eq]; kernel_rfl
theorem f12_build : Tryd.prog.built 24 [(0, .bool true), (1, .int .u64 2), (2, .bool true), (3, .int .u64 1)] = some (fcC (fOf 1 2)) := by rw [fOf_C]; kernel_rfl
attribute [irreducible] F5 G5 F6 T0 T1 T2
set_option maxRecDepth 100000 in
set_option maxHeartbeats 4000000 in
theorem awake15_c (w : World) (hT : Lays w) : Calls Tryd.prog 9 #[] w fun r w' => r = .returned (.bool true) ∧ Ext w w' := by
  have HE := Lib.hid (Ext.refl w)
  have cp1 := fun A c w h => rput14_c A T0 c (by rw [T0_len]; decide) (by rw [T0_len]; decide) F5 (-1) (may_v F5_may (by kernel_rfl)).l0 (may_v F5_may (by kernel_rfl)).l2 (by have := (may_lt F5_may).1; omega) (right_t (rt_s T0_r (ix_lt (by rw [T0_len]; decide) _ _))) w h
  have cp2 := fun A c w h => rput14_c A T1 c (by rw [T1_len]; decide) (by rw [T1_len]; decide) F6 (-1) (may_v F6_may (by kernel_rfl)).l0 (may_v F6_may (by kernel_rfl)).l2 (by have := (may_lt F6_may).1; omega) (right_t (rt_s T1_r (ix_lt (by rw [T1_len]; decide) _ _))) w h
  rw [show putT F5 (-1) T0 = T1 from (by unfold T1; rfl)] at cp1
  rw [show putT F6 (-1) T1 = T2 from (by unfold T2; rfl)] at cp2
  unfold MadeT at cp1 cp2
  rw [T0_len, T1_len] at cp1
  rw [T1_len, T2_len] at cp2
  have hmk : ∀ W : World, (Instr.makeSlice 35 (.int .i64 1) (.int .i64 1)).run Tryd.prog W = .ok (.slice (some ⟨W.heap.size, 0, none⟩) 1 1) (W.alloc (.cells (zsC 1) 46)) := make_zs 1 (by decide)
  have hzr := zs_row 1 (by decide)
  rw [show List.replicate 1 s0 = T0 from (by unfold T0; rfl)] at hzr
  generalize zsC 1 = zs at *
  go_enter Tryd.func9, Tryd.ntmps9
  have h1 := Blk.new w 28 (enC F5)
  replace HE := Lib.hid (HE.out.alloc (.cells (enC F5) 28))
  go_upto_region 2 with (first | (refine wpList_build_as (by rfl) rfl (F5_build) ?_) | (refine wpList_store_new rfl 28 _ _ rfl (enC _) _ _ rfl rfl (en_info _) (by simp [enC_size]) (enC_one _) ?_))
  generalize w.alloc (.cells (enC F5) 28) = W1 at *
  generalize hg1 : w.heap.size = g1 at *
  have h2 := Blk.new W1 28 (enC F5)
  have l12 := h1.lt
  go_upto_region 3 with (first | (refine wpList_load_blk (by rfl) 28 _ rfl rfl h1 Tryd.underlying28 rfl (by kernel_rfl) ?_) | (refine wpList_store_new rfl 28 _ _ rfl (enC _) _ _ rfl rfl (en_info _) (by simp [enC_size]) (enC_one _) ?_))
  have hE := (Ext.refl W1).alloc (.cells (enC F5) 28)
  replace h1 := h1.ext hE
  replace HE := Lib.hid (HE.out.trans hE)
  clear hE
  generalize W1.alloc (.cells (enC F5) 28) = W2 at *
  generalize W1.heap.size = g2 at *
  go_upto_region 4 with (refine wpList_store_cell rfl 4 _ _ rfl rfl rfl h2 (by simp [enC_size]) (G5_set) (by kernel_rfl) rfl rfl ?_)
  replace h1 := h1.apart (k := g2) (by omega) (enC G5)
  replace HE := Lib.hid (HE.out.row (show w.heap.size ≤ g2 by omega) (enC G5))
  replace h2 := h2.row (enC G5)
  generalize W2.setRow g2 (enC G5) = W3 at *
  (try simp only [Act.put, List.setIfInBounds_toArray, List.set_cons_zero, List.set_cons_succ])
  go_cut [3] from 7 to 12 (fun c wx => ∃ g A c', c = .pointer (some ⟨g, 0, none⟩) ∧ Blk wx g1 28 (enC F5) ∧ Blk wx g2 28 (enC G5) ∧ Blk wx g 37 #[.slice A 1 c'] ∧ RowV KS wx A T2 c' ∧ Ext w wx)
  case first =>
    go_wp2_with fail
    (try replace hm := Blk.drew hm); (try replace h1 := Blk.drew h1); (try replace h2 := Blk.drew h2); (try replace h3 := Blk.drew h3); replace HE := Lib.hid HE.out.drew
    refine wp_region_plan (.fork [(2, false), (4, false)] 0 (.fork [(1, false)] 3 (.fork [] 5 (.last [(6, true), (7, true)]) 6 (.last [(5, true), (7, true)])) 6 (.last [(3, true), (5, true), (7, true)])) 6 (.last [(0, true), (1, false), (3, true), (5, true), (7, true)])) (Below W3.drew.heap.size) (by kernel_rfl) (by kernel_rfl) (Below.refl _) (fun _ _ _ => Below.trans) ?_
    simp only [Plan.wp, List.map, nth_z, nth_s]
    have hs0 : W3.drew.heap.size ≤ W3.drew.heap.size := Nat.le_refl _
    have l1 := h1.lt
    have l2 := h2.lt
    generalize hBB : W3.drew.heap.size = B at l1 l2 hs0 ⊢
    rw [← hBB] at hs0
    generalize W3.drew = wd at *
    rw [hBB] at hs0
    replace hs0 : B ≤ wd.heap.size := by omega
    clear hBB
    refine seq_load rfl rfl (fun x hx => Blk.lower (h1) hx (by omega)) rfl Tryd.underlying28 (by kernel_rfl) (by rfl) ?_; intro K hK; simp only [Act.put, List.setIfInBounds_toArray, List.set_cons_zero, List.set_cons_succ]; refine hK _ ?_; clear hK K
    refine seq_build_as rfl (F6_build) (by rfl) ?_; intro K hK; simp only [Act.put, List.setIfInBounds_toArray, List.set_cons_zero, List.set_cons_succ]; refine hK _ ?_; clear hK K
    refine seq_done ?_
    refine ⟨?_, ?_⟩
    · skip
      refine seq_run (.slice (some ⟨wd.heap.size, 0, none⟩) 1 1) (wd.alloc (.cells zs 46)) (by rfl) ?_ ((Below.refl _ _).alloc hs0 _) ?_; (simp [go_sem, execOp, Act.eval, hmk]); intro K hK; simp only [Act.put, List.setIfInBounds_toArray, List.set_cons_zero, List.set_cons_succ]; refine hK _ _ ?_; clear hK K
      have r0 := hzr wd
      have hE := (Ext.refl wd).alloc (.cells zs 46)
      replace h1 := h1.ext hE
      replace h2 := h2.ext hE
      replace HE := Lib.hid (HE.out.trans hE)
      replace hs0 := Nat.le_trans hs0 hE.size
      clear hE
      generalize wd.alloc (.cells zs 46) = WB at *
      refine seq_done ?_
      (try simp only [Plan.wp, List.map, nth_z, nth_s])
      refine seq_value ((.agg #[.slice (some ⟨wd.heap.size, 0, none⟩) 1 1])) (by rfl) (fun x hx => by simp [go_sem, execOp, Act.eval]) ?_; intro K hK; simp only [Act.put, List.setIfInBounds_toArray, List.set_cons_zero, List.set_cons_succ]; refine hK _ ?_; clear hK K
      refine seq_done ?_
      refine ⟨?_, ?_⟩
      · skip
        refine seq_call (cp1 _ _ _ r0) rfl Tryd.func27 (by kernel_rfl) (by kernel_rfl) (by rfl) (by rfl) ?_; intro K hK; rintro e w' ⟨A1, c1, rfl, r1, -, hE⟩; refine ⟨_, rfl, (Below.mono hE hs0), ?_⟩; simp only [Act.put, List.setIfInBounds_toArray, List.set_cons_zero, List.set_cons_succ]; refine hK _ _ ?_; clear hK K
        clear r0
        replace h1 := h1.ext hE
        replace h2 := h2.ext hE
        replace HE := Lib.hid (HE.out.trans hE)
        replace hs0 := Nat.le_trans hs0 hE.size
        clear hE
        refine seq_done ?_
        (try simp only [Plan.wp, List.map, nth_z, nth_s])
        refine seq_done ?_
        refine ⟨?_, ?_⟩
        · skip
          refine seq_call (cp2 _ _ _ r1) rfl Tryd.func27 (by kernel_rfl) (by kernel_rfl) (by rfl) (by rfl) ?_; intro K hK; rintro e w' ⟨A2, c2, rfl, r2, -, hE⟩; refine ⟨_, rfl, (Below.mono hE hs0), ?_⟩; simp only [Act.put, List.setIfInBounds_toArray, List.set_cons_zero, List.set_cons_succ]; refine hK _ _ ?_; clear hK K
          clear r1
          replace h1 := h1.ext hE
          replace h2 := h2.ext hE
          replace HE := Lib.hid (HE.out.trans hE)
          replace hs0 := Nat.le_trans hs0 hE.size
          clear hE
          refine seq_done ?_
          (try simp only [Plan.wp, List.map, nth_z, nth_s])
          have hn := Blk.new w' 37 #[.slice none 0 0]
          have hgB : B ≤ w'.heap.size := hs0
          refine seq_run (.pointer (some ⟨w'.heap.size, 0, none⟩)) (w'.alloc (.cells #[.slice none 0 0] 37)) (by rfl) ?_ ((Below.refl _ _).alloc hs0 _) ?_; (simp [go_sem, execOp, Act.eval]); intro K hK; simp only [Act.put, List.setIfInBounds_toArray, List.set_cons_zero, List.set_cons_succ]; refine hK _ _ ?_; clear hK K
          have hE := (Ext.refl w').alloc (.cells #[.slice none 0 0] 37)
          have hgw : w.heap.size ≤ w'.heap.size := HE.out.size
          replace h1 := h1.ext hE
          replace h2 := h2.ext hE
          replace r2 := r2.ext hE
          replace HE := Lib.hid (HE.out.trans hE)
          replace hs0 := Nat.le_trans hs0 hE.size
          clear hE
          generalize w'.alloc (.cells #[.slice none 0 0] 37) = WA at *
          generalize w'.heap.size = gq at *
          refine seq_store_row rfl rfl rfl (hn) (by kernel_rfl) (by rfl) (by simp [Value.oneCell']) (by rfl) (below_row (Below.refl _ _) hgB _) ?_; intro K hK; simp only [Act.put, List.setIfInBounds_toArray, List.set_cons_zero, List.set_cons_succ]; refine hK _ _ ?_; clear hK K
          refine seq_done ?_
          have hm := hn.row #[.slice A2 1 c2]
          replace h1 := h1.apart (k := gq) (by omega) #[.slice A2 1 c2]
          replace h2 := h2.apart (k := gq) (by omega) #[.slice A2 1 c2]
          replace r2 := rowv_tlb r2 hn #[.slice A2 1 c2]
          replace HE := Lib.hid (Ext.row HE.out hgw #[.slice A2 1 c2])
          generalize WA.setRow (gq) #[.slice A2 1 c2] = WF at *
          go_wp2_with fail
          go_meet
          case rel => exact ⟨_, A2, c2, rfl, h1, h2, hm, r2, HE.out⟩
        · skip
          have hn := Blk.new w' 37 #[.slice none 0 0]
          have hgB : B ≤ w'.heap.size := hs0
          refine seq_run (.pointer (some ⟨w'.heap.size, 0, none⟩)) (w'.alloc (.cells #[.slice none 0 0] 37)) (by rfl) ?_ ((Below.refl _ _).alloc hs0 _) ?_; (simp [go_sem, execOp, Act.eval]); intro K hK; simp only [Act.put, List.setIfInBounds_toArray, List.set_cons_zero, List.set_cons_succ]; refine hK _ _ ?_; clear hK K
          have hE := (Ext.refl w').alloc (.cells #[.slice none 0 0] 37)
          have hgw : w.heap.size ≤ w'.heap.size := HE.out.size
          replace h1 := h1.ext hE
          replace h2 := h2.ext hE
          replace r1 := r1.ext hE
          replace HE := Lib.hid (HE.out.trans hE)
          replace hs0 := Nat.le_trans hs0 hE.size
          clear hE
          generalize w'.alloc (.cells #[.slice none 0 0] 37) = WA at *
          generalize w'.heap.size = gq at *
          refine seq_done ?_
          (try simp only [Plan.wp, List.map, nth_z, nth_s])
          refine seq_call (cp2 _ _ _ r1) rfl Tryd.func27 (by kernel_rfl) (by kernel_rfl) (by rfl) (by rfl) ?_; intro K hK; rintro e w' ⟨A2, c2, rfl, r2, -, hE⟩; refine ⟨_, rfl, (Below.mono hE hs0), ?_⟩; simp only [Act.put, List.setIfInBounds_toArray, List.set_cons_zero, List.set_cons_succ]; refine hK _ _ ?_; clear hK K
          clear r1
          replace h1 := h1.ext hE
          replace h2 := h2.ext hE
          replace hn := hn.ext hE
          replace HE := Lib.hid (HE.out.trans hE)
          replace hs0 := Nat.le_trans hs0 hE.size
          clear hE
          refine seq_store_row rfl rfl rfl (hn) (by kernel_rfl) (by rfl) (by simp [Value.oneCell']) (by rfl) (below_row (Below.refl _ _) hgB _) ?_; intro K hK; simp only [Act.put, List.setIfInBounds_toArray, List.set_cons_zero, List.set_cons_succ]; refine hK _ _ ?_; clear hK K
          refine seq_done ?_
          have hm := hn.row #[.slice A2 1 c2]
          replace h1 := h1.apart (k := gq) (by omega) #[.slice A2 1 c2]
          replace h2 := h2.apart (k := gq) (by omega) #[.slice A2 1 c2]
          replace r2 := rowv_tlb r2 hn #[.slice A2 1 c2]
          replace HE := Lib.hid (Ext.row HE.out hgw #[.slice A2 1 c2])
          generalize w'.setRow (gq) #[.slice A2 1 c2] = WF at *
          go_wp2_with fail
          go_meet
          case rel => exact ⟨_, A2, c2, rfl, h1, h2, hm, r2, HE.out⟩
      · skip
        have hn := Blk.new WB 37 #[.slice none 0 0]
        have hgB : B ≤ WB.heap.size := hs0
        refine seq_run (.pointer (some ⟨WB.heap.size, 0, none⟩)) (WB.alloc (.cells #[.slice none 0 0] 37)) (by rfl) ?_ ((Below.refl _ _).alloc hs0 _) ?_; (simp [go_sem, execOp, Act.eval]); intro K hK; simp only [Act.put, List.setIfInBounds_toArray, List.set_cons_zero, List.set_cons_succ]; refine hK _ _ ?_; clear hK K
        have hE := (Ext.refl WB).alloc (.cells #[.slice none 0 0] 37)
        have hgw : w.heap.size ≤ WB.heap.size := HE.out.size
        replace h1 := h1.ext hE
        replace h2 := h2.ext hE
        replace r0 := r0.ext hE
        replace HE := Lib.hid (HE.out.trans hE)
        replace hs0 := Nat.le_trans hs0 hE.size
        clear hE
        generalize WB.alloc (.cells #[.slice none 0 0] 37) = WA at *
        generalize WB.heap.size = gq at *
        refine seq_done ?_
        (try simp only [Plan.wp, List.map, nth_z, nth_s])
        refine seq_call (cp1 _ _ _ r0) rfl Tryd.func27 (by kernel_rfl) (by kernel_rfl) (by rfl) (by rfl) ?_; intro K hK; rintro e w' ⟨A1, c1, rfl, r1, -, hE⟩; refine ⟨_, rfl, (Below.mono hE hs0), ?_⟩; simp only [Act.put, List.setIfInBounds_toArray, List.set_cons_zero, List.set_cons_succ]; refine hK _ _ ?_; clear hK K
        clear r0
        replace h1 := h1.ext hE
        replace h2 := h2.ext hE
        replace hn := hn.ext hE
        replace HE := Lib.hid (HE.out.trans hE)
        replace hs0 := Nat.le_trans hs0 hE.size
        clear hE
        refine seq_call (cp2 _ _ _ r1) rfl Tryd.func27 (by kernel_rfl) (by kernel_rfl) (by rfl) (by rfl) ?_; intro K hK; rintro e w' ⟨A2, c2, rfl, r2, -, hE⟩; refine ⟨_, rfl, (Below.mono hE hs0), ?_⟩; simp only [Act.put, List.setIfInBounds_toArray, List.set_cons_zero, List.set_cons_succ]; refine hK _ _ ?_; clear hK K
        clear r1
        replace h1 := h1.ext hE
        replace h2 := h2.ext hE
        replace hn := hn.ext hE
        replace HE := Lib.hid (HE.out.trans hE)
        replace hs0 := Nat.le_trans hs0 hE.size
        clear hE
        refine seq_store_row rfl rfl rfl (hn) (by kernel_rfl) (by rfl) (by simp [Value.oneCell']) (by rfl) (below_row (Below.refl _ _) hgB _) ?_; intro K hK; simp only [Act.put, List.setIfInBounds_toArray, List.set_cons_zero, List.set_cons_succ]; refine hK _ _ ?_; clear hK K
        refine seq_done ?_
        have hm := hn.row #[.slice A2 1 c2]
        replace h1 := h1.apart (k := gq) (by omega) #[.slice A2 1 c2]
        replace h2 := h2.apart (k := gq) (by omega) #[.slice A2 1 c2]
        replace r2 := rowv_tlb r2 hn #[.slice A2 1 c2]
        replace HE := Lib.hid (Ext.row HE.out hgw #[.slice A2 1 c2])
        generalize w'.setRow (gq) #[.slice A2 1 c2] = WF at *
        go_wp2_with fail
        go_meet
        case rel => exact ⟨_, A2, c2, rfl, h1, h2, hm, r2, HE.out⟩
    · skip
      have hn := Blk.new wd 37 #[.slice none 0 0]
      have hgB : B ≤ wd.heap.size := hs0
      refine seq_run (.pointer (some ⟨wd.heap.size, 0, none⟩)) (wd.alloc (.cells #[.slice none 0 0] 37)) (by rfl) ?_ ((Below.refl _ _).alloc hs0 _) ?_; (simp [go_sem, execOp, Act.eval]); intro K hK; simp only [Act.put, List.setIfInBounds_toArray, List.set_cons_zero, List.set_cons_succ]; refine hK _ _ ?_; clear hK K
      have hE := (Ext.refl wd).alloc (.cells #[.slice none 0 0] 37)
      have hgw : w.heap.size ≤ wd.heap.size := HE.out.size
      replace h1 := h1.ext hE
      replace h2 := h2.ext hE
      replace HE := Lib.hid (HE.out.trans hE)
      replace hs0 := Nat.le_trans hs0 hE.size
      clear hE
      generalize wd.alloc (.cells #[.slice none 0 0] 37) = WA at *
      refine seq_done ?_
      (try simp only [Plan.wp, List.map, nth_z, nth_s])
      refine seq_run (.slice (some ⟨WA.heap.size, 0, none⟩) 1 1) (WA.alloc (.cells zs 46)) (by rfl) ?_ ((Below.refl _ _).alloc hs0 _) ?_; (simp [go_sem, execOp, Act.eval, hmk]); intro K hK; simp only [Act.put, List.setIfInBounds_toArray, List.set_cons_zero, List.set_cons_succ]; refine hK _ _ ?_; clear hK K
      have r0 := hzr WA
      have hE := (Ext.refl WA).alloc (.cells zs 46)
      replace h1 := h1.ext hE
      replace h2 := h2.ext hE
      replace hn := hn.ext hE
      replace HE := Lib.hid (HE.out.trans hE)
      replace hs0 := Nat.le_trans hs0 hE.size
      clear hE
      generalize WA.alloc (.cells zs 46) = WB at *
      generalize WA.heap.size = gz at *
      refine seq_value ((.agg #[.slice (some ⟨gz, 0, none⟩) 1 1])) (by rfl) (fun x hx => by simp [go_sem, execOp, Act.eval]) ?_; intro K hK; simp only [Act.put, List.setIfInBounds_toArray, List.set_cons_zero, List.set_cons_succ]; refine hK _ ?_; clear hK K
      refine seq_call (cp1 _ _ _ r0) rfl Tryd.func27 (by kernel_rfl) (by kernel_rfl) (by rfl) (by rfl) ?_; intro K hK; rintro e w' ⟨A1, c1, rfl, r1, -, hE⟩; refine ⟨_, rfl, (Below.mono hE hs0), ?_⟩; simp only [Act.put, List.setIfInBounds_toArray, List.set_cons_zero, List.set_cons_succ]; refine hK _ _ ?_; clear hK K
      clear r0
      replace h1 := h1.ext hE
      replace h2 := h2.ext hE
      replace hn := hn.ext hE
      replace HE := Lib.hid (HE.out.trans hE)
      replace hs0 := Nat.le_trans hs0 hE.size
      clear hE
      refine seq_call (cp2 _ _ _ r1) rfl Tryd.func27 (by kernel_rfl) (by kernel_rfl) (by rfl) (by rfl) ?_; intro K hK; rintro e w' ⟨A2, c2, rfl, r2, -, hE⟩; refine ⟨_, rfl, (Below.mono hE hs0), ?_⟩; simp only [Act.put, List.setIfInBounds_toArray, List.set_cons_zero, List.set_cons_succ]; refine hK _ _ ?_; clear hK K
      clear r1
      replace h1 := h1.ext hE
      replace h2 := h2.ext hE
      replace hn := hn.ext hE
      replace HE := Lib.hid (HE.out.trans hE)
      replace hs0 := Nat.le_trans hs0 hE.size
      clear hE
      refine seq_store_row rfl rfl rfl (hn) (by kernel_rfl) (by rfl) (by simp [Value.oneCell']) (by rfl) (below_row (Below.refl _ _) hgB _) ?_; intro K hK; simp only [Act.put, List.setIfInBounds_toArray, List.set_cons_zero, List.set_cons_succ]; refine hK _ _ ?_; clear hK K
      refine seq_done ?_
      have hm := hn.row #[.slice A2 1 c2]
      replace h1 := h1.apart (k := wd.heap.size) (by omega) #[.slice A2 1 c2]
      replace h2 := h2.apart (k := wd.heap.size) (by omega) #[.slice A2 1 c2]
      replace r2 := rowv_tlb r2 hn #[.slice A2 1 c2]
      replace HE := Lib.hid (Ext.row HE.out hgw #[.slice A2 1 c2])
      generalize w'.setRow (wd.heap.size) #[.slice A2 1 c2] = WF at *
      go_wp2_with fail
      go_meet
      case rel => exact ⟨_, A2, c2, rfl, h1, h2, hm, r2, HE.out⟩
  case rest =>
    clear h1 h2 HE
    obtain ⟨g3, A2, c2, rfl, h1, h2, h3, r2, hE⟩ := hcut
    have HE := Lib.hid hE
    clear hE
    have cO1 : ∀ w, Calls Tryd.prog 10 #[.int .u64 1, .int .u64 20771] w fun r w' => r = .returned (.agg (fcC (fOf 1 20771))) ∧ Ext w w' := fun w => of15_c 1 20771 w
    have cO2 : ∀ w, Calls Tryd.prog 10 #[.int .u64 2, .int .u64 20771] w fun r w' => r = .returned (.agg (fcC (fOf 2 20771))) ∧ Ext w w' := fun w => of15_c 2 20771 w
    have cO3 : ∀ w, Calls Tryd.prog 10 #[.int .u64 1, .int .u64 2] w fun r w' => r = .returned (.agg (fcC (fOf 1 2))) ∧ Ext w w' := fun w => of15_c 1 2 w
    have cS1 : ∀ w, Calls Tryd.prog 11 #[.int .u64 1] w fun r w' => r = .returned (.agg (fcC (fAs 1))) ∧ Ext w w' := fun w => asid15_c 1 w
    have cS2 : ∀ w, Calls Tryd.prog 11 #[.int .u64 1] w fun r w' => r = .returned (.agg #[.bool false, .int .u64 0, .bool true, .int .u64 1]) ∧ Ext w w' := fun w => by
      have h := asid15_c 1 w
      rw [fAs_C] at h
      exact h
    have cD1 : ∀ w, Calls Tryd.prog 12 #[.int .u64 20480] w fun r w' => r = .returned (.agg (fcC (fAd 20480))) ∧ Ext w w' := fun w => addr15_c 20480 w
    have cD2 : ∀ w, Calls Tryd.prog 12 #[.int .u64 24576] w fun r w' => r = .returned (.agg #[.bool true, .int .u64 24576, .bool false, .int .u64 0]) ∧ Ext w w' := fun w => by
      have h := addr15_c 24576 w
      rw [fAd_C] at h
      exact h
    have cN1 := fun w k => names15_c (fOf 1 20771) (fOf_ok (by decide) (by decide)) F5 F5_may w k
    have cN2 := fun w k => names15_c (fOf 2 20771) (fOf_ok (by decide) (by decide)) F5 F5_may w k
    have cN3 := fun w k => names15_c (fAs 1) (fAs_ok (by decide)) G5 G5_may w k
    have cN4 := fun w k => names15_c (fAd 20480) (fAd_ok (by decide)) G5 G5_may w k
    have cN5 := fun w k => names15_c fc0 fc0_ok G5 G5_may w k
    have cN6 := fun w k => names15_c fc0 fc0_ok e0 may_e0 w k
    rw [n1] at cN1
    rw [n2] at cN2
    rw [n3] at cN3
    rw [n4] at cN4
    rw [n5] at cN5
    rw [nam_e0] at cN6
    have cDo := fun A c w h k => do15_c A T2 c T2_r (fAs 1) (fAs_ok (by decide)) w h k
    unfold MadeT at cDo
    rw [doF_len, T2_len] at cDo
    have ra1 := fun A c w h => rall14_c A (doF (fAs 1) T2) c (by rw [doF_len, T2_len]; decide) w h
    unfold MadeE at ra1
    rw [t1, doF_len, T2_len] at ra1
    have cAl : ∀ A c B d w, RowV KS w A T2 c → RowV KF w B [fAs 1, fAd 24576] d → Lays w → Calls Tryd.prog 18 #[.agg #[.slice A 1 c], .slice B 2 d] w fun r w' => ∃ A' c', r = .returned (.agg #[.slice A' 1 c']) ∧ RowV KS w' A' (allF [fAs 1, fAd 24576] T2) c' ∧ (∀ a, A' = some a → w.heap.size ≤ a.block) ∧ Ext w w' := fun A c B d w h hm k => by
      have h := all15_c A T2 c T2_r B [fAs 1, fAd 24576] d (fun i hi => by
        have hi2 : i < 2 := by simpa using hi
        rcases (by omega : i = 0 ∨ i = 1) with rfl | rfl
        · exact fAs_ok (by decide)
        · exact fAd_ok (by decide)) w h hm k
      unfold MadeT at h
      rw [T2_len, allF_len, T2_len] at h
      exact h
    have ra2 := fun A c w h => rall14_c A (allF [fAs 1, fAd 24576] T2) c (by rw [allF_len, T2_len]; decide) w h
    unfold MadeE at ra2
    rw [t2, allF_len, T2_len] at ra2
    have hm2 : ∀ w g, Blk w g 24 #[.bool false, .int .u64 0, .bool true, .int .u64 1, .bool true, .int .u64 24576, .bool false, .int .u64 0] → RowV KF w (some ⟨g, 0, none⟩) [fAs 1, fAd 24576] 2 := fun w g h => two_fc _ _ (by
      rw [show fAs 1 = ⟨false, 0, true, 1⟩ from by unfold fAs; rfl, show fAd 24576 = ⟨true, 24576, false, 0⟩ from by unfold fAd; rfl]
      exact h)
    have hef : ∀ w, (binOp .eql 24 (.agg (fcC (fOf 1 2))) (.agg (fcC (fOf 1 2)))).run Tryd.prog w = .ok (.bool true) w := fun w => by rw [eql_fc]; simp
    clear cp1 cp2 hmk hzr
    generalize doF (fAs 1) T2 = D1 at *
    generalize allF [fAs 1, fAd 24576] T2 = D2 at *
    generalize hL2 : [fAs 1, fAd 24576] = L2 at *
    go_wp2_with fail
    (try replace hm := Blk.drew hm); (try replace h1 := Blk.drew h1); (try replace h2 := Blk.drew h2); (try replace h3 := Blk.drew h3); replace HE := Lib.hid HE.out.drew
    replace r2 := r2.ext (Ext.refl _).drew
    refine wp_region_seq [(1, false), (0, true), (2, true), (3, false), (5, false), (4, true), (6, true), (7, false), (8, false), (9, false), (11, false), (10, true), (12, true), (13, false), (14, false), (15, false), (17, false), (16, true), (18, true), (19, false), (20, false), (21, false), (22, false), (23, true), (24, false), (25, false), (26, false), (27, false), (28, true), (29, false), (30, false), (31, false), (32, false), (33, true), (34, true), (35, true), (36, false), (37, false), (38, false), (39, false), (40, false), (41, true), (42, true), (43, true), (44, true), (45, true), (46, false), (47, false), (48, false), (49, false), (51, false), (50, true), (52, false), (53, false), (54, false)] Ext (by kernel_rfl) (by kernel_rfl) Ext.refl (fun _ _ _ => Ext.trans) ?_; simp only [List.map, nth_z, nth_s]
    (try simp only [Act.put, List.setIfInBounds_toArray, List.set_cons_zero, List.set_cons_succ])
    refine seq_load rfl rfl (fun x hx => Blk.ext (h1) hx) rfl Tryd.underlying28 (by kernel_rfl) (by rfl) ?_; intro K hK; simp only [Act.put, List.setIfInBounds_toArray, List.set_cons_zero, List.set_cons_succ]; refine hK _ ?_; clear hK K
    refine seq_call (cO1 _) rfl Tryd.func10 (by kernel_rfl) (by kernel_rfl) (by rfl) (by rfl) ?_; intro K hK; rintro e w' ⟨rfl, hE⟩; refine ⟨_, rfl, hE, ?_⟩; simp only [Act.put, List.setIfInBounds_toArray, List.set_cons_zero, List.set_cons_succ]; refine hK _ _ ?_; clear hK K; (try replace hm := hm.ext hE); (try replace h1 := h1.ext hE); (try replace h2 := h2.ext hE); (try replace h3 := h3.ext hE); (try replace HE := Lib.hid (HE.out.trans hE)); (try replace r0 := r0.ext hE); (try replace r1 := r1.ext hE); (try replace r2 := r2.ext hE); (try replace r3 := r3.ext hE); (try replace r4 := r4.ext hE); (try replace r5 := r5.ext hE); (try replace r6 := r6.ext hE); clear hE
    refine seq_call (cN1 _ (hT.ext HE.out)) rfl Tryd.func14 (by kernel_rfl) (by kernel_rfl) (by rfl) (by rfl) ?_; intro K hK; rintro e w' ⟨rfl, hE⟩; refine ⟨_, rfl, hE, ?_⟩; simp only [Act.put, List.setIfInBounds_toArray, List.set_cons_zero, List.set_cons_succ]; refine hK _ _ ?_; clear hK K; (try replace hm := hm.ext hE); (try replace h1 := h1.ext hE); (try replace h2 := h2.ext hE); (try replace h3 := h3.ext hE); (try replace HE := Lib.hid (HE.out.trans hE)); (try replace r0 := r0.ext hE); (try replace r1 := r1.ext hE); (try replace r2 := r2.ext hE); (try replace r3 := r3.ext hE); (try replace r4 := r4.ext hE); (try replace r5 := r5.ext hE); (try replace r6 := r6.ext hE); clear hE
    (repeat (first | (refine seq_skip (by rfl) ?_; intro K hK; simp only [Act.put, List.setIfInBounds_toArray, List.set_cons_zero, List.set_cons_succ]; refine hK _ ?_; clear hK K) | (refine seq_skipc (by rfl) ?_; intro K hK; simp only [Act.put, List.setIfInBounds_toArray, List.set_cons_zero, List.set_cons_succ]; refine hK _ ?_; clear hK K) | (refine seq_read (by rfl) (by rfl) ?_; intro K hK; go_big_quiet_op; first | go_big_quiet_on | (refine ⟨_, fun _ _ => rfl, ?_⟩; go_big_quiet_on))))
    refine seq_load rfl rfl (fun x hx => Blk.ext (h1) hx) rfl Tryd.underlying28 (by kernel_rfl) (by rfl) ?_; intro K hK; simp only [Act.put, List.setIfInBounds_toArray, List.set_cons_zero, List.set_cons_succ]; refine hK _ ?_; clear hK K
    refine seq_call (cO2 _) rfl Tryd.func10 (by kernel_rfl) (by kernel_rfl) (by rfl) (by rfl) ?_; intro K hK; rintro e w' ⟨rfl, hE⟩; refine ⟨_, rfl, hE, ?_⟩; simp only [Act.put, List.setIfInBounds_toArray, List.set_cons_zero, List.set_cons_succ]; refine hK _ _ ?_; clear hK K; (try replace hm := hm.ext hE); (try replace h1 := h1.ext hE); (try replace h2 := h2.ext hE); (try replace h3 := h3.ext hE); (try replace HE := Lib.hid (HE.out.trans hE)); (try replace r0 := r0.ext hE); (try replace r1 := r1.ext hE); (try replace r2 := r2.ext hE); (try replace r3 := r3.ext hE); (try replace r4 := r4.ext hE); (try replace r5 := r5.ext hE); (try replace r6 := r6.ext hE); clear hE
    refine seq_call (cN2 _ (hT.ext HE.out)) rfl Tryd.func14 (by kernel_rfl) (by kernel_rfl) (by rfl) (by rfl) ?_; intro K hK; rintro e w' ⟨rfl, hE⟩; refine ⟨_, rfl, hE, ?_⟩; simp only [Act.put, List.setIfInBounds_toArray, List.set_cons_zero, List.set_cons_succ]; refine hK _ _ ?_; clear hK K; (try replace hm := hm.ext hE); (try replace h1 := h1.ext hE); (try replace h2 := h2.ext hE); (try replace h3 := h3.ext hE); (try replace HE := Lib.hid (HE.out.trans hE)); (try replace r0 := r0.ext hE); (try replace r1 := r1.ext hE); (try replace r2 := r2.ext hE); (try replace r3 := r3.ext hE); (try replace r4 := r4.ext hE); (try replace r5 := r5.ext hE); (try replace r6 := r6.ext hE); clear hE
    (repeat (first | (refine seq_skip (by rfl) ?_; intro K hK; simp only [Act.put, List.setIfInBounds_toArray, List.set_cons_zero, List.set_cons_succ]; refine hK _ ?_; clear hK K) | (refine seq_skipc (by rfl) ?_; intro K hK; simp only [Act.put, List.setIfInBounds_toArray, List.set_cons_zero, List.set_cons_succ]; refine hK _ ?_; clear hK K) | (refine seq_read (by rfl) (by rfl) ?_; intro K hK; go_big_quiet_op; first | go_big_quiet_on | (refine ⟨_, fun _ _ => rfl, ?_⟩; go_big_quiet_on))))
    refine seq_load rfl rfl (fun x hx => Blk.ext (h2) hx) rfl Tryd.underlying28 (by kernel_rfl) (by rfl) ?_; intro K hK; simp only [Act.put, List.setIfInBounds_toArray, List.set_cons_zero, List.set_cons_succ]; refine hK _ ?_; clear hK K
    refine seq_call (cS1 _) rfl Tryd.func11 (by kernel_rfl) (by kernel_rfl) (by rfl) (by rfl) ?_; intro K hK; rintro e w' ⟨rfl, hE⟩; refine ⟨_, rfl, hE, ?_⟩; simp only [Act.put, List.setIfInBounds_toArray, List.set_cons_zero, List.set_cons_succ]; refine hK _ _ ?_; clear hK K; (try replace hm := hm.ext hE); (try replace h1 := h1.ext hE); (try replace h2 := h2.ext hE); (try replace h3 := h3.ext hE); (try replace HE := Lib.hid (HE.out.trans hE)); (try replace r0 := r0.ext hE); (try replace r1 := r1.ext hE); (try replace r2 := r2.ext hE); (try replace r3 := r3.ext hE); (try replace r4 := r4.ext hE); (try replace r5 := r5.ext hE); (try replace r6 := r6.ext hE); clear hE
    refine seq_call (cN3 _ (hT.ext HE.out)) rfl Tryd.func14 (by kernel_rfl) (by kernel_rfl) (by rfl) (by rfl) ?_; intro K hK; rintro e w' ⟨rfl, hE⟩; refine ⟨_, rfl, hE, ?_⟩; simp only [Act.put, List.setIfInBounds_toArray, List.set_cons_zero, List.set_cons_succ]; refine hK _ _ ?_; clear hK K; (try replace hm := hm.ext hE); (try replace h1 := h1.ext hE); (try replace h2 := h2.ext hE); (try replace h3 := h3.ext hE); (try replace HE := Lib.hid (HE.out.trans hE)); (try replace r0 := r0.ext hE); (try replace r1 := r1.ext hE); (try replace r2 := r2.ext hE); (try replace r3 := r3.ext hE); (try replace r4 := r4.ext hE); (try replace r5 := r5.ext hE); (try replace r6 := r6.ext hE); clear hE
    (repeat (first | (refine seq_skip (by rfl) ?_; intro K hK; simp only [Act.put, List.setIfInBounds_toArray, List.set_cons_zero, List.set_cons_succ]; refine hK _ ?_; clear hK K) | (refine seq_skipc (by rfl) ?_; intro K hK; simp only [Act.put, List.setIfInBounds_toArray, List.set_cons_zero, List.set_cons_succ]; refine hK _ ?_; clear hK K) | (refine seq_read (by rfl) (by rfl) ?_; intro K hK; go_big_quiet_op; first | go_big_quiet_on | (refine ⟨_, fun _ _ => rfl, ?_⟩; go_big_quiet_on))))
    refine seq_load rfl rfl (fun x hx => Blk.ext (h2) hx) rfl Tryd.underlying28 (by kernel_rfl) (by rfl) ?_; intro K hK; simp only [Act.put, List.setIfInBounds_toArray, List.set_cons_zero, List.set_cons_succ]; refine hK _ ?_; clear hK K
    refine seq_call (cD1 _) rfl Tryd.func12 (by kernel_rfl) (by kernel_rfl) (by rfl) (by rfl) ?_; intro K hK; rintro e w' ⟨rfl, hE⟩; refine ⟨_, rfl, hE, ?_⟩; simp only [Act.put, List.setIfInBounds_toArray, List.set_cons_zero, List.set_cons_succ]; refine hK _ _ ?_; clear hK K; (try replace hm := hm.ext hE); (try replace h1 := h1.ext hE); (try replace h2 := h2.ext hE); (try replace h3 := h3.ext hE); (try replace HE := Lib.hid (HE.out.trans hE)); (try replace r0 := r0.ext hE); (try replace r1 := r1.ext hE); (try replace r2 := r2.ext hE); (try replace r3 := r3.ext hE); (try replace r4 := r4.ext hE); (try replace r5 := r5.ext hE); (try replace r6 := r6.ext hE); clear hE
    refine seq_call (cN4 _ (hT.ext HE.out)) rfl Tryd.func14 (by kernel_rfl) (by kernel_rfl) (by rfl) (by rfl) ?_; intro K hK; rintro e w' ⟨rfl, hE⟩; refine ⟨_, rfl, hE, ?_⟩; simp only [Act.put, List.setIfInBounds_toArray, List.set_cons_zero, List.set_cons_succ]; refine hK _ _ ?_; clear hK K; (try replace hm := hm.ext hE); (try replace h1 := h1.ext hE); (try replace h2 := h2.ext hE); (try replace h3 := h3.ext hE); (try replace HE := Lib.hid (HE.out.trans hE)); (try replace r0 := r0.ext hE); (try replace r1 := r1.ext hE); (try replace r2 := r2.ext hE); (try replace r3 := r3.ext hE); (try replace r4 := r4.ext hE); (try replace r5 := r5.ext hE); (try replace r6 := r6.ext hE); clear hE
    (repeat (first | (refine seq_skip (by rfl) ?_; intro K hK; simp only [Act.put, List.setIfInBounds_toArray, List.set_cons_zero, List.set_cons_succ]; refine hK _ ?_; clear hK K) | (refine seq_skipc (by rfl) ?_; intro K hK; simp only [Act.put, List.setIfInBounds_toArray, List.set_cons_zero, List.set_cons_succ]; refine hK _ ?_; clear hK K) | (refine seq_read (by rfl) (by rfl) ?_; intro K hK; go_big_quiet_op; first | go_big_quiet_on | (refine ⟨_, fun _ _ => rfl, ?_⟩; go_big_quiet_on))))
    refine seq_build_as rfl (fc0_build) (by rfl) ?_; intro K hK; simp only [Act.put, List.setIfInBounds_toArray, List.set_cons_zero, List.set_cons_succ]; refine hK _ ?_; clear hK K
    refine seq_load rfl rfl (fun x hx => Blk.ext (h2) hx) rfl Tryd.underlying28 (by kernel_rfl) (by rfl) ?_; intro K hK; simp only [Act.put, List.setIfInBounds_toArray, List.set_cons_zero, List.set_cons_succ]; refine hK _ ?_; clear hK K
    refine seq_call (cN5 _ (hT.ext HE.out)) rfl Tryd.func14 (by kernel_rfl) (by kernel_rfl) (by rfl) (by rfl) ?_; intro K hK; rintro e w' ⟨rfl, hE⟩; refine ⟨_, rfl, hE, ?_⟩; simp only [Act.put, List.setIfInBounds_toArray, List.set_cons_zero, List.set_cons_succ]; refine hK _ _ ?_; clear hK K; (try replace hm := hm.ext hE); (try replace h1 := h1.ext hE); (try replace h2 := h2.ext hE); (try replace h3 := h3.ext hE); (try replace HE := Lib.hid (HE.out.trans hE)); (try replace r0 := r0.ext hE); (try replace r1 := r1.ext hE); (try replace r2 := r2.ext hE); (try replace r3 := r3.ext hE); (try replace r4 := r4.ext hE); (try replace r5 := r5.ext hE); (try replace r6 := r6.ext hE); clear hE
    (repeat (first | (refine seq_skip (by rfl) ?_; intro K hK; simp only [Act.put, List.setIfInBounds_toArray, List.set_cons_zero, List.set_cons_succ]; refine hK _ ?_; clear hK K) | (refine seq_skipc (by rfl) ?_; intro K hK; simp only [Act.put, List.setIfInBounds_toArray, List.set_cons_zero, List.set_cons_succ]; refine hK _ ?_; clear hK K) | (refine seq_read (by rfl) (by rfl) ?_; intro K hK; go_big_quiet_op; first | go_big_quiet_on | (refine ⟨_, fun _ _ => rfl, ?_⟩; go_big_quiet_on))))
    refine seq_build_as rfl (fc0_build) (by rfl) ?_; intro K hK; simp only [Act.put, List.setIfInBounds_toArray, List.set_cons_zero, List.set_cons_succ]; refine hK _ ?_; clear hK K
    refine seq_build_as rfl (e0_build) (by rfl) ?_; intro K hK; simp only [Act.put, List.setIfInBounds_toArray, List.set_cons_zero, List.set_cons_succ]; refine hK _ ?_; clear hK K
    refine seq_call (cN6 _ (hT.ext HE.out)) rfl Tryd.func14 (by kernel_rfl) (by kernel_rfl) (by rfl) (by rfl) ?_; intro K hK; rintro e w' ⟨rfl, hE⟩; refine ⟨_, rfl, hE, ?_⟩; simp only [Act.put, List.setIfInBounds_toArray, List.set_cons_zero, List.set_cons_succ]; refine hK _ _ ?_; clear hK K; (try replace hm := hm.ext hE); (try replace h1 := h1.ext hE); (try replace h2 := h2.ext hE); (try replace h3 := h3.ext hE); (try replace HE := Lib.hid (HE.out.trans hE)); (try replace r0 := r0.ext hE); (try replace r1 := r1.ext hE); (try replace r2 := r2.ext hE); (try replace r3 := r3.ext hE); (try replace r4 := r4.ext hE); (try replace r5 := r5.ext hE); (try replace r6 := r6.ext hE); clear hE
    clear cN1 cN2 cN3 cN4 cN5 cN6 cO1 cO2 cD1
    (repeat (first | (refine seq_skip (by rfl) ?_; intro K hK; simp only [Act.put, List.setIfInBounds_toArray, List.set_cons_zero, List.set_cons_succ]; refine hK _ ?_; clear hK K) | (refine seq_skipc (by rfl) ?_; intro K hK; simp only [Act.put, List.setIfInBounds_toArray, List.set_cons_zero, List.set_cons_succ]; refine hK _ ?_; clear hK K) | (refine seq_read (by rfl) (by rfl) ?_; intro K hK; go_big_quiet_op; first | go_big_quiet_on | (refine ⟨_, fun _ _ => rfl, ?_⟩; go_big_quiet_on))))
    refine seq_load rfl rfl (fun x hx => Blk.ext (h3) hx) rfl Tryd.underlying37 (by kernel_rfl) (by rfl) ?_; intro K hK; simp only [Act.put, List.setIfInBounds_toArray, List.set_cons_zero, List.set_cons_succ]; refine hK _ ?_; clear hK K
    refine seq_call (cS1 _) rfl Tryd.func11 (by kernel_rfl) (by kernel_rfl) (by rfl) (by rfl) ?_; intro K hK; rintro e w' ⟨rfl, hE⟩; refine ⟨_, rfl, hE, ?_⟩; simp only [Act.put, List.setIfInBounds_toArray, List.set_cons_zero, List.set_cons_succ]; refine hK _ _ ?_; clear hK K; (try replace hm := hm.ext hE); (try replace h1 := h1.ext hE); (try replace h2 := h2.ext hE); (try replace h3 := h3.ext hE); (try replace HE := Lib.hid (HE.out.trans hE)); (try replace r0 := r0.ext hE); (try replace r1 := r1.ext hE); (try replace r2 := r2.ext hE); (try replace r3 := r3.ext hE); (try replace r4 := r4.ext hE); (try replace r5 := r5.ext hE); (try replace r6 := r6.ext hE); clear hE
    refine seq_call (cDo _ _ _ r2 (hT.ext HE.out)) rfl Tryd.func20 (by kernel_rfl) (by kernel_rfl) (by rfl) (by rfl) ?_; intro K hK; rintro e w' ⟨A3, c3, rfl, r3, -, hE⟩; refine ⟨_, rfl, hE, ?_⟩; simp only [Act.put, List.setIfInBounds_toArray, List.set_cons_zero, List.set_cons_succ]; refine hK _ _ ?_; clear hK K; (try replace hm := hm.ext hE); (try replace h1 := h1.ext hE); (try replace h2 := h2.ext hE); (try replace h3 := h3.ext hE); (try replace HE := Lib.hid (HE.out.trans hE)); (try replace r0 := r0.ext hE); (try replace r1 := r1.ext hE); (try replace r2 := r2.ext hE); (try replace r3 := r3.ext hE); (try replace r4 := r4.ext hE); (try replace r5 := r5.ext hE); (try replace r6 := r6.ext hE); clear hE
    refine seq_call (ra1 _ _ _ r3) rfl Tryd.func22 (by kernel_rfl) (by kernel_rfl) (by rfl) (by rfl) ?_; intro K hK; rintro e w' ⟨A4, c4, rfl, -, -, hE⟩; refine ⟨_, rfl, hE, ?_⟩; simp only [Act.put, List.setIfInBounds_toArray, List.set_cons_zero, List.set_cons_succ]; refine hK _ _ ?_; clear hK K; (try replace hm := hm.ext hE); (try replace h1 := h1.ext hE); (try replace h2 := h2.ext hE); (try replace h3 := h3.ext hE); (try replace HE := Lib.hid (HE.out.trans hE)); (try replace r0 := r0.ext hE); (try replace r1 := r1.ext hE); (try replace r2 := r2.ext hE); (try replace r3 := r3.ext hE); (try replace r4 := r4.ext hE); (try replace r5 := r5.ext hE); (try replace r6 := r6.ext hE); clear hE
    (repeat (first | (refine seq_skip (by rfl) ?_; intro K hK; simp only [Act.put, List.setIfInBounds_toArray, List.set_cons_zero, List.set_cons_succ]; refine hK _ ?_; clear hK K) | (refine seq_skipc (by rfl) ?_; intro K hK; simp only [Act.put, List.setIfInBounds_toArray, List.set_cons_zero, List.set_cons_succ]; refine hK _ ?_; clear hK K) | (refine seq_read (by rfl) (by rfl) ?_; intro K hK; go_big_quiet_op; first | go_big_quiet_on | (refine ⟨_, fun _ _ => rfl, ?_⟩; go_big_quiet_on))))
    refine seq_load rfl rfl (fun x hx => Blk.ext (h3) hx) rfl Tryd.underlying37 (by kernel_rfl) (by rfl) ?_; intro K hK; simp only [Act.put, List.setIfInBounds_toArray, List.set_cons_zero, List.set_cons_succ]; refine hK _ ?_; clear hK K
    refine seq_call (cS2 _) rfl Tryd.func11 (by kernel_rfl) (by kernel_rfl) (by rfl) (by rfl) ?_; intro K hK; rintro e w' ⟨rfl, hE⟩; refine ⟨_, rfl, hE, ?_⟩; simp only [Act.put, List.setIfInBounds_toArray, List.set_cons_zero, List.set_cons_succ]; refine hK _ _ ?_; clear hK K; (try replace hm := hm.ext hE); (try replace h1 := h1.ext hE); (try replace h2 := h2.ext hE); (try replace h3 := h3.ext hE); (try replace HE := Lib.hid (HE.out.trans hE)); (try replace r0 := r0.ext hE); (try replace r1 := r1.ext hE); (try replace r2 := r2.ext hE); (try replace r3 := r3.ext hE); (try replace r4 := r4.ext hE); (try replace r5 := r5.ext hE); (try replace r6 := r6.ext hE); clear hE
    refine seq_call (cD2 _) rfl Tryd.func12 (by kernel_rfl) (by kernel_rfl) (by rfl) (by rfl) ?_; intro K hK; rintro e w' ⟨rfl, hE⟩; refine ⟨_, rfl, hE, ?_⟩; simp only [Act.put, List.setIfInBounds_toArray, List.set_cons_zero, List.set_cons_succ]; refine hK _ _ ?_; clear hK K; (try replace hm := hm.ext hE); (try replace h1 := h1.ext hE); (try replace h2 := h2.ext hE); (try replace h3 := h3.ext hE); (try replace HE := Lib.hid (HE.out.trans hE)); (try replace r0 := r0.ext hE); (try replace r1 := r1.ext hE); (try replace r2 := r2.ext hE); (try replace r3 := r3.ext hE); (try replace r4 := r4.ext hE); (try replace r5 := r5.ext hE); (try replace r6 := r6.ext hE); clear hE
    clear r3 cDo ra1
    refine seq_run (.slice (some ⟨w'.heap.size, 0, none⟩) 2 2) (w'.alloc (.cells #[.bool false, .int .u64 0, .bool true, .int .u64 1, .bool true, .int .u64 24576, .bool false, .int .u64 0] 24)) (by rfl) ?_ ((Ext.refl _).alloc _) ?_; (simp [go_sem, execOp, Act.eval]); intro K hK; simp only [Act.put, List.setIfInBounds_toArray, List.set_cons_zero, List.set_cons_succ]; refine hK _ _ ?_; clear hK K
    have hE := (Ext.refl w').alloc (.cells #[.bool false, .int .u64 0, .bool true, .int .u64 1, .bool true, .int .u64 24576, .bool false, .int .u64 0] 24)
    have q4 := hm2 _ _ (Blk.new w' _ _)
    (try replace hm := hm.ext hE); (try replace h1 := h1.ext hE); (try replace h2 := h2.ext hE); (try replace h3 := h3.ext hE); (try replace HE := Lib.hid (HE.out.trans hE)); (try replace r0 := r0.ext hE); (try replace r1 := r1.ext hE); (try replace r2 := r2.ext hE); (try replace r3 := r3.ext hE); (try replace r4 := r4.ext hE); (try replace r5 := r5.ext hE); (try replace r6 := r6.ext hE)
    clear hE
    refine seq_call (cAl _ _ _ _ _ r2 q4 (hT.ext HE.out)) rfl Tryd.func18 (by kernel_rfl) (by kernel_rfl) (by rfl) (by rfl) ?_; intro K hK; rintro e w' ⟨A5, c5, rfl, r5, -, hE⟩; refine ⟨_, rfl, hE, ?_⟩; simp only [Act.put, List.setIfInBounds_toArray, List.set_cons_zero, List.set_cons_succ]; refine hK _ _ ?_; clear hK K; (try replace hm := hm.ext hE); (try replace h1 := h1.ext hE); (try replace h2 := h2.ext hE); (try replace h3 := h3.ext hE); (try replace HE := Lib.hid (HE.out.trans hE)); (try replace r0 := r0.ext hE); (try replace r1 := r1.ext hE); (try replace r2 := r2.ext hE); (try replace r3 := r3.ext hE); (try replace r4 := r4.ext hE); (try replace r5 := r5.ext hE); (try replace r6 := r6.ext hE); clear hE
    clear q4
    refine seq_call (ra2 _ _ _ r5) rfl Tryd.func22 (by kernel_rfl) (by kernel_rfl) (by rfl) (by rfl) ?_; intro K hK; rintro e w' ⟨A6, c6, rfl, -, -, hE⟩; refine ⟨_, rfl, hE, ?_⟩; simp only [Act.put, List.setIfInBounds_toArray, List.set_cons_zero, List.set_cons_succ]; refine hK _ _ ?_; clear hK K; (try replace hm := hm.ext hE); (try replace h1 := h1.ext hE); (try replace h2 := h2.ext hE); (try replace h3 := h3.ext hE); (try replace HE := Lib.hid (HE.out.trans hE)); (try replace r0 := r0.ext hE); (try replace r1 := r1.ext hE); (try replace r2 := r2.ext hE); (try replace r3 := r3.ext hE); (try replace r4 := r4.ext hE); (try replace r5 := r5.ext hE); (try replace r6 := r6.ext hE); clear hE
    (repeat (first | (refine seq_skip (by rfl) ?_; intro K hK; simp only [Act.put, List.setIfInBounds_toArray, List.set_cons_zero, List.set_cons_succ]; refine hK _ ?_; clear hK K) | (refine seq_skipc (by rfl) ?_; intro K hK; simp only [Act.put, List.setIfInBounds_toArray, List.set_cons_zero, List.set_cons_succ]; refine hK _ ?_; clear hK K) | (refine seq_read (by rfl) (by rfl) ?_; intro K hK; go_big_quiet_op; first | go_big_quiet_on | (refine ⟨_, fun _ _ => rfl, ?_⟩; go_big_quiet_on))))
    refine seq_build_as rfl (f12_build) (by rfl) ?_; intro K hK; simp only [Act.put, List.setIfInBounds_toArray, List.set_cons_zero, List.set_cons_succ]; refine hK _ ?_; clear hK K
    refine seq_call (cO3 _) rfl Tryd.func10 (by kernel_rfl) (by kernel_rfl) (by rfl) (by rfl) ?_; intro K hK; rintro e w' ⟨rfl, hE⟩; refine ⟨_, rfl, hE, ?_⟩; simp only [Act.put, List.setIfInBounds_toArray, List.set_cons_zero, List.set_cons_succ]; refine hK _ _ ?_; clear hK K; (try replace hm := hm.ext hE); (try replace h1 := h1.ext hE); (try replace h2 := h2.ext hE); (try replace h3 := h3.ext hE); (try replace HE := Lib.hid (HE.out.trans hE)); (try replace r0 := r0.ext hE); (try replace r1 := r1.ext hE); (try replace r2 := r2.ext hE); (try replace r3 := r3.ext hE); (try replace r4 := r4.ext hE); (try replace r5 := r5.ext hE); (try replace r6 := r6.ext hE); clear hE
    refine seq_cmp rfl rfl rfl (fc_guard) (hef) (by rfl) ?_; intro K hK; simp only [Act.put, List.setIfInBounds_toArray, List.set_cons_zero, List.set_cons_succ]; refine hK _ ?_; clear hK K
    (repeat (first | (refine seq_skip (by rfl) ?_; intro K hK; simp only [Act.put, List.setIfInBounds_toArray, List.set_cons_zero, List.set_cons_succ]; refine hK _ ?_; clear hK K) | (refine seq_skipc (by rfl) ?_; intro K hK; simp only [Act.put, List.setIfInBounds_toArray, List.set_cons_zero, List.set_cons_succ]; refine hK _ ?_; clear hK K) | (refine seq_read (by rfl) (by rfl) ?_; intro K hK; go_big_quiet_op; first | go_big_quiet_on | (refine ⟨_, fun _ _ => rfl, ?_⟩; go_big_quiet_on))))
    refine seq_done ?_
    go_wp2
    go_ret
    exact ⟨rfl, HE.out⟩
end Go.Proofs.YtlimipjfdecbfaaDoor
/- FenceNames, FenceDoes. -/
namespace Go.Proofs.YtlimipjfdecbfaaDoor
open Go.ChangeShapes Go.WideShapes Go.ChangeAt Go.RowKit
set_option linter.unusedVariables false
set_option linter.unusedSimpArgs false

theorem fOf_build (n a : Nat) : Tryd.prog.built 24 [(0, .bool true), (1, .int .u64 (a : Int)), (2, .bool true), (3, .int .u64 (n : Int))] = some (fcC (fOf n a)) := by rw [fOf_C]; kernel_rfl
theorem fAs_build (n : Nat) : Tryd.prog.built 24 [(2, .bool true), (3, .int .u64 (n : Int))] = some (fcC (fAs n)) := by rw [fAs_C]; kernel_rfl
theorem fAd_build (a : Nat) : Tryd.prog.built 24 [(0, .bool true), (1, .int .u64 (a : Int))] = some (fcC (fAd a)) := by rw [fAd_C]; kernel_rfl
set_option maxRecDepth 100000 in
set_option maxHeartbeats 4000000 in
theorem FenceNames_w (f : Fc) (q : En) (n a : Nat) (hf : f.ok) (w : World) (hT : Lays w) :
    Calls Tryd.prog 3 #[.agg (fcC f), .agg (enC q), .int .u64 (n : Int), .int .u64 (a : Int)] w fun r w' => r = .returned (.bool true) ∧ Ext w w' := by
  obtain ⟨h1, h2⟩ := blk_two (Ext.refl ((w.alloc (.cells (fcC f) 24)).alloc (.cells (enC q) 28)))
  have HE := Lib.hid (((Ext.refl w).alloc (.cells (fcC f) 24)).alloc (.cells (enC q) 28))
  have ho : ∀ w, (binOp .neq 24 (.agg (fcC (fOf n a))) (.agg (fcC (fOf n a)))).run Tryd.prog w = .ok (.bool false) w := fun w => by rw [neq_fc]; simp
  have hs : ∀ w, (binOp .neq 24 (.agg (fcC (fAs n))) (.agg (fcC (fAs n)))).run Tryd.prog w = .ok (.bool false) w := fun w => by rw [neq_fc]; simp
  have hd : ∀ w, (binOp .neq 24 (.agg (fcC (fAd a))) (.agg (fcC (fAd a)))).run Tryd.prog w = .ok (.bool false) w := fun w => by rw [neq_fc]; simp
  have rme := fun w => rmay12_c q w
  cases hm : mayE q
  · rw [hm] at rme
    go_enter Tryd.func3, Tryd.ntmps3
    go_wp2_with (fail); refine (awake15_c _ (hT.ext HE.out)).mono ?_; rintro e w' ⟨rfl, hE⟩; (try replace hd := hd.ext hE); (try replace hm := hm.ext hE); (try replace h1 := h1.ext hE); (try replace h2 := h2.ext hE); (try replace HE := Lib.hid (HE.out.trans hE))
    clear hE
    go_wp2_with (fail); refine (of15_c n a _).mono ?_; rintro e w' ⟨rfl, hE⟩; (try replace hd := hd.ext hE); (try replace hm := hm.ext hE); (try replace h1 := h1.ext hE); (try replace h2 := h2.ext hE); (try replace HE := Lib.hid (HE.out.trans hE))
    clear hE
    go_wp2_with ((first | (refine wpList_build_as (by rfl) rfl (fOf_build n a) ?_) | (refine wpList_cmp (op := .neq) (by rfl) 24 rfl rfl rfl (fc_guard) (ho) ?_))); refine (asid15_c n _).mono ?_; rintro e w' ⟨rfl, hE⟩; (try replace hd := hd.ext hE); (try replace hm := hm.ext hE); (try replace h1 := h1.ext hE); (try replace h2 := h2.ext hE); (try replace HE := Lib.hid (HE.out.trans hE))
    clear hE
    go_wp2_with ((first | (refine wpList_build_as (by rfl) rfl (fAs_build n) ?_) | (refine wpList_cmp (op := .neq) (by rfl) 24 rfl rfl rfl (fc_guard) (hs) ?_))); refine (addr15_c a _).mono ?_; rintro e w' ⟨rfl, hE⟩; (try replace hd := hd.ext hE); (try replace hm := hm.ext hE); (try replace h1 := h1.ext hE); (try replace h2 := h2.ext hE); (try replace HE := Lib.hid (HE.out.trans hE))
    clear hE
    go_wp2_with (first | (refine wpList_build_as (by rfl) rfl (fAd_build a) ?_) | (refine wpList_cmp (op := .neq) (by rfl) 24 rfl rfl rfl (fc_guard) (hd) ?_))
    (try replace hd := Blk.drew hd); (try replace hm := Blk.drew hm); (try replace h1 := Blk.drew h1); (try replace h2 := Blk.drew h2); replace HE := Lib.hid HE.out.drew
    refine wp_region_seq [(0, false), (1, true), (2, false), (3, false), (4, false), (5, false), (7, false), (8, false), (6, true), (9, true), (10, false), (11, false), (12, false)] Ext (by kernel_rfl) (by kernel_rfl) Ext.refl (fun _ _ _ => Ext.trans) ?_; simp only [List.map, nth_z, nth_s]
    (try simp only [Act.put, List.setIfInBounds_toArray, List.set_cons_zero, List.set_cons_succ])
    refine seq_load rfl rfl (fun x hx => Blk.ext (h2) hx) rfl Tryd.underlying28 (by kernel_rfl) (by rfl) ?_; intro K hK; simp only [Act.put, List.setIfInBounds_toArray, List.set_cons_zero, List.set_cons_succ]; refine hK _ ?_; clear hK K
    refine seq_call (rme _) rfl Tryd.func13 (by kernel_rfl) (by kernel_rfl) (by rfl) (by rfl) ?_; intro K hK; rintro e w' ⟨rfl, hE⟩; refine ⟨_, rfl, hE, ?_⟩; simp only [Act.put, List.setIfInBounds_toArray, List.set_cons_zero, List.set_cons_succ]; refine hK _ _ ?_; clear hK K; (try replace hd := hd.ext hE); (try replace hm := hm.ext hE); (try replace h1 := h1.ext hE); (try replace h2 := h2.ext hE); (try replace HE := Lib.hid (HE.out.trans hE)); (try replace r0 := r0.ext hE); (try replace r1 := r1.ext hE); (try replace r2 := r2.ext hE); (try replace r3 := r3.ext hE); (try replace r4 := r4.ext hE); (try replace r5 := r5.ext hE); (try replace r6 := r6.ext hE); clear hE
    (repeat (first | (refine seq_skip (by rfl) ?_; intro K hK; simp only [Act.put, List.setIfInBounds_toArray, List.set_cons_zero, List.set_cons_succ]; refine hK _ ?_; clear hK K) | (refine seq_skipc (by rfl) ?_; intro K hK; simp only [Act.put, List.setIfInBounds_toArray, List.set_cons_zero, List.set_cons_succ]; refine hK _ ?_; clear hK K) | (refine seq_read (by rfl) (by rfl) ?_; intro K hK; go_big_quiet_op; first | go_big_quiet_on | (refine ⟨_, fun _ _ => rfl, ?_⟩; go_big_quiet_on))))
    refine seq_done ?_
    go_wp2
    go_ret
    exact ⟨rfl, HE.out⟩
  rw [hm] at rme
  have cnm := fun w k => names15_c f hf q hm w k
  have rnm := fun w => rnames15_c f hf q hm w
  generalize namF f q = B at *
  go_enter Tryd.func3, Tryd.ntmps3
  go_wp2_with (fail); refine (awake15_c _ (hT.ext HE.out)).mono ?_; rintro e w' ⟨rfl, hE⟩; (try replace hd := hd.ext hE); (try replace hm := hm.ext hE); (try replace h1 := h1.ext hE); (try replace h2 := h2.ext hE); (try replace HE := Lib.hid (HE.out.trans hE))
  clear hE
  go_wp2_with (fail); refine (of15_c n a _).mono ?_; rintro e w' ⟨rfl, hE⟩; (try replace hd := hd.ext hE); (try replace hm := hm.ext hE); (try replace h1 := h1.ext hE); (try replace h2 := h2.ext hE); (try replace HE := Lib.hid (HE.out.trans hE))
  clear hE
  go_wp2_with ((first | (refine wpList_build_as (by rfl) rfl (fOf_build n a) ?_) | (refine wpList_cmp (op := .neq) (by rfl) 24 rfl rfl rfl (fc_guard) (ho) ?_))); refine (asid15_c n _).mono ?_; rintro e w' ⟨rfl, hE⟩; (try replace hd := hd.ext hE); (try replace hm := hm.ext hE); (try replace h1 := h1.ext hE); (try replace h2 := h2.ext hE); (try replace HE := Lib.hid (HE.out.trans hE))
  clear hE
  go_wp2_with ((first | (refine wpList_build_as (by rfl) rfl (fAs_build n) ?_) | (refine wpList_cmp (op := .neq) (by rfl) 24 rfl rfl rfl (fc_guard) (hs) ?_))); refine (addr15_c a _).mono ?_; rintro e w' ⟨rfl, hE⟩; (try replace hd := hd.ext hE); (try replace hm := hm.ext hE); (try replace h1 := h1.ext hE); (try replace h2 := h2.ext hE); (try replace HE := Lib.hid (HE.out.trans hE))
  clear hE
  go_wp2_with (first | (refine wpList_build_as (by rfl) rfl (fAd_build a) ?_) | (refine wpList_cmp (op := .neq) (by rfl) 24 rfl rfl rfl (fc_guard) (hd) ?_))
  (try replace hd := Blk.drew hd); (try replace hm := Blk.drew hm); (try replace h1 := Blk.drew h1); (try replace h2 := Blk.drew h2); replace HE := Lib.hid HE.out.drew
  refine wp_region_seq [(0, false), (1, true), (2, false), (3, false), (4, false), (5, false), (7, false), (8, false), (6, true), (9, true), (10, false), (11, false), (12, false)] Ext (by kernel_rfl) (by kernel_rfl) Ext.refl (fun _ _ _ => Ext.trans) ?_; simp only [List.map, nth_z, nth_s]
  (try simp only [Act.put, List.setIfInBounds_toArray, List.set_cons_zero, List.set_cons_succ])
  refine seq_load rfl rfl (fun x hx => Blk.ext (h2) hx) rfl Tryd.underlying28 (by kernel_rfl) (by rfl) ?_; intro K hK; simp only [Act.put, List.setIfInBounds_toArray, List.set_cons_zero, List.set_cons_succ]; refine hK _ ?_; clear hK K
  refine seq_call (rme _) rfl Tryd.func13 (by kernel_rfl) (by kernel_rfl) (by rfl) (by rfl) ?_; intro K hK; rintro e w' ⟨rfl, hE⟩; refine ⟨_, rfl, hE, ?_⟩; simp only [Act.put, List.setIfInBounds_toArray, List.set_cons_zero, List.set_cons_succ]; refine hK _ _ ?_; clear hK K; (try replace hd := hd.ext hE); (try replace hm := hm.ext hE); (try replace h1 := h1.ext hE); (try replace h2 := h2.ext hE); (try replace HE := Lib.hid (HE.out.trans hE)); (try replace r0 := r0.ext hE); (try replace r1 := r1.ext hE); (try replace r2 := r2.ext hE); (try replace r3 := r3.ext hE); (try replace r4 := r4.ext hE); (try replace r5 := r5.ext hE); (try replace r6 := r6.ext hE); clear hE
  (repeat (first | (refine seq_skip (by rfl) ?_; intro K hK; simp only [Act.put, List.setIfInBounds_toArray, List.set_cons_zero, List.set_cons_succ]; refine hK _ ?_; clear hK K) | (refine seq_skipc (by rfl) ?_; intro K hK; simp only [Act.put, List.setIfInBounds_toArray, List.set_cons_zero, List.set_cons_succ]; refine hK _ ?_; clear hK K) | (refine seq_read (by rfl) (by rfl) ?_; intro K hK; go_big_quiet_op; first | go_big_quiet_on | (refine ⟨_, fun _ _ => rfl, ?_⟩; go_big_quiet_on))))
  refine seq_load rfl rfl (fun x hx => Blk.ext (h1) hx) rfl Tryd.underlying24 (by kernel_rfl) (by rfl) ?_; intro K hK; simp only [Act.put, List.setIfInBounds_toArray, List.set_cons_zero, List.set_cons_succ]; refine hK _ ?_; clear hK K
  refine seq_load rfl rfl (fun x hx => Blk.ext (h2) hx) rfl Tryd.underlying28 (by kernel_rfl) (by rfl) ?_; intro K hK; simp only [Act.put, List.setIfInBounds_toArray, List.set_cons_zero, List.set_cons_succ]; refine hK _ ?_; clear hK K
  (repeat (first | (refine seq_skip (by rfl) ?_; intro K hK; simp only [Act.put, List.setIfInBounds_toArray, List.set_cons_zero, List.set_cons_succ]; refine hK _ ?_; clear hK K) | (refine seq_skipc (by rfl) ?_; intro K hK; simp only [Act.put, List.setIfInBounds_toArray, List.set_cons_zero, List.set_cons_succ]; refine hK _ ?_; clear hK K) | (refine seq_read (by rfl) (by rfl) ?_; intro K hK; go_big_quiet_op; first | go_big_quiet_on | (refine ⟨_, fun _ _ => rfl, ?_⟩; go_big_quiet_on))))
  refine seq_load rfl rfl (fun x hx => Blk.ext (h1) hx) rfl Tryd.underlying24 (by kernel_rfl) (by rfl) ?_; intro K hK; simp only [Act.put, List.setIfInBounds_toArray, List.set_cons_zero, List.set_cons_succ]; refine hK _ ?_; clear hK K
  refine seq_load rfl rfl (fun x hx => Blk.ext (h2) hx) rfl Tryd.underlying28 (by kernel_rfl) (by rfl) ?_; intro K hK; simp only [Act.put, List.setIfInBounds_toArray, List.set_cons_zero, List.set_cons_succ]; refine hK _ ?_; clear hK K
  refine seq_call (cnm _ (hT.ext HE.out)) rfl Tryd.func14 (by kernel_rfl) (by kernel_rfl) (by rfl) (by rfl) ?_; intro K hK; rintro e w' ⟨rfl, hE⟩; refine ⟨_, rfl, hE, ?_⟩; simp only [Act.put, List.setIfInBounds_toArray, List.set_cons_zero, List.set_cons_succ]; refine hK _ _ ?_; clear hK K; (try replace hd := hd.ext hE); (try replace hm := hm.ext hE); (try replace h1 := h1.ext hE); (try replace h2 := h2.ext hE); (try replace HE := Lib.hid (HE.out.trans hE)); (try replace r0 := r0.ext hE); (try replace r1 := r1.ext hE); (try replace r2 := r2.ext hE); (try replace r3 := r3.ext hE); (try replace r4 := r4.ext hE); (try replace r5 := r5.ext hE); (try replace r6 := r6.ext hE); clear hE
  refine seq_call (rnm _) rfl Tryd.func15 (by kernel_rfl) (by kernel_rfl) (by rfl) (by rfl) ?_; intro K hK; rintro e w' ⟨rfl, hE⟩; refine ⟨_, rfl, hE, ?_⟩; simp only [Act.put, List.setIfInBounds_toArray, List.set_cons_zero, List.set_cons_succ]; refine hK _ _ ?_; clear hK K; (try replace hd := hd.ext hE); (try replace hm := hm.ext hE); (try replace h1 := h1.ext hE); (try replace h2 := h2.ext hE); (try replace HE := Lib.hid (HE.out.trans hE)); (try replace r0 := r0.ext hE); (try replace r1 := r1.ext hE); (try replace r2 := r2.ext hE); (try replace r3 := r3.ext hE); (try replace r4 := r4.ext hE); (try replace r5 := r5.ext hE); (try replace r6 := r6.ext hE); clear hE
  (repeat (first | (refine seq_skip (by rfl) ?_; intro K hK; simp only [Act.put, List.setIfInBounds_toArray, List.set_cons_zero, List.set_cons_succ]; refine hK _ ?_; clear hK K) | (refine seq_skipc (by rfl) ?_; intro K hK; simp only [Act.put, List.setIfInBounds_toArray, List.set_cons_zero, List.set_cons_succ]; refine hK _ ?_; clear hK K) | (refine seq_read (by rfl) (by rfl) ?_; intro K hK; go_big_quiet_op; first | go_big_quiet_on | (refine ⟨_, fun _ _ => rfl, ?_⟩; go_big_quiet_on))))
  refine seq_done ?_
  go_wp2
  go_ret
  exact ⟨by first | rfl | (cases B <;> rfl) | simp, HE.out⟩
set_option maxRecDepth 100000 in
set_option maxHeartbeats 4000000 in
theorem FenceDoes_w (A : Option Addr) (L : List St) (c : Nat) (B : Option Addr) (M : List Fc) (d : Nat) (hok : ∀ i, i < M.length → (M.getD i fc0).ok) (w : World) (hr : RowV KS w A L c) (hm : RowV KF w B M d) (hT : Lays w) :
    Calls Tryd.prog 4 #[.agg #[.slice A L.length c], .slice B M.length d] w fun r w' => r = .returned (.bool true) ∧ Ext w w' := by
  have h1 := Blk.new w 37 #[.slice A L.length c]
  have HE := Lib.hid ((Ext.refl w).alloc (.cells #[.slice A L.length c] 37))
  have hrow : ∀ W : World, Ext w W → RowV KS W A L c := fun W h => hr.ext h
  have hfow : ∀ W : World, Ext w W → RowV KF W B M d := fun W h => hm.ext h
  have hLm : L.length ≤ 9223372036854775807 := Nat.le_trans hr.2.2.1 hr.2.2.2
  have hMm : M.length ≤ 9223372036854775807 := Nat.le_trans hm.2.2.1 hm.2.2.2
  have crr := fun w h => rright14_c A L c hLm w h
  cases hrt : rightT L
  · rw [hrt] at crr
    clear hm hr
    go_enter Tryd.func4, Tryd.ntmps4
    go_wp2_with (fail); refine (awake15_c _ (hT.ext HE.out)).mono ?_; rintro e w' ⟨rfl, hE⟩; (try replace hm := hm.ext hE); (try replace h1 := h1.ext hE); (try replace HE := Lib.hid (HE.out.trans hE))
    clear hE
    go_wp2_with ((refine wpList_load_blk (by rfl) 37 _ rfl rfl (by first | exact h1) Tryd.underlying37 rfl (by kernel_rfl) ?_)); refine (crr _ (hrow _ HE.out)).mono ?_; rintro e w' ⟨rfl, hE⟩; (try replace hm := hm.ext hE); (try replace h1 := h1.ext hE); (try replace HE := Lib.hid (HE.out.trans hE))
    clear hE
    go_wp2_with (fail); refine (awake15_c _ (hT.ext HE.out)).mono ?_; rintro e w' ⟨rfl, hE⟩; (try replace hm := hm.ext hE); (try replace h1 := h1.ext hE); (try replace HE := Lib.hid (HE.out.trans hE))
    clear hE
    go_wp2
    go_ret
    exact ⟨rfl, HE.out⟩
  rw [hrt] at crr
  by_cases h50 : 50 < M.length
  · have d0 : decide (50 < (M.length : Int)) = true := by simp; omega
    clear h50 hm hr
    go_enter Tryd.func4, Tryd.ntmps4
    go_wp2_with (fail); refine (awake15_c _ (hT.ext HE.out)).mono ?_; rintro e w' ⟨rfl, hE⟩; (try replace hm := hm.ext hE); (try replace h1 := h1.ext hE); (try replace HE := Lib.hid (HE.out.trans hE))
    clear hE
    go_wp2_with ((refine wpList_load_blk (by rfl) 37 _ rfl rfl (by first | exact h1) Tryd.underlying37 rfl (by kernel_rfl) ?_)); refine (crr _ (hrow _ HE.out)).mono ?_; rintro e w' ⟨rfl, hE⟩; (try replace hm := hm.ext hE); (try replace h1 := h1.ext hE); (try replace HE := Lib.hid (HE.out.trans hE))
    clear hE
    go_wp2_with (fail); refine (awake15_c _ (hT.ext HE.out)).mono ?_; rintro e w' ⟨rfl, hE⟩; (try replace hm := hm.ext hE); (try replace h1 := h1.ext hE); (try replace HE := Lib.hid (HE.out.trans hE))
    clear hE
    go_wp2
    go_ret
    exact ⟨rfl, HE.out⟩
  have d0 : decide (50 < (M.length : Int)) = false := by simp; omega
  have hl16 := rt_len hrt
  have cal := fun w h hm k => all15_c A L c hrt B M d hok w h hm k
  have ral := fun w h hm => rall15_c A L c hrt B M d hok w h hm
  have hAl := allF_len M L
  unfold MadeT at cal
  unfold TlbA at ral
  rw [hAl] at cal ral
  have csm := fun A2 c2 A3 c3 w h k => rsame14_c A2 A3 (allF M L) (allF M L) c2 c3 (by omega) (by omega) w h k
  rw [hAl, show decide (allF M L = allF M L) = true by simp] at csm
  by_cases h0 : M.length = 0
  · have z0 : ((M.length : Int) == 0) = true := by rw [h0]; rfl
    generalize allF M L = P at *
    clear h50 h0 hm hr hok
    go_enter Tryd.func4, Tryd.ntmps4
    go_wp2_with (fail); refine (awake15_c _ (hT.ext HE.out)).mono ?_; rintro e w' ⟨rfl, hE⟩; (try replace hm := hm.ext hE); (try replace h1 := h1.ext hE); (try replace HE := Lib.hid (HE.out.trans hE))
    clear hE
    go_wp2_with ((refine wpList_load_blk (by rfl) 37 _ rfl rfl (by first | exact h1) Tryd.underlying37 rfl (by kernel_rfl) ?_)); refine (crr _ (hrow _ HE.out)).mono ?_; rintro e w' ⟨rfl, hE⟩; (try replace hm := hm.ext hE); (try replace h1 := h1.ext hE); (try replace HE := Lib.hid (HE.out.trans hE))
    clear hE
    clear crr
    go_wp2_with fail
    (try replace hm := Blk.drew hm); (try replace h1 := Blk.drew h1); replace HE := Lib.hid HE.out.drew
    refine wp_region_seq [(0, false), (1, false), (3, false), (4, false), (2, true), (5, true), (6, true), (7, false), (8, false), (9, false), (10, false), (11, false), (12, false), (13, false), (14, false), (15, false), (17, false), (18, false), (19, false), (20, false), (16, true), (21, true), (22, true), (23, false), (24, false), (25, false)] Ext (by kernel_rfl) (by kernel_rfl) Ext.refl (fun _ _ _ => Ext.trans) ?_; simp only [List.map, nth_z, nth_s]
    (try simp only [Act.put, List.setIfInBounds_toArray, List.set_cons_zero, List.set_cons_succ])
    refine seq_load rfl rfl (fun x hx => Blk.ext (h1) hx) rfl Tryd.underlying37 (by kernel_rfl) (by rfl) ?_; intro K hK; simp only [Act.put, List.setIfInBounds_toArray, List.set_cons_zero, List.set_cons_succ]; refine hK _ ?_; clear hK K
    (repeat (first | (refine seq_skip (by rfl) ?_; intro K hK; simp only [Act.put, List.setIfInBounds_toArray, List.set_cons_zero, List.set_cons_succ]; refine hK _ ?_; clear hK K) | (refine seq_skipc (by rfl) ?_; intro K hK; simp only [Act.put, List.setIfInBounds_toArray, List.set_cons_zero, List.set_cons_succ]; refine hK _ ?_; clear hK K) | (refine seq_read (by rfl) (by rfl) ?_; intro K hK; go_big_quiet_op; first | go_big_quiet_on | (refine ⟨_, fun _ _ => rfl, ?_⟩; go_big_quiet_on))))
    refine seq_load rfl rfl (fun x hx => Blk.ext (h1) hx) rfl Tryd.underlying37 (by kernel_rfl) (by rfl) ?_; intro K hK; simp only [Act.put, List.setIfInBounds_toArray, List.set_cons_zero, List.set_cons_succ]; refine hK _ ?_; clear hK K
    (repeat (first | (refine seq_skip (by rfl) ?_; intro K hK; simp only [Act.put, List.setIfInBounds_toArray, List.set_cons_zero, List.set_cons_succ]; refine hK _ ?_; clear hK K) | (refine seq_skipc (by rfl) ?_; intro K hK; simp only [Act.put, List.setIfInBounds_toArray, List.set_cons_zero, List.set_cons_succ]; refine hK _ ?_; clear hK K) | (refine seq_read (by rfl) (by rfl) ?_; intro K hK; go_big_quiet_op; first | go_big_quiet_on | (refine ⟨_, fun _ _ => rfl, ?_⟩; go_big_quiet_on))))
    refine seq_call (cal _ (hrow _ HE.out) (hfow _ HE.out) (hT.ext HE.out)) rfl Tryd.func18 (by kernel_rfl) (by kernel_rfl) (by rfl) (by rfl) ?_; intro K hK; rintro e w' ⟨A1, c1, rfl, r1, -, hE⟩; refine ⟨_, rfl, hE, ?_⟩; simp only [Act.put, List.setIfInBounds_toArray, List.set_cons_zero, List.set_cons_succ]; refine hK _ _ ?_; clear hK K; (try replace hm := hm.ext hE); (try replace h1 := h1.ext hE); (try replace HE := Lib.hid (HE.out.trans hE)); (try replace r0 := r0.ext hE); (try replace r1 := r1.ext hE); (try replace r2 := r2.ext hE); (try replace r3 := r3.ext hE); (try replace r4 := r4.ext hE); (try replace r5 := r5.ext hE); (try replace r6 := r6.ext hE); clear hE
    refine seq_call (ral _ (hrow _ HE.out) (hfow _ HE.out)) rfl Tryd.func19 (by kernel_rfl) (by kernel_rfl) (by rfl) (by rfl) ?_; intro K hK; rintro e w' ⟨A2, c2, rfl, r2, hE⟩; refine ⟨_, rfl, hE, ?_⟩; simp only [Act.put, List.setIfInBounds_toArray, List.set_cons_zero, List.set_cons_succ]; refine hK _ _ ?_; clear hK K; (try replace hm := hm.ext hE); (try replace h1 := h1.ext hE); (try replace HE := Lib.hid (HE.out.trans hE)); (try replace r0 := r0.ext hE); (try replace r1 := r1.ext hE); (try replace r2 := r2.ext hE); (try replace r3 := r3.ext hE); (try replace r4 := r4.ext hE); (try replace r5 := r5.ext hE); (try replace r6 := r6.ext hE); clear hE
    refine seq_call (csm _ _ _ _ _ r1 r2) rfl Tryd.func17 (by kernel_rfl) (by kernel_rfl) (by rfl) (by rfl) ?_; intro K hK; rintro e w' ⟨rfl, hE⟩; refine ⟨_, rfl, hE, ?_⟩; simp only [Act.put, List.setIfInBounds_toArray, List.set_cons_zero, List.set_cons_succ]; refine hK _ _ ?_; clear hK K; (try replace hm := hm.ext hE); (try replace h1 := h1.ext hE); (try replace HE := Lib.hid (HE.out.trans hE)); (try replace r0 := r0.ext hE); (try replace r1 := r1.ext hE); (try replace r2 := r2.ext hE); (try replace r3 := r3.ext hE); (try replace r4 := r4.ext hE); (try replace r5 := r5.ext hE); (try replace r6 := r6.ext hE); clear hE
    (repeat (first | (refine seq_skip (by rfl) ?_; intro K hK; simp only [Act.put, List.setIfInBounds_toArray, List.set_cons_zero, List.set_cons_succ]; refine hK _ ?_; clear hK K) | (refine seq_skipc (by rfl) ?_; intro K hK; simp only [Act.put, List.setIfInBounds_toArray, List.set_cons_zero, List.set_cons_succ]; refine hK _ ?_; clear hK K) | (refine seq_read (by rfl) (by rfl) ?_; intro K hK; go_big_quiet_op; first | go_big_quiet_on | (refine ⟨_, fun _ _ => rfl, ?_⟩; go_big_quiet_on))))
    refine seq_done ?_
    go_wp2
    go_ret
    exact ⟨rfl, HE.out⟩
  · have z0 : ((M.length : Int) == 0) = false := by rw [beq_eq_false_iff_ne]; omega
    have hkz : (0 : Int) < (M.length : Int) := by omega
    have hf := hok 0 (by omega)
    obtain ⟨b2, off2, rfl, hb2, hrx⟩ := hm.some (by omega)
    have e3 : w.rangeAt b2 off2 (fcC (M.getD 0 fc0)).toList := by have := hrx 0 (by omega); rw [Nat.zero_mul, Nat.add_zero] at this; exact this
    have cdo := fun w h k => do15_c A L c hrt (M.getD 0 fc0) hf w h k
    have rdo := fun w h => rdo15_c A L c hrt (M.getD 0 fc0) hf w h
    have hDl := doF_len (M.getD 0 fc0) L
    unfold MadeT at cdo rdo
    rw [hDl] at cdo rdo
    have csd := fun A2 c2 A3 c3 w h k => rsame14_c A2 A3 (doF (M.getD 0 fc0) L) (doF (M.getD 0 fc0) L) c2 c3 (by omega) (by omega) w h k
    rw [hDl, show decide (doF (M.getD 0 fc0) L = doF (M.getD 0 fc0) L) = true by simp] at csd
    clear hDl hrx hb2 hf h50 hr
    generalize doF (M.getD 0 fc0) L = D at *
    generalize M.getD 0 fc0 = f at *
    generalize allF M L = P at *
    clear h0 hm hok
    go_enter Tryd.func4, Tryd.ntmps4
    go_wp2_with (fail); refine (awake15_c _ (hT.ext HE.out)).mono ?_; rintro e w' ⟨rfl, hE⟩; (try replace hm := hm.ext hE); (try replace h1 := h1.ext hE); (try replace HE := Lib.hid (HE.out.trans hE))
    clear hE
    go_wp2_with ((refine wpList_load_blk (by rfl) 37 _ rfl rfl (by first | exact h1) Tryd.underlying37 rfl (by kernel_rfl) ?_)); refine (crr _ (hrow _ HE.out)).mono ?_; rintro e w' ⟨rfl, hE⟩; (try replace hm := hm.ext hE); (try replace h1 := h1.ext hE); (try replace HE := Lib.hid (HE.out.trans hE))
    clear hE
    clear crr
    go_wp2_with fail
    (try replace hm := Blk.drew hm); (try replace h1 := Blk.drew h1); replace HE := Lib.hid HE.out.drew
    refine wp_region_seq [(0, false), (1, false), (3, false), (4, false), (2, true), (5, true), (6, true), (7, false), (8, false), (9, false), (10, false), (11, false), (12, false), (13, false), (14, false), (15, false), (17, false), (18, false), (19, false), (20, false), (16, true), (21, true), (22, true), (23, false), (24, false), (25, false)] Ext (by kernel_rfl) (by kernel_rfl) Ext.refl (fun _ _ _ => Ext.trans) ?_; simp only [List.map, nth_z, nth_s]
    (try simp only [Act.put, List.setIfInBounds_toArray, List.set_cons_zero, List.set_cons_succ])
    refine seq_load rfl rfl (fun x hx => Blk.ext (h1) hx) rfl Tryd.underlying37 (by kernel_rfl) (by rfl) ?_; intro K hK; simp only [Act.put, List.setIfInBounds_toArray, List.set_cons_zero, List.set_cons_succ]; refine hK _ ?_; clear hK K
    (repeat (first | (refine seq_skip (by rfl) ?_; intro K hK; simp only [Act.put, List.setIfInBounds_toArray, List.set_cons_zero, List.set_cons_succ]; refine hK _ ?_; clear hK K) | (refine seq_skipc (by rfl) ?_; intro K hK; simp only [Act.put, List.setIfInBounds_toArray, List.set_cons_zero, List.set_cons_succ]; refine hK _ ?_; clear hK K) | (refine seq_read (by rfl) (by rfl) ?_; intro K hK; go_big_quiet_op; first | go_big_quiet_on | (refine ⟨_, fun _ _ => rfl, ?_⟩; go_big_quiet_on))))
    refine seq_load rfl rfl (fun x hx => Blk.ext (h1) hx) rfl Tryd.underlying37 (by kernel_rfl) (by rfl) ?_; intro K hK; simp only [Act.put, List.setIfInBounds_toArray, List.set_cons_zero, List.set_cons_succ]; refine hK _ ?_; clear hK K
    (repeat (first | (refine seq_skip (by rfl) ?_; intro K hK; simp only [Act.put, List.setIfInBounds_toArray, List.set_cons_zero, List.set_cons_succ]; refine hK _ ?_; clear hK K) | (refine seq_skipc (by rfl) ?_; intro K hK; simp only [Act.put, List.setIfInBounds_toArray, List.set_cons_zero, List.set_cons_succ]; refine hK _ ?_; clear hK K) | (refine seq_read (by rfl) (by rfl) ?_; intro K hK; go_big_quiet_op; first | go_big_quiet_on | (refine ⟨_, fun _ _ => rfl, ?_⟩; go_big_quiet_on))))
    refine seq_call (cal _ (hrow _ HE.out) (hfow _ HE.out) (hT.ext HE.out)) rfl Tryd.func18 (by kernel_rfl) (by kernel_rfl) (by rfl) (by rfl) ?_; intro K hK; rintro e w' ⟨A1, c1, rfl, r1, -, hE⟩; refine ⟨_, rfl, hE, ?_⟩; simp only [Act.put, List.setIfInBounds_toArray, List.set_cons_zero, List.set_cons_succ]; refine hK _ _ ?_; clear hK K; (try replace hm := hm.ext hE); (try replace h1 := h1.ext hE); (try replace HE := Lib.hid (HE.out.trans hE)); (try replace r0 := r0.ext hE); (try replace r1 := r1.ext hE); (try replace r2 := r2.ext hE); (try replace r3 := r3.ext hE); (try replace r4 := r4.ext hE); (try replace r5 := r5.ext hE); (try replace r6 := r6.ext hE); clear hE
    refine seq_call (ral _ (hrow _ HE.out) (hfow _ HE.out)) rfl Tryd.func19 (by kernel_rfl) (by kernel_rfl) (by rfl) (by rfl) ?_; intro K hK; rintro e w' ⟨A2, c2, rfl, r2, hE⟩; refine ⟨_, rfl, hE, ?_⟩; simp only [Act.put, List.setIfInBounds_toArray, List.set_cons_zero, List.set_cons_succ]; refine hK _ _ ?_; clear hK K; (try replace hm := hm.ext hE); (try replace h1 := h1.ext hE); (try replace HE := Lib.hid (HE.out.trans hE)); (try replace r0 := r0.ext hE); (try replace r1 := r1.ext hE); (try replace r2 := r2.ext hE); (try replace r3 := r3.ext hE); (try replace r4 := r4.ext hE); (try replace r5 := r5.ext hE); (try replace r6 := r6.ext hE); clear hE
    refine seq_call (csm _ _ _ _ _ r1 r2) rfl Tryd.func17 (by kernel_rfl) (by kernel_rfl) (by rfl) (by rfl) ?_; intro K hK; rintro e w' ⟨rfl, hE⟩; refine ⟨_, rfl, hE, ?_⟩; simp only [Act.put, List.setIfInBounds_toArray, List.set_cons_zero, List.set_cons_succ]; refine hK _ _ ?_; clear hK K; (try replace hm := hm.ext hE); (try replace h1 := h1.ext hE); (try replace HE := Lib.hid (HE.out.trans hE)); (try replace r0 := r0.ext hE); (try replace r1 := r1.ext hE); (try replace r2 := r2.ext hE); (try replace r3 := r3.ext hE); (try replace r4 := r4.ext hE); (try replace r5 := r5.ext hE); (try replace r6 := r6.ext hE); clear hE
    (repeat (first | (refine seq_skip (by rfl) ?_; intro K hK; simp only [Act.put, List.setIfInBounds_toArray, List.set_cons_zero, List.set_cons_succ]; refine hK _ ?_; clear hK K) | (refine seq_skipc (by rfl) ?_; intro K hK; simp only [Act.put, List.setIfInBounds_toArray, List.set_cons_zero, List.set_cons_succ]; refine hK _ ?_; clear hK K) | (refine seq_read (by rfl) (by rfl) ?_; intro K hK; go_big_quiet_op; first | go_big_quiet_on | (refine ⟨_, fun _ _ => rfl, ?_⟩; go_big_quiet_on))))
    refine seq_load rfl rfl (fun x hx => Blk.ext (h1) hx) rfl Tryd.underlying37 (by kernel_rfl) (by rfl) ?_; intro K hK; simp only [Act.put, List.setIfInBounds_toArray, List.set_cons_zero, List.set_cons_succ]; refine hK _ ?_; clear hK K
    (repeat (first | (refine seq_skip (by rfl) ?_; intro K hK; simp only [Act.put, List.setIfInBounds_toArray, List.set_cons_zero, List.set_cons_succ]; refine hK _ ?_; clear hK K) | (refine seq_skipc (by rfl) ?_; intro K hK; simp only [Act.put, List.setIfInBounds_toArray, List.set_cons_zero, List.set_cons_succ]; refine hK _ ?_; clear hK K) | (refine seq_read (by rfl) (by rfl) ?_; intro K hK; go_big_quiet_op; first | go_big_quiet_on | (refine ⟨_, fun _ _ => rfl, ?_⟩; go_big_quiet_on))))
    refine seq_load_rng rfl rfl ((fun x hx => rgx_ext (HE.out.trans hx) e3)) rfl Tryd.underlying24 (fc_info _) (by rfl) ?_; intro K hK; simp only [Act.put, List.setIfInBounds_toArray, List.set_cons_zero, List.set_cons_succ]; refine hK _ ?_; clear hK K
    refine seq_load rfl rfl (fun x hx => Blk.ext (h1) hx) rfl Tryd.underlying37 (by kernel_rfl) (by rfl) ?_; intro K hK; simp only [Act.put, List.setIfInBounds_toArray, List.set_cons_zero, List.set_cons_succ]; refine hK _ ?_; clear hK K
    (repeat (first | (refine seq_skip (by rfl) ?_; intro K hK; simp only [Act.put, List.setIfInBounds_toArray, List.set_cons_zero, List.set_cons_succ]; refine hK _ ?_; clear hK K) | (refine seq_skipc (by rfl) ?_; intro K hK; simp only [Act.put, List.setIfInBounds_toArray, List.set_cons_zero, List.set_cons_succ]; refine hK _ ?_; clear hK K) | (refine seq_read (by rfl) (by rfl) ?_; intro K hK; go_big_quiet_op; first | go_big_quiet_on | (refine ⟨_, fun _ _ => rfl, ?_⟩; go_big_quiet_on))))
    refine seq_load_rng rfl rfl ((fun x hx => rgx_ext (HE.out.trans hx) e3)) rfl Tryd.underlying24 (fc_info _) (by rfl) ?_; intro K hK; simp only [Act.put, List.setIfInBounds_toArray, List.set_cons_zero, List.set_cons_succ]; refine hK _ ?_; clear hK K
    refine seq_call (cdo _ (hrow _ HE.out) (hT.ext HE.out)) rfl Tryd.func20 (by kernel_rfl) (by kernel_rfl) (by rfl) (by rfl) ?_; intro K hK; rintro e w' ⟨A3, c3, rfl, r3, -, hE⟩; refine ⟨_, rfl, hE, ?_⟩; simp only [Act.put, List.setIfInBounds_toArray, List.set_cons_zero, List.set_cons_succ]; refine hK _ _ ?_; clear hK K; (try replace hm := hm.ext hE); (try replace h1 := h1.ext hE); (try replace HE := Lib.hid (HE.out.trans hE)); (try replace r0 := r0.ext hE); (try replace r1 := r1.ext hE); (try replace r2 := r2.ext hE); (try replace r3 := r3.ext hE); (try replace r4 := r4.ext hE); (try replace r5 := r5.ext hE); (try replace r6 := r6.ext hE); clear hE
    refine seq_call (rdo _ (hrow _ HE.out)) rfl Tryd.func21 (by kernel_rfl) (by kernel_rfl) (by rfl) (by rfl) ?_; intro K hK; rintro e w' ⟨A4, c4, rfl, r4, -, hE⟩; refine ⟨_, rfl, hE, ?_⟩; simp only [Act.put, List.setIfInBounds_toArray, List.set_cons_zero, List.set_cons_succ]; refine hK _ _ ?_; clear hK K; (try replace hm := hm.ext hE); (try replace h1 := h1.ext hE); (try replace HE := Lib.hid (HE.out.trans hE)); (try replace r0 := r0.ext hE); (try replace r1 := r1.ext hE); (try replace r2 := r2.ext hE); (try replace r3 := r3.ext hE); (try replace r4 := r4.ext hE); (try replace r5 := r5.ext hE); (try replace r6 := r6.ext hE); clear hE
    refine seq_call (csd _ _ _ _ _ r3 r4) rfl Tryd.func17 (by kernel_rfl) (by kernel_rfl) (by rfl) (by rfl) ?_; intro K hK; rintro e w' ⟨rfl, hE⟩; refine ⟨_, rfl, hE, ?_⟩; simp only [Act.put, List.setIfInBounds_toArray, List.set_cons_zero, List.set_cons_succ]; refine hK _ _ ?_; clear hK K; (try replace hm := hm.ext hE); (try replace h1 := h1.ext hE); (try replace HE := Lib.hid (HE.out.trans hE)); (try replace r0 := r0.ext hE); (try replace r1 := r1.ext hE); (try replace r2 := r2.ext hE); (try replace r3 := r3.ext hE); (try replace r4 := r4.ext hE); (try replace r5 := r5.ext hE); (try replace r6 := r6.ext hE); clear hE
    (repeat (first | (refine seq_skip (by rfl) ?_; intro K hK; simp only [Act.put, List.setIfInBounds_toArray, List.set_cons_zero, List.set_cons_succ]; refine hK _ ?_; clear hK K) | (refine seq_skipc (by rfl) ?_; intro K hK; simp only [Act.put, List.setIfInBounds_toArray, List.set_cons_zero, List.set_cons_succ]; refine hK _ ?_; clear hK K) | (refine seq_read (by rfl) (by rfl) ?_; intro K hK; go_big_quiet_op; first | go_big_quiet_on | (refine ⟨_, fun _ _ => rfl, ?_⟩; go_big_quiet_on))))
    refine seq_done ?_
    go_wp2
    go_ret
    exact ⟨rfl, HE.out⟩
end Go.Proofs.YtlimipjfdecbfaaDoor
