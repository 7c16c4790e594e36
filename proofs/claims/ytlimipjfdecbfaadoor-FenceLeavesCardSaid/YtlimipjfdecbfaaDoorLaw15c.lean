/- FenceLeaves. -/
import Derived.Test.YtlimipjfdecbfaaDoorLaw15ab
namespace Go.Proofs.YtlimipjfdecbfaaDoor
open Go.ChangeShapes Go.WideShapes Go.ChangeAt Go.RowKit
set_option linter.unusedVariables false
set_option linter.unusedSimpArgs false

theorem do_at (f : Fc) {L : List St} {i k : Nat} (hi : i < L.length) (hk : k < 4) : (sT (doF f L) i).ws.at k = if namF f ((sT L i).ws.at k) then e0 else (sT L i).ws.at k := by
  have h : doF f L = zapT (namF f) L := by unfold doF; rfl
  rw [h, sT_zap _ hi]
  have h2 : zapS (namF f) (sT L i) = ⟨zapW (namF f) (sT L i).ws, (sT L i).t⟩ := by unfold zapS; rfl
  rw [h2]
  exact zapW_at _ _ hk
theorem do_t (f : Fc) {L : List St} {i : Nat} (hi : i < L.length) : (sT (doF f L) i).t = (sT L i).t := by
  have h : doF f L = zapT (namF f) L := by unfold doF; rfl
  rw [h, sT_zap _ hi]
  unfold zapS; rfl
set_option maxRecDepth 100000 in
set_option maxHeartbeats 8000000 in
theorem FenceLeaves_w (A : Option Addr) (L : List St) (c : Nat) (f g : Fc) (hf : f.ok) (hg : g.ok) (w : World) (hr : RowV KS w A L c) (hT : Lays w) :
    Calls Tryd.prog 5 #[.agg #[.slice A L.length c], .agg (fcC f), .agg (fcC g)] w fun r w' => r = .returned (.bool true) ∧ Ext w w' := by
  have h1 : Blk (((w.alloc (.cells #[.slice A L.length c] 37)).alloc (.cells (fcC f) 24)).alloc (.cells (fcC g) 24)) w.heap.size 37 #[.slice A L.length c] := ((Blk.new w _ _).alloc _).alloc _
  have h2 : Blk (((w.alloc (.cells #[.slice A L.length c] 37)).alloc (.cells (fcC f) 24)).alloc (.cells (fcC g) 24)) (w.heap.size + 1) 24 (fcC f) := (blk_at (by simp)).alloc _
  have h3 : Blk (((w.alloc (.cells #[.slice A L.length c] 37)).alloc (.cells (fcC f) 24)).alloc (.cells (fcC g) 24)) (w.heap.size + 2) 24 (fcC g) := blk_at (by simp)
  have HE := Lib.hid ((((Ext.refl w).alloc (.cells #[.slice A L.length c] 37)).alloc (.cells (fcC f) 24)).alloc (.cells (fcC g) 24))
  have hrow : ∀ W : World, Ext w W → RowV KS W A L c := fun W h => hr.ext h
  have hLm : L.length ≤ 9223372036854775807 := Nat.le_trans hr.2.2.1 hr.2.2.2
  have crr := fun w h => rright14_c A L c hLm w h
  clear hr
  cases hrt : rightT L
  · rw [hrt] at crr
    go_enter Tryd.func5, Tryd.ntmps5
    go_wp2_with (fail); refine (awake15_c _ (hT.ext HE.out)).mono ?_; rintro e w' ⟨rfl, hE⟩; (try replace hb := hb.ext hE); (try replace hm := hm.ext hE); (try replace h1 := h1.ext hE); (try replace h2 := h2.ext hE); (try replace h3 := h3.ext hE); (try replace h6 := h6.ext hE); (try replace h7 := h7.ext hE); (try replace k2 := k2.ext hE); (try replace k3 := k3.ext hE); (try replace HE := Lib.hid (HE.out.trans hE))
    clear hE
    go_wp2_with ((refine wpList_load_blk (by rfl) 37 _ rfl rfl (by first | exact h1 | exact h2 | exact h3 | exact h6 | exact h7 | exact k2 | exact k3 | exact hb) Tryd.underlying37 rfl (by kernel_rfl) ?_)); refine (crr _ (hrow _ HE.out)).mono ?_; rintro e w' ⟨rfl, hE⟩; (try replace hb := hb.ext hE); (try replace hm := hm.ext hE); (try replace h1 := h1.ext hE); (try replace h2 := h2.ext hE); (try replace h3 := h3.ext hE); (try replace h6 := h6.ext hE); (try replace h7 := h7.ext hE); (try replace k2 := k2.ext hE); (try replace k3 := k3.ext hE); (try replace HE := Lib.hid (HE.out.trans hE))
    clear hE
    go_wp2_with (fail); refine (awake15_c _ (hT.ext HE.out)).mono ?_; rintro e w' ⟨rfl, hE⟩; (try replace hb := hb.ext hE); (try replace hm := hm.ext hE); (try replace h1 := h1.ext hE); (try replace h2 := h2.ext hE); (try replace h3 := h3.ext hE); (try replace h6 := h6.ext hE); (try replace h7 := h7.ext hE); (try replace k2 := k2.ext hE); (try replace k3 := k3.ext hE); (try replace HE := Lib.hid (HE.out.trans hE))
    clear hE
    go_wp2
    go_ret
    exact ⟨rfl, HE.out⟩
  rw [hrt] at crr
  have hl16 := rt_len hrt
  have cdo := fun w h k => do15_c A L c hrt f hf w h k
  have hDl := doF_len f L
  have hDr := rt_doF hrt f
  have hat := fun i k (hi : i < L.length) (hk : k < 4) => do_at f hi hk
  have hdt := fun i (hi : i < L.length) => do_t f hi
  have cd2 := fun A c w h k => do15_c A (doF f L) c hDr f hf w h k
  have cr6 := fun A c w h => rright14_c A (doF f L) c (by omega) w h
  have csd := fun A2 c2 A3 c3 w h k => rsame14_c A2 A3 (doF f L) (doF f L) c2 c3 (by omega) (by omega) w h k
  unfold MadeT at cdo cd2
  rw [doF_twice, hDl] at cd2
  rw [hDl] at cdo csd cr6
  rw [hDr] at cr6
  rw [show decide (doF f L = doF f L) = true by simp] at csd
  have hmay := fun (i y : Nat) (hi : i < L.length) (hy : y < 4) => rt_may hrt hi hy
  have cA1 : ∀ B d w, RowV KS w A L c → RowV KF w B [f, g] d → Lays w → Calls Tryd.prog 18 #[.agg #[.slice A L.length c], .slice B 2 d] w fun r w' => ∃ A' c', r = .returned (.agg #[.slice A' L.length c']) ∧ RowV KS w' A' (allF [f, g] L) c' ∧ (∀ a, A' = some a → w.heap.size ≤ a.block) ∧ Ext w w' := fun B d w h hm k => by
    have h := all15_c A L c hrt B [f, g] d (fun i hi => by
      have hi2 : i < 2 := by simpa using hi
      rcases (by omega : i = 0 ∨ i = 1) with rfl | rfl
      · exact hf
      · exact hg) w h hm k
    unfold MadeT at h
    rw [allF_len] at h
    exact h
  have cA2 : ∀ B d w, RowV KS w A L c → RowV KF w B [g, f] d → Lays w → Calls Tryd.prog 18 #[.agg #[.slice A L.length c], .slice B 2 d] w fun r w' => ∃ A' c', r = .returned (.agg #[.slice A' L.length c']) ∧ RowV KS w' A' (allF [f, g] L) c' ∧ (∀ a, A' = some a → w.heap.size ≤ a.block) ∧ Ext w w' := fun B d w h hm k => by
    have h := all15_c A L c hrt B [g, f] d (fun i hi => by
      have hi2 : i < 2 := by simpa using hi
      rcases (by omega : i = 0 ∨ i = 1) with rfl | rfl
      · exact hg
      · exact hf) w h hm k
    unfold MadeT at h
    rw [allF_len, allF_swap] at h
    exact h
  have csa := fun A2 c2 A3 c3 w h k => rsame14_c A2 A3 (allF [f, g] L) (allF [f, g] L) c2 c3 (by rw [allF_len]; omega) (by rw [allF_len]; omega) w h k
  rw [allF_len, show decide (allF [f, g] L = allF [f, g] L) = true by simp] at csa
  have cd0 := fun w h k => do15_c A L c hrt fc0 fc0_ok w h k
  have ral := fun A c w h => rall14_c A (doF fc0 L) c (by rw [doF_len]; omega) w h
  unfold MadeT at cd0
  unfold MadeE at ral
  rw [doF_len] at cd0 ral
  rw [do_none] at ral
  generalize allF [f, g] L = P at *
  generalize doF fc0 L = D0 at *
  have cnm := fun q hm w k => names15_c f hf q hm w k
  have hnn : ((L.length : Int) != (L.length : Int)) = false := by simp
  clear hrt
  go_enter Tryd.func5, Tryd.ntmps5
  go_wp2_with (fail); refine (awake15_c _ (hT.ext HE.out)).mono ?_; rintro e w' ⟨rfl, hE⟩; (try replace hb := hb.ext hE); (try replace hm := hm.ext hE); (try replace h1 := h1.ext hE); (try replace h2 := h2.ext hE); (try replace h3 := h3.ext hE); (try replace h6 := h6.ext hE); (try replace h7 := h7.ext hE); (try replace k2 := k2.ext hE); (try replace k3 := k3.ext hE); (try replace HE := Lib.hid (HE.out.trans hE))
  clear hE
  go_wp2_with ((refine wpList_load_blk (by rfl) 37 _ rfl rfl (by first | exact h1 | exact h2 | exact h3 | exact h6 | exact h7 | exact k2 | exact k3 | exact hb) Tryd.underlying37 rfl (by kernel_rfl) ?_)); refine (crr _ (hrow _ HE.out)).mono ?_; rintro e w' ⟨rfl, hE⟩; (try replace hb := hb.ext hE); (try replace hm := hm.ext hE); (try replace h1 := h1.ext hE); (try replace h2 := h2.ext hE); (try replace h3 := h3.ext hE); (try replace h6 := h6.ext hE); (try replace h7 := h7.ext hE); (try replace k2 := k2.ext hE); (try replace k3 := k3.ext hE); (try replace HE := Lib.hid (HE.out.trans hE))
  clear hE
  clear crr
  go_wp2_with ((first | (refine wpList_load_blk (by rfl) 37 _ rfl rfl (by first | exact h1 | exact h2 | exact h3 | exact h6 | exact h7 | exact k2 | exact k3 | exact hb) Tryd.underlying37 rfl (by kernel_rfl) ?_) | (refine wpList_load_blk (by rfl) 24 _ rfl rfl (by first | exact h1 | exact h2 | exact h3 | exact h6 | exact h7 | exact k2 | exact k3 | exact hb) Tryd.underlying24 rfl (by kernel_rfl) ?_))); refine (cdo _ (hrow _ HE.out) (hT.ext HE.out)).mono ?_; rintro e w' ⟨A6, c6, rfl, r6, -, hE⟩; (try replace hb := hb.ext hE); (try replace hm := hm.ext hE); (try replace h1 := h1.ext hE); (try replace h2 := h2.ext hE); (try replace h3 := h3.ext hE); (try replace h6 := h6.ext hE); (try replace h7 := h7.ext hE); (try replace k2 := k2.ext hE); (try replace k3 := k3.ext hE); (try replace HE := Lib.hid (HE.out.trans hE)); (try replace r0 := r0.ext hE); (try replace r1 := r1.ext hE); (try replace r2 := r2.ext hE); (try replace r3 := r3.ext hE); (try replace r4 := r4.ext hE); (try replace r5 := r5.ext hE); (try replace r6 := r6.ext hE); clear hE
  have hE := (Ext.refl w').alloc (.cells (#[.slice A6 L.length c6]) 37); (try replace hb := hb.ext hE); (try replace hm := hm.ext hE); (try replace h1 := h1.ext hE); (try replace h2 := h2.ext hE); (try replace h3 := h3.ext hE); (try replace h6 := h6.ext hE); (try replace h7 := h7.ext hE); (try replace k2 := k2.ext hE); (try replace k3 := k3.ext hE); (try replace HE := Lib.hid (HE.out.trans hE)); (try replace r0 := r0.ext hE); (try replace r1 := r1.ext hE); (try replace r2 := r2.ext hE); (try replace r3 := r3.ext hE); (try replace r4 := r4.ext hE); (try replace r5 := r5.ext hE); (try replace r6 := r6.ext hE); clear hE; have h6 := Blk.new w' 37 (#[.slice A6 L.length c6]); go_upto_region 4 with (fail); generalize w'.heap.size = g6 at *; generalize w'.alloc (.cells (#[.slice A6 L.length c6]) 37) = W6 at *
  clear cdo
  (try replace hb := Blk.drew hb); (try replace hm := Blk.drew hm); (try replace h1 := Blk.drew h1); (try replace h2 := Blk.drew h2); (try replace h3 := Blk.drew h3); (try replace h6 := Blk.drew h6); (try replace h7 := Blk.drew h7); (try replace k2 := Blk.drew k2); (try replace k3 := Blk.drew k3); replace HE := Lib.hid HE.out.drew
  replace r6 := r6.ext (Ext.refl _).drew
  refine wp_region_seq [(0, false), (1, false), (2, false), (3, false), (4, false), (5, false), (6, false), (7, false), (8, false), (9, true), (10, false), (11, false), (12, false), (13, false), (14, false), (16, false), (15, true), (17, true), (18, false), (19, false)] Ext (by kernel_rfl) (by kernel_rfl) Ext.refl (fun _ _ _ => Ext.trans) ?_; simp only [List.map, nth_z, nth_s]
  (try simp only [Act.put, List.setIfInBounds_toArray, List.set_cons_zero, List.set_cons_succ])
  (repeat (first | (refine seq_skip (by rfl) ?_; intro K hK; simp only [Act.put, List.setIfInBounds_toArray, List.set_cons_zero, List.set_cons_succ]; refine hK _ ?_; clear hK K) | (refine seq_skipc (by rfl) ?_; intro K hK; simp only [Act.put, List.setIfInBounds_toArray, List.set_cons_zero, List.set_cons_succ]; refine hK _ ?_; clear hK K) | (refine seq_read (by rfl) (by rfl) ?_; intro K hK; go_big_quiet_op; first | go_big_quiet_on | (refine ⟨_, fun _ _ => rfl, ?_⟩; go_big_quiet_on))))
  refine seq_value ((.slice A6 L.length c6)) (by rfl) (fun x hx => by have hq := ext_cell hx ((h6.cell 0).trans rfl); simp [go_sem, execOp, Act.eval, hq]) ?_; intro K hK; simp only [Act.put, List.setIfInBounds_toArray, List.set_cons_zero, List.set_cons_succ]; refine hK _ ?_; clear hK K
  (repeat (first | (refine seq_skip (by rfl) ?_; intro K hK; simp only [Act.put, List.setIfInBounds_toArray, List.set_cons_zero, List.set_cons_succ]; refine hK _ ?_; clear hK K) | (refine seq_skipc (by rfl) ?_; intro K hK; simp only [Act.put, List.setIfInBounds_toArray, List.set_cons_zero, List.set_cons_succ]; refine hK _ ?_; clear hK K) | (refine seq_read (by rfl) (by rfl) ?_; intro K hK; go_big_quiet_op; first | go_big_quiet_on | (refine ⟨_, fun _ _ => rfl, ?_⟩; go_big_quiet_on))))
  refine seq_value ((.slice A L.length c)) (by rfl) (fun x hx => by have hq := ext_cell hx ((h1.cell 0).trans rfl); simp [go_sem, execOp, Act.eval, hq]) ?_; intro K hK; simp only [Act.put, List.setIfInBounds_toArray, List.set_cons_zero, List.set_cons_succ]; refine hK _ ?_; clear hK K
  (repeat (first | (refine seq_skip (by rfl) ?_; intro K hK; simp only [Act.put, List.setIfInBounds_toArray, List.set_cons_zero, List.set_cons_succ]; refine hK _ ?_; clear hK K) | (refine seq_skipc (by rfl) ?_; intro K hK; simp only [Act.put, List.setIfInBounds_toArray, List.set_cons_zero, List.set_cons_succ]; refine hK _ ?_; clear hK K) | (refine seq_read (by rfl) (by rfl) ?_; intro K hK; go_big_quiet_op; first | go_big_quiet_on | (refine ⟨_, fun _ _ => rfl, ?_⟩; go_big_quiet_on))))
  refine seq_load rfl rfl (fun x hx => Blk.ext (h6) hx) rfl Tryd.underlying37 (by kernel_rfl) (by rfl) ?_; intro K hK; simp only [Act.put, List.setIfInBounds_toArray, List.set_cons_zero, List.set_cons_succ]; refine hK _ ?_; clear hK K
  refine seq_call (cr6 _ _ _ r6) rfl Tryd.func16 (by kernel_rfl) (by kernel_rfl) (by rfl) (by rfl) ?_; intro K hK; rintro e w' ⟨rfl, hE⟩; refine ⟨_, rfl, hE, ?_⟩; simp only [Act.put, List.setIfInBounds_toArray, List.set_cons_zero, List.set_cons_succ]; refine hK _ _ ?_; clear hK K; (try replace hb := hb.ext hE); (try replace hm := hm.ext hE); (try replace h1 := h1.ext hE); (try replace h2 := h2.ext hE); (try replace h3 := h3.ext hE); (try replace h6 := h6.ext hE); (try replace h7 := h7.ext hE); (try replace k2 := k2.ext hE); (try replace k3 := k3.ext hE); (try replace HE := Lib.hid (HE.out.trans hE)); (try replace r0 := r0.ext hE); (try replace r1 := r1.ext hE); (try replace r2 := r2.ext hE); (try replace r3 := r3.ext hE); (try replace r4 := r4.ext hE); (try replace r5 := r5.ext hE); (try replace r6 := r6.ext hE); clear hE
  (repeat (first | (refine seq_skip (by rfl) ?_; intro K hK; simp only [Act.put, List.setIfInBounds_toArray, List.set_cons_zero, List.set_cons_succ]; refine hK _ ?_; clear hK K) | (refine seq_skipc (by rfl) ?_; intro K hK; simp only [Act.put, List.setIfInBounds_toArray, List.set_cons_zero, List.set_cons_succ]; refine hK _ ?_; clear hK K) | (refine seq_read (by rfl) (by rfl) ?_; intro K hK; go_big_quiet_op; first | go_big_quiet_on | (refine ⟨_, fun _ _ => rfl, ?_⟩; go_big_quiet_on))))
  refine seq_load rfl rfl (fun x hx => Blk.ext (h6) hx) rfl Tryd.underlying37 (by kernel_rfl) (by rfl) ?_; intro K hK; simp only [Act.put, List.setIfInBounds_toArray, List.set_cons_zero, List.set_cons_succ]; refine hK _ ?_; clear hK K
  refine seq_load rfl rfl (fun x hx => Blk.ext (h2) hx) rfl Tryd.underlying24 (by kernel_rfl) (by rfl) ?_; intro K hK; simp only [Act.put, List.setIfInBounds_toArray, List.set_cons_zero, List.set_cons_succ]; refine hK _ ?_; clear hK K
  refine seq_load rfl rfl (fun x hx => Blk.ext (h6) hx) rfl Tryd.underlying37 (by kernel_rfl) (by rfl) ?_; intro K hK; simp only [Act.put, List.setIfInBounds_toArray, List.set_cons_zero, List.set_cons_succ]; refine hK _ ?_; clear hK K
  refine seq_call (cd2 _ _ _ r6 (hT.ext HE.out)) rfl Tryd.func20 (by kernel_rfl) (by kernel_rfl) (by rfl) (by rfl) ?_; intro K hK; rintro e w' ⟨A5, c5, rfl, r5, -, hE⟩; refine ⟨_, rfl, hE, ?_⟩; simp only [Act.put, List.setIfInBounds_toArray, List.set_cons_zero, List.set_cons_succ]; refine hK _ _ ?_; clear hK K; (try replace hb := hb.ext hE); (try replace hm := hm.ext hE); (try replace h1 := h1.ext hE); (try replace h2 := h2.ext hE); (try replace h3 := h3.ext hE); (try replace h6 := h6.ext hE); (try replace h7 := h7.ext hE); (try replace k2 := k2.ext hE); (try replace k3 := k3.ext hE); (try replace HE := Lib.hid (HE.out.trans hE)); (try replace r0 := r0.ext hE); (try replace r1 := r1.ext hE); (try replace r2 := r2.ext hE); (try replace r3 := r3.ext hE); (try replace r4 := r4.ext hE); (try replace r5 := r5.ext hE); (try replace r6 := r6.ext hE); clear hE
  refine seq_call (csd _ _ _ _ _ r5 r6) rfl Tryd.func17 (by kernel_rfl) (by kernel_rfl) (by rfl) (by rfl) ?_; intro K hK; rintro e w' ⟨rfl, hE⟩; refine ⟨_, rfl, hE, ?_⟩; simp only [Act.put, List.setIfInBounds_toArray, List.set_cons_zero, List.set_cons_succ]; refine hK _ _ ?_; clear hK K; (try replace hb := hb.ext hE); (try replace hm := hm.ext hE); (try replace h1 := h1.ext hE); (try replace h2 := h2.ext hE); (try replace h3 := h3.ext hE); (try replace h6 := h6.ext hE); (try replace h7 := h7.ext hE); (try replace k2 := k2.ext hE); (try replace k3 := k3.ext hE); (try replace HE := Lib.hid (HE.out.trans hE)); (try replace r0 := r0.ext hE); (try replace r1 := r1.ext hE); (try replace r2 := r2.ext hE); (try replace r3 := r3.ext hE); (try replace r4 := r4.ext hE); (try replace r5 := r5.ext hE); (try replace r6 := r6.ext hE); clear hE
  (repeat (first | (refine seq_skip (by rfl) ?_; intro K hK; simp only [Act.put, List.setIfInBounds_toArray, List.set_cons_zero, List.set_cons_succ]; refine hK _ ?_; clear hK K) | (refine seq_skipc (by rfl) ?_; intro K hK; simp only [Act.put, List.setIfInBounds_toArray, List.set_cons_zero, List.set_cons_succ]; refine hK _ ?_; clear hK K) | (refine seq_read (by rfl) (by rfl) ?_; intro K hK; go_big_quiet_op; first | go_big_quiet_on | (refine ⟨_, fun _ _ => rfl, ?_⟩; go_big_quiet_on))))
  refine seq_done ?_
  clear r5 cr6 cd2 csd hnn
  have b1 := h1
  have b2 := h2
  have b3 := h3
  have b6 := h6
  have q6 := r6
  have HE0 := HE
  clear h1 h2 h3 h6 r6 HE
  go_wp2
  go_loopw [8] (fun i wr => ∃ k : Nat, k ≤ L.length ∧ i = .int .i64 k ∧ Ext w' wr) (fun i _ => (L.length - intOf i).toNat)
  case atStart => exact ⟨0, by omega, rfl, Ext.refl _⟩
  case round =>
    obtain ⟨k, hk, rfl, hE⟩ := hrel
    have HB := Lib.hid hE
    clear hE
    have h1 := b1.ext HB.out
    have x1 : wr.cell? ⟨w.heap.size, 0, none⟩ = some (.slice A L.length c) := (h1.cell 0).trans rfl
    by_cases hlt : k < L.length
    · have hkz : (k : Int) < (L.length : Int) := by omega
      obtain ⟨b, off, rfl, hb, hrx⟩ := (hrow _ HE0.out).some (by omega)
      obtain ⟨b4, off4, rfl, hb4, hry⟩ := q6.some (by omega)
      have e1 : w'.rangeAt b (off + k * 45) (stC (sT L k)).toList := by rw [sT_eq]; exact hrx k hlt
      have e2 : w'.rangeAt b4 (off4 + k * 45) (stC (sT (doF f L) k)).toList := by rw [sT_eq]; exact hry k (by omega)
      clear hrx hry
      go_wp2
      clear x1 h1
      have HB0 := HB
      clear HB
      go_loopw [9] (fun i wx => ∃ y : Nat, y ≤ 4 ∧ i = .int .i64 y ∧ Ext w' wx) (fun i _ => (4 - intOf i).toNat)
      case atStart => exact ⟨0, by omega, rfl, HB0.out⟩
      case round =>
        obtain ⟨y, hy, rfl, hE⟩ := hrel
        have HB := Lib.hid hE
        clear hE
        have h1 := b1.ext HB.out
        have h6 := b6.ext HB.out
        by_cases hyl : y < 4
        · have hyz : (y : Int) < 4 := by omega
          have h2 := b2.ext HB.out
          have x1 : wr.cell? ⟨w.heap.size, 0, none⟩ = some (.slice (some ⟨b, off, none⟩) L.length c) := (h1.cell 0).trans rfl
          have e3 := rgx_ext HB.out (rng_way e1 hyl)
          have e4 := rgx_ext HB.out (rng_way e2 hyl)
          rw [hat k y hlt hyl] at e4
          have hme := hmay k y hlt hyl
          clear hat hdt hmay e1 e2 hy
          generalize (sT L k).ws.at y = e at *
          have cn := fun w k => cnm e hme w k
          clear cnm hme
          have hne : ∀ (p : En) w, (binOp .neq 28 (.agg (enC p)) (.agg (enC p))).run Tryd.prog w = .ok (.bool false) w := fun p w => by rw [neq_en]; simp
          have h7 := Blk.new wr 28 (enC e)
          have hE := (Ext.refl wr).alloc (.cells (enC e) 28)
          have HE := Lib.hid (HE0.out.trans HB.out)
          have HI := HB
          replace HI := Lib.hid (HI.out.trans hE)
          replace e4 := rgx_ext hE e4
          have h3 := h2
          replace h1 := h1.ext hE
          replace h2 := h2.ext hE
          replace h6 := h6.ext hE
          replace HE := Lib.hid (HE.out.trans hE)
          clear hE HB h3
          go_wp2_with (first | (refine wpList_load_rng (w := wr) (by rfl) 28 _ rfl rfl e3 Tryd.underlying28 rfl (en_info _) ?_) | (refine wpList_store_new rfl 28 _ _ rfl (enC _) _ _ rfl rfl (en_info _) (by simp [enC_size]) (enC_one _) ?_))
          clear e3 x1
          (try replace hb := Blk.drew hb); (try replace hm := Blk.drew hm); (try replace h1 := Blk.drew h1); (try replace h2 := Blk.drew h2); (try replace h3 := Blk.drew h3); (try replace h6 := Blk.drew h6); (try replace h7 := Blk.drew h7); (try replace k2 := Blk.drew k2); (try replace k3 := Blk.drew k3); replace HE := Lib.hid HE.out.drew
          replace e4 := rgx_ext (Ext.refl _).drew e4
          replace HI := Lib.hid HI.out.drew
          refine wp_region_seq [(0, false), (1, false), (2, true), (3, false), (4, false), (5, false), (6, false), (7, false), (8, false), (9, false), (10, false), (11, false), (12, false), (13, false), (14, false), (15, false), (16, false), (17, false), (18, true), (19, false), (20, false), (21, false), (22, false), (23, false), (24, false), (25, false), (26, false), (27, false), (28, false), (29, false), (30, false), (31, false), (32, false)] Ext (by kernel_rfl) (by kernel_rfl) Ext.refl (fun _ _ _ => Ext.trans) ?_; simp only [List.map, nth_z, nth_s]
          (try simp only [Act.put, List.setIfInBounds_toArray, List.set_cons_zero, List.set_cons_succ])
          refine seq_load rfl rfl (fun x hx => Blk.ext (h2) hx) rfl Tryd.underlying24 (by kernel_rfl) (by rfl) ?_; intro K hK; simp only [Act.put, List.setIfInBounds_toArray, List.set_cons_zero, List.set_cons_succ]; refine hK _ ?_; clear hK K
          refine seq_load rfl rfl (fun x hx => Blk.ext (h7) hx) rfl Tryd.underlying28 (by kernel_rfl) (by rfl) ?_; intro K hK; simp only [Act.put, List.setIfInBounds_toArray, List.set_cons_zero, List.set_cons_succ]; refine hK _ ?_; clear hK K
          refine seq_call (cn _ (hT.ext HE.out)) rfl Tryd.func14 (by kernel_rfl) (by kernel_rfl) (by rfl) (by rfl) ?_; intro K hK; rintro e w' ⟨rfl, hE⟩; refine ⟨_, rfl, hE, ?_⟩; simp only [Act.put, List.setIfInBounds_toArray, List.set_cons_zero, List.set_cons_succ]; refine hK _ _ ?_; clear hK K
          replace e4 := rgx_ext hE e4
          replace HI := Lib.hid (HI.out.trans hE)
          (try replace hb := hb.ext hE); (try replace hm := hm.ext hE); (try replace h1 := h1.ext hE); (try replace h2 := h2.ext hE); (try replace h3 := h3.ext hE); (try replace h6 := h6.ext hE); (try replace h7 := h7.ext hE); (try replace k2 := k2.ext hE); (try replace k3 := k3.ext hE); (try replace HE := Lib.hid (HE.out.trans hE)); (try replace r0 := r0.ext hE); (try replace r1 := r1.ext hE); (try replace r2 := r2.ext hE); (try replace r3 := r3.ext hE); (try replace r4 := r4.ext hE); (try replace r5 := r5.ext hE); (try replace r6 := r6.ext hE)
          clear hE
          generalize namF f e = B at *
          cases B
          · rw [if_neg (by decide)] at e4
            (repeat (first | (refine seq_skip (by rfl) ?_; intro K hK; simp only [Act.put, List.setIfInBounds_toArray, List.set_cons_zero, List.set_cons_succ]; refine hK _ ?_; clear hK K) | (refine seq_skipc (by rfl) ?_; intro K hK; simp only [Act.put, List.setIfInBounds_toArray, List.set_cons_zero, List.set_cons_succ]; refine hK _ ?_; clear hK K) | (refine seq_read (by rfl) (by rfl) ?_; intro K hK; go_big_quiet_op; first | go_big_quiet_on | (refine ⟨_, fun _ _ => rfl, ?_⟩; go_big_quiet_on))))
            refine seq_load rfl rfl (fun x hx => Blk.ext (h2) hx) rfl Tryd.underlying24 (by kernel_rfl) (by rfl) ?_; intro K hK; simp only [Act.put, List.setIfInBounds_toArray, List.set_cons_zero, List.set_cons_succ]; refine hK _ ?_; clear hK K
            refine seq_load rfl rfl (fun x hx => Blk.ext (h7) hx) rfl Tryd.underlying28 (by kernel_rfl) (by rfl) ?_; intro K hK; simp only [Act.put, List.setIfInBounds_toArray, List.set_cons_zero, List.set_cons_succ]; refine hK _ ?_; clear hK K
            refine seq_call (cn _ (hT.ext HE.out)) rfl Tryd.func14 (by kernel_rfl) (by kernel_rfl) (by rfl) (by rfl) ?_; intro K hK; rintro e w' ⟨rfl, hE⟩; refine ⟨_, rfl, hE, ?_⟩; simp only [Act.put, List.setIfInBounds_toArray, List.set_cons_zero, List.set_cons_succ]; refine hK _ _ ?_; clear hK K
            replace e4 := rgx_ext hE e4
            replace HI := Lib.hid (HI.out.trans hE)
            (try replace hb := hb.ext hE); (try replace hm := hm.ext hE); (try replace h1 := h1.ext hE); (try replace h2 := h2.ext hE); (try replace h3 := h3.ext hE); (try replace h6 := h6.ext hE); (try replace h7 := h7.ext hE); (try replace k2 := k2.ext hE); (try replace k3 := k3.ext hE); (try replace HE := Lib.hid (HE.out.trans hE)); (try replace r0 := r0.ext hE); (try replace r1 := r1.ext hE); (try replace r2 := r2.ext hE); (try replace r3 := r3.ext hE); (try replace r4 := r4.ext hE); (try replace r5 := r5.ext hE); (try replace r6 := r6.ext hE)
            clear hE cn
            (repeat (first | (refine seq_skip (by rfl) ?_; intro K hK; simp only [Act.put, List.setIfInBounds_toArray, List.set_cons_zero, List.set_cons_succ]; refine hK _ ?_; clear hK K) | (refine seq_skipc (by rfl) ?_; intro K hK; simp only [Act.put, List.setIfInBounds_toArray, List.set_cons_zero, List.set_cons_succ]; refine hK _ ?_; clear hK K) | (refine seq_read (by rfl) (by rfl) ?_; intro K hK; go_big_quiet_op; first | go_big_quiet_on | (refine ⟨_, fun _ _ => rfl, ?_⟩; go_big_quiet_on))))
            refine seq_value ((.slice (some ⟨b4, off4, none⟩) L.length c6)) (by rfl) (fun x hx => by have hq := ext_cell hx ((h6.cell 0).trans rfl); simp [go_sem, execOp, Act.eval, hq]) ?_; intro K hK; simp only [Act.put, List.setIfInBounds_toArray, List.set_cons_zero, List.set_cons_succ]; refine hK _ ?_; clear hK K
            (repeat (first | (refine seq_skip (by rfl) ?_; intro K hK; simp only [Act.put, List.setIfInBounds_toArray, List.set_cons_zero, List.set_cons_succ]; refine hK _ ?_; clear hK K) | (refine seq_skipc (by rfl) ?_; intro K hK; simp only [Act.put, List.setIfInBounds_toArray, List.set_cons_zero, List.set_cons_succ]; refine hK _ ?_; clear hK K) | (refine seq_read (by rfl) (by rfl) ?_; intro K hK; go_big_quiet_op; first | go_big_quiet_on | (refine ⟨_, fun _ _ => rfl, ?_⟩; go_big_quiet_on))))
            refine seq_load_rng rfl rfl ((fun x hx => rgx_ext hx e4)) rfl Tryd.underlying28 (en_info _) (by rfl) ?_; intro K hK; simp only [Act.put, List.setIfInBounds_toArray, List.set_cons_zero, List.set_cons_succ]; refine hK _ ?_; clear hK K
            refine seq_load rfl rfl (fun x hx => Blk.ext (h7) hx) rfl Tryd.underlying28 (by kernel_rfl) (by rfl) ?_; intro K hK; simp only [Act.put, List.setIfInBounds_toArray, List.set_cons_zero, List.set_cons_succ]; refine hK _ ?_; clear hK K
            refine seq_cmp rfl rfl rfl (en_guard) (hne e) (by rfl) ?_; intro K hK; simp only [Act.put, List.setIfInBounds_toArray, List.set_cons_zero, List.set_cons_succ]; refine hK _ ?_; clear hK K
            (repeat (first | (refine seq_skip (by rfl) ?_; intro K hK; simp only [Act.put, List.setIfInBounds_toArray, List.set_cons_zero, List.set_cons_succ]; refine hK _ ?_; clear hK K) | (refine seq_skipc (by rfl) ?_; intro K hK; simp only [Act.put, List.setIfInBounds_toArray, List.set_cons_zero, List.set_cons_succ]; refine hK _ ?_; clear hK K) | (refine seq_read (by rfl) (by rfl) ?_; intro K hK; go_big_quiet_op; first | go_big_quiet_on | (refine ⟨_, fun _ _ => rfl, ?_⟩; go_big_quiet_on))))
            refine seq_done ?_
            go_wp2
            go_roundw
            case rel => exact ⟨y + 1, by omega, by go_num, HI.out⟩
            case measure => simp [intOf]; omega
          · rw [if_pos rfl] at e4
            (repeat (first | (refine seq_skip (by rfl) ?_; intro K hK; simp only [Act.put, List.setIfInBounds_toArray, List.set_cons_zero, List.set_cons_succ]; refine hK _ ?_; clear hK K) | (refine seq_skipc (by rfl) ?_; intro K hK; simp only [Act.put, List.setIfInBounds_toArray, List.set_cons_zero, List.set_cons_succ]; refine hK _ ?_; clear hK K) | (refine seq_read (by rfl) (by rfl) ?_; intro K hK; go_big_quiet_op; first | go_big_quiet_on | (refine ⟨_, fun _ _ => rfl, ?_⟩; go_big_quiet_on))))
            refine seq_value ((.slice (some ⟨b4, off4, none⟩) L.length c6)) (by rfl) (fun x hx => by have hq := ext_cell hx ((h6.cell 0).trans rfl); simp [go_sem, execOp, Act.eval, hq]) ?_; intro K hK; simp only [Act.put, List.setIfInBounds_toArray, List.set_cons_zero, List.set_cons_succ]; refine hK _ ?_; clear hK K
            (repeat (first | (refine seq_skip (by rfl) ?_; intro K hK; simp only [Act.put, List.setIfInBounds_toArray, List.set_cons_zero, List.set_cons_succ]; refine hK _ ?_; clear hK K) | (refine seq_skipc (by rfl) ?_; intro K hK; simp only [Act.put, List.setIfInBounds_toArray, List.set_cons_zero, List.set_cons_succ]; refine hK _ ?_; clear hK K) | (refine seq_read (by rfl) (by rfl) ?_; intro K hK; go_big_quiet_op; first | go_big_quiet_on | (refine ⟨_, fun _ _ => rfl, ?_⟩; go_big_quiet_on))))
            refine seq_load_rng rfl rfl ((fun x hx => rgx_ext hx e4)) rfl Tryd.underlying28 (en_info _) (by rfl) ?_; intro K hK; simp only [Act.put, List.setIfInBounds_toArray, List.set_cons_zero, List.set_cons_succ]; refine hK _ ?_; clear hK K
            refine seq_build_as rfl (e0_build) (by rfl) ?_; intro K hK; simp only [Act.put, List.setIfInBounds_toArray, List.set_cons_zero, List.set_cons_succ]; refine hK _ ?_; clear hK K
            refine seq_cmp rfl rfl rfl (en_guard) (hne e0) (by rfl) ?_; intro K hK; simp only [Act.put, List.setIfInBounds_toArray, List.set_cons_zero, List.set_cons_succ]; refine hK _ ?_; clear hK K
            (repeat (first | (refine seq_skip (by rfl) ?_; intro K hK; simp only [Act.put, List.setIfInBounds_toArray, List.set_cons_zero, List.set_cons_succ]; refine hK _ ?_; clear hK K) | (refine seq_skipc (by rfl) ?_; intro K hK; simp only [Act.put, List.setIfInBounds_toArray, List.set_cons_zero, List.set_cons_succ]; refine hK _ ?_; clear hK K) | (refine seq_read (by rfl) (by rfl) ?_; intro K hK; go_big_quiet_op; first | go_big_quiet_on | (refine ⟨_, fun _ _ => rfl, ?_⟩; go_big_quiet_on))))
            refine seq_load rfl rfl (fun x hx => Blk.ext (h2) hx) rfl Tryd.underlying24 (by kernel_rfl) (by rfl) ?_; intro K hK; simp only [Act.put, List.setIfInBounds_toArray, List.set_cons_zero, List.set_cons_succ]; refine hK _ ?_; clear hK K
            refine seq_load rfl rfl (fun x hx => Blk.ext (h7) hx) rfl Tryd.underlying28 (by kernel_rfl) (by rfl) ?_; intro K hK; simp only [Act.put, List.setIfInBounds_toArray, List.set_cons_zero, List.set_cons_succ]; refine hK _ ?_; clear hK K
            refine seq_call (cn _ (hT.ext HE.out)) rfl Tryd.func14 (by kernel_rfl) (by kernel_rfl) (by rfl) (by rfl) ?_; intro K hK; rintro e w' ⟨rfl, hE⟩; refine ⟨_, rfl, hE, ?_⟩; simp only [Act.put, List.setIfInBounds_toArray, List.set_cons_zero, List.set_cons_succ]; refine hK _ _ ?_; clear hK K
            replace HI := Lib.hid (HI.out.trans hE)
            (try replace hb := hb.ext hE); (try replace hm := hm.ext hE); (try replace h1 := h1.ext hE); (try replace h2 := h2.ext hE); (try replace h3 := h3.ext hE); (try replace h6 := h6.ext hE); (try replace h7 := h7.ext hE); (try replace k2 := k2.ext hE); (try replace k3 := k3.ext hE); (try replace HE := Lib.hid (HE.out.trans hE)); (try replace r0 := r0.ext hE); (try replace r1 := r1.ext hE); (try replace r2 := r2.ext hE); (try replace r3 := r3.ext hE); (try replace r4 := r4.ext hE); (try replace r5 := r5.ext hE); (try replace r6 := r6.ext hE)
            clear hE cn
            (repeat (first | (refine seq_skip (by rfl) ?_; intro K hK; simp only [Act.put, List.setIfInBounds_toArray, List.set_cons_zero, List.set_cons_succ]; refine hK _ ?_; clear hK K) | (refine seq_skipc (by rfl) ?_; intro K hK; simp only [Act.put, List.setIfInBounds_toArray, List.set_cons_zero, List.set_cons_succ]; refine hK _ ?_; clear hK K) | (refine seq_read (by rfl) (by rfl) ?_; intro K hK; go_big_quiet_op; first | go_big_quiet_on | (refine ⟨_, fun _ _ => rfl, ?_⟩; go_big_quiet_on))))
            refine seq_done ?_
            go_wp2
            go_roundw
            case rel => exact ⟨y + 1, by omega, by go_num, HI.out⟩
            case measure => simp [intOf]; omega
        · obtain rfl : y = 4 := by omega
          have t1 := rng_cell (rgx_ext HB.out e1) 44 (stC_t _)
          have t2 := rng_cell (rgx_ext HB.out e2) 44 (stC_t _)
          rw [hdt k hlt] at t2
          have hnt : (((sT L k).t : Int) != ((sT L k).t : Int)) = false := by simp
          clear hat hdt hmay e1 e2
          generalize (sT L k).t = tt at *
          have HE := Lib.hid (HE0.out.trans HB.out)
          go_wp2_with fail
          (try replace hb := Blk.drew hb); (try replace hm := Blk.drew hm); (try replace h1 := Blk.drew h1); (try replace h2 := Blk.drew h2); (try replace h3 := Blk.drew h3); (try replace h6 := Blk.drew h6); (try replace h7 := Blk.drew h7); (try replace k2 := Blk.drew k2); (try replace k3 := Blk.drew k3); replace HE := Lib.hid HE.out.drew
          replace t1 := ext_cell (Ext.refl _).drew t1
          replace t2 := ext_cell (Ext.refl _).drew t2
          replace HB := Lib.hid HB.out.drew
          refine wp_region_seq [(0, false), (1, false), (2, false), (3, false), (4, false), (5, false), (6, false), (7, false), (8, false), (9, false), (10, false), (11, false), (12, false)] Ext (by kernel_rfl) (by kernel_rfl) Ext.refl (fun _ _ _ => Ext.trans) ?_; simp only [List.map, nth_z, nth_s]
          (try simp only [Act.put, List.setIfInBounds_toArray, List.set_cons_zero, List.set_cons_succ])
          (repeat (first | (refine seq_skip (by rfl) ?_; intro K hK; simp only [Act.put, List.setIfInBounds_toArray, List.set_cons_zero, List.set_cons_succ]; refine hK _ ?_; clear hK K) | (refine seq_skipc (by rfl) ?_; intro K hK; simp only [Act.put, List.setIfInBounds_toArray, List.set_cons_zero, List.set_cons_succ]; refine hK _ ?_; clear hK K) | (refine seq_read (by rfl) (by rfl) ?_; intro K hK; go_big_quiet_op; first | go_big_quiet_on | (refine ⟨_, fun _ _ => rfl, ?_⟩; go_big_quiet_on))))
          refine seq_value ((.slice (some ⟨b4, off4, none⟩) L.length c6)) (by rfl) (fun x hx => by have hq := ext_cell hx ((h6.cell 0).trans rfl); simp [go_sem, execOp, Act.eval, hq]) ?_; intro K hK; simp only [Act.put, List.setIfInBounds_toArray, List.set_cons_zero, List.set_cons_succ]; refine hK _ ?_; clear hK K
          (repeat (first | (refine seq_skip (by rfl) ?_; intro K hK; simp only [Act.put, List.setIfInBounds_toArray, List.set_cons_zero, List.set_cons_succ]; refine hK _ ?_; clear hK K) | (refine seq_skipc (by rfl) ?_; intro K hK; simp only [Act.put, List.setIfInBounds_toArray, List.set_cons_zero, List.set_cons_succ]; refine hK _ ?_; clear hK K) | (refine seq_read (by rfl) (by rfl) ?_; intro K hK; go_big_quiet_op; first | go_big_quiet_on | (refine ⟨_, fun _ _ => rfl, ?_⟩; go_big_quiet_on))))
          refine seq_value ((.int .u8 (tt : Int))) (by rfl) (fun x hx => by have hq := ext_cell hx (t2); simp [go_sem, execOp, Act.eval, hq]) ?_; intro K hK; simp only [Act.put, List.setIfInBounds_toArray, List.set_cons_zero, List.set_cons_succ]; refine hK _ ?_; clear hK K
          (repeat (first | (refine seq_skip (by rfl) ?_; intro K hK; simp only [Act.put, List.setIfInBounds_toArray, List.set_cons_zero, List.set_cons_succ]; refine hK _ ?_; clear hK K) | (refine seq_skipc (by rfl) ?_; intro K hK; simp only [Act.put, List.setIfInBounds_toArray, List.set_cons_zero, List.set_cons_succ]; refine hK _ ?_; clear hK K) | (refine seq_read (by rfl) (by rfl) ?_; intro K hK; go_big_quiet_op; first | go_big_quiet_on | (refine ⟨_, fun _ _ => rfl, ?_⟩; go_big_quiet_on))))
          refine seq_value ((.slice (some ⟨b, off, none⟩) L.length c)) (by rfl) (fun x hx => by have hq := ext_cell hx ((h1.cell 0).trans rfl); simp [go_sem, execOp, Act.eval, hq]) ?_; intro K hK; simp only [Act.put, List.setIfInBounds_toArray, List.set_cons_zero, List.set_cons_succ]; refine hK _ ?_; clear hK K
          (repeat (first | (refine seq_skip (by rfl) ?_; intro K hK; simp only [Act.put, List.setIfInBounds_toArray, List.set_cons_zero, List.set_cons_succ]; refine hK _ ?_; clear hK K) | (refine seq_skipc (by rfl) ?_; intro K hK; simp only [Act.put, List.setIfInBounds_toArray, List.set_cons_zero, List.set_cons_succ]; refine hK _ ?_; clear hK K) | (refine seq_read (by rfl) (by rfl) ?_; intro K hK; go_big_quiet_op; first | go_big_quiet_on | (refine ⟨_, fun _ _ => rfl, ?_⟩; go_big_quiet_on))))
          refine seq_value ((.int .u8 (tt : Int))) (by rfl) (fun x hx => by have hq := ext_cell hx (t1); simp [go_sem, execOp, Act.eval, hq]) ?_; intro K hK; simp only [Act.put, List.setIfInBounds_toArray, List.set_cons_zero, List.set_cons_succ]; refine hK _ ?_; clear hK K
          (repeat (first | (refine seq_skip (by rfl) ?_; intro K hK; simp only [Act.put, List.setIfInBounds_toArray, List.set_cons_zero, List.set_cons_succ]; refine hK _ ?_; clear hK K) | (refine seq_skipc (by rfl) ?_; intro K hK; simp only [Act.put, List.setIfInBounds_toArray, List.set_cons_zero, List.set_cons_succ]; refine hK _ ?_; clear hK K) | (refine seq_read (by rfl) (by rfl) ?_; intro K hK; go_big_quiet_op; first | go_big_quiet_on | (refine ⟨_, fun _ _ => rfl, ?_⟩; go_big_quiet_on))))
          refine seq_done ?_
          go_wp2
          go_roundw
          case rel => exact ⟨k + 1, by omega, by go_num, HB.out⟩
          case measure => simp [intOf]; omega
    · obtain rfl : k = L.length := by omega
      go_wp2_with fail
      have HE := Lib.hid (HE0.out.trans HB.out)
      have k2 := b2.ext HB.out
      have k3 := b3.ext HB.out
      rw [fcC_eq] at k2 k3
      clear b1 b2 b3 b6 q6 HE0 HB x1 hat hdt hmay cnm
      (try replace hb := Blk.drew hb); (try replace hm := Blk.drew hm); (try replace h1 := Blk.drew h1); (try replace h2 := Blk.drew h2); (try replace h3 := Blk.drew h3); (try replace h6 := Blk.drew h6); (try replace h7 := Blk.drew h7); (try replace k2 := Blk.drew k2); (try replace k3 := Blk.drew k3); replace HE := Lib.hid HE.out.drew
      refine wp_region_plan (.fork [(0, false), (1, false), (2, false), (5, false), (6, false), (7, false)] 3 (.fork [] 4 (.last [(8, true), (9, true), (10, true), (11, false), (12, false), (13, false), (14, true), (15, true), (16, false), (17, false), (18, false), (19, false)]) 8 (.last [(4, true), (9, true), (10, true), (11, false), (12, false), (13, false), (14, true), (15, true), (16, false), (17, false), (18, false), (19, false)])) 8 (.last [(3, true), (4, true), (9, true), (10, true), (11, false), (12, false), (13, false), (14, true), (15, true), (16, false), (17, false), (18, false), (19, false)])) Ext (by kernel_rfl) (by kernel_rfl) Ext.refl (fun _ _ _ => Ext.trans) ?_
      simp only [Plan.wp, List.map, nth_z, nth_s]
      generalize wr.drew = W0 at *
      (try simp only [Act.put, List.setIfInBounds_toArray, List.set_cons_zero, List.set_cons_succ])
      refine seq_load rfl rfl (fun x hx => Blk.ext (h1) hx) rfl Tryd.underlying37 (by kernel_rfl) (by rfl) ?_; intro K hK; simp only [Act.put, List.setIfInBounds_toArray, List.set_cons_zero, List.set_cons_succ]; refine hK _ ?_; clear hK K
      refine seq_load rfl rfl (fun x hx => Blk.ext (k2) hx) rfl Tryd.underlying24 (by kernel_rfl) (by rfl) ?_; intro K hK; simp only [Act.put, List.setIfInBounds_toArray, List.set_cons_zero, List.set_cons_succ]; refine hK _ ?_; clear hK K
      refine seq_load rfl rfl (fun x hx => Blk.ext (k3) hx) rfl Tryd.underlying24 (by kernel_rfl) (by rfl) ?_; intro K hK; simp only [Act.put, List.setIfInBounds_toArray, List.set_cons_zero, List.set_cons_succ]; refine hK _ ?_; clear hK K
      refine seq_load rfl rfl (fun x hx => Blk.ext (h1) hx) rfl Tryd.underlying37 (by kernel_rfl) (by rfl) ?_; intro K hK; simp only [Act.put, List.setIfInBounds_toArray, List.set_cons_zero, List.set_cons_succ]; refine hK _ ?_; clear hK K
      refine seq_load rfl rfl (fun x hx => Blk.ext (k3) hx) rfl Tryd.underlying24 (by kernel_rfl) (by rfl) ?_; intro K hK; simp only [Act.put, List.setIfInBounds_toArray, List.set_cons_zero, List.set_cons_succ]; refine hK _ ?_; clear hK K
      refine seq_load rfl rfl (fun x hx => Blk.ext (k2) hx) rfl Tryd.underlying24 (by kernel_rfl) (by rfl) ?_; intro K hK; simp only [Act.put, List.setIfInBounds_toArray, List.set_cons_zero, List.set_cons_succ]; refine hK _ ?_; clear hK K
      refine seq_done ?_
      refine ⟨?_, ?_⟩
      · skip
        refine seq_run (.slice (some ⟨W0.heap.size, 0, none⟩) 2 2) (W0.alloc (.cells #[.bool f.ha, .int .u64 (f.ad : Int), .bool f.hn, .int .u64 (f.n : Int), .bool g.ha, .int .u64 (g.ad : Int), .bool g.hn, .int .u64 (g.n : Int)] 24)) (by rfl) ?_ ((Ext.refl _).alloc _) ?_; (simp [go_sem, execOp, Act.eval]); intro K hK; simp only [Act.put, List.setIfInBounds_toArray, List.set_cons_zero, List.set_cons_succ]; refine hK _ _ ?_; clear hK K
        have r0 := two_fc f g (Blk.new W0 _ _)
        have hE := (Ext.refl W0).alloc (.cells #[.bool f.ha, .int .u64 (f.ad : Int), .bool f.hn, .int .u64 (f.n : Int), .bool g.ha, .int .u64 (g.ad : Int), .bool g.hn, .int .u64 (g.n : Int)] 24)
        (try replace hb := hb.ext hE); (try replace hm := hm.ext hE); (try replace h1 := h1.ext hE); (try replace h2 := h2.ext hE); (try replace h3 := h3.ext hE); (try replace h6 := h6.ext hE); (try replace h7 := h7.ext hE); (try replace k2 := k2.ext hE); (try replace k3 := k3.ext hE); (try replace HE := Lib.hid (HE.out.trans hE)); (try replace r0 := r0.ext hE); (try replace r1 := r1.ext hE); (try replace r2 := r2.ext hE); (try replace r3 := r3.ext hE); (try replace r4 := r4.ext hE); (try replace r5 := r5.ext hE); (try replace r6 := r6.ext hE)
        clear hE
        generalize W0.alloc (.cells #[.bool f.ha, .int .u64 (f.ad : Int), .bool f.hn, .int .u64 (f.n : Int), .bool g.ha, .int .u64 (g.ad : Int), .bool g.hn, .int .u64 (g.n : Int)] 24) = W1 at *
        refine seq_done ?_
        (try simp only [Plan.wp, List.map, nth_z, nth_s])
        refine seq_done ?_
        refine ⟨?_, ?_⟩
        · skip
          refine seq_call (cA1 _ _ _ (hrow _ HE.out) r0 (hT.ext HE.out)) rfl Tryd.func18 (by kernel_rfl) (by kernel_rfl) (by rfl) (by rfl) ?_; intro K hK; rintro e w' ⟨A2, c2, rfl, r2, -, hE⟩; refine ⟨_, rfl, hE, ?_⟩; simp only [Act.put, List.setIfInBounds_toArray, List.set_cons_zero, List.set_cons_succ]; refine hK _ _ ?_; clear hK K; (try replace hb := hb.ext hE); (try replace hm := hm.ext hE); (try replace h1 := h1.ext hE); (try replace h2 := h2.ext hE); (try replace h3 := h3.ext hE); (try replace h6 := h6.ext hE); (try replace h7 := h7.ext hE); (try replace k2 := k2.ext hE); (try replace k3 := k3.ext hE); (try replace HE := Lib.hid (HE.out.trans hE)); (try replace r0 := r0.ext hE); (try replace r1 := r1.ext hE); (try replace r2 := r2.ext hE); (try replace r3 := r3.ext hE); (try replace r4 := r4.ext hE); (try replace r5 := r5.ext hE); (try replace r6 := r6.ext hE); clear hE
          refine seq_done ?_
          (try simp only [Plan.wp, List.map, nth_z, nth_s])
          refine seq_run (.slice (some ⟨w'.heap.size, 0, none⟩) 2 2) (w'.alloc (.cells #[.bool g.ha, .int .u64 (g.ad : Int), .bool g.hn, .int .u64 (g.n : Int), .bool f.ha, .int .u64 (f.ad : Int), .bool f.hn, .int .u64 (f.n : Int)] 24)) (by rfl) ?_ ((Ext.refl _).alloc _) ?_; (simp [go_sem, execOp, Act.eval]); intro K hK; simp only [Act.put, List.setIfInBounds_toArray, List.set_cons_zero, List.set_cons_succ]; refine hK _ _ ?_; clear hK K
          have r1 := two_fc g f (Blk.new w' _ _)
          have hE := (Ext.refl w').alloc (.cells #[.bool g.ha, .int .u64 (g.ad : Int), .bool g.hn, .int .u64 (g.n : Int), .bool f.ha, .int .u64 (f.ad : Int), .bool f.hn, .int .u64 (f.n : Int)] 24)
          (try replace hb := hb.ext hE); (try replace hm := hm.ext hE); (try replace h1 := h1.ext hE); (try replace h2 := h2.ext hE); (try replace h3 := h3.ext hE); (try replace h6 := h6.ext hE); (try replace h7 := h7.ext hE); (try replace k2 := k2.ext hE); (try replace k3 := k3.ext hE); (try replace HE := Lib.hid (HE.out.trans hE)); (try replace r0 := r0.ext hE); (try replace r1 := r1.ext hE); (try replace r2 := r2.ext hE); (try replace r3 := r3.ext hE); (try replace r4 := r4.ext hE); (try replace r5 := r5.ext hE); (try replace r6 := r6.ext hE)
          clear hE
          generalize w'.alloc (.cells #[.bool g.ha, .int .u64 (g.ad : Int), .bool g.hn, .int .u64 (g.n : Int), .bool f.ha, .int .u64 (f.ad : Int), .bool f.hn, .int .u64 (f.n : Int)] 24) = W3 at *
          refine seq_call (cA2 _ _ _ (hrow _ HE.out) r1 (hT.ext HE.out)) rfl Tryd.func18 (by kernel_rfl) (by kernel_rfl) (by rfl) (by rfl) ?_; intro K hK; rintro e w' ⟨A3, c3, rfl, r3, -, hE⟩; refine ⟨_, rfl, hE, ?_⟩; simp only [Act.put, List.setIfInBounds_toArray, List.set_cons_zero, List.set_cons_succ]; refine hK _ _ ?_; clear hK K; (try replace hb := hb.ext hE); (try replace hm := hm.ext hE); (try replace h1 := h1.ext hE); (try replace h2 := h2.ext hE); (try replace h3 := h3.ext hE); (try replace h6 := h6.ext hE); (try replace h7 := h7.ext hE); (try replace k2 := k2.ext hE); (try replace k3 := k3.ext hE); (try replace HE := Lib.hid (HE.out.trans hE)); (try replace r0 := r0.ext hE); (try replace r1 := r1.ext hE); (try replace r2 := r2.ext hE); (try replace r3 := r3.ext hE); (try replace r4 := r4.ext hE); (try replace r5 := r5.ext hE); (try replace r6 := r6.ext hE); clear hE
          refine seq_call (csa _ _ _ _ _ r2 r3) rfl Tryd.func17 (by kernel_rfl) (by kernel_rfl) (by rfl) (by rfl) ?_; intro K hK; rintro e w' ⟨rfl, hE⟩; refine ⟨_, rfl, hE, ?_⟩; simp only [Act.put, List.setIfInBounds_toArray, List.set_cons_zero, List.set_cons_succ]; refine hK _ _ ?_; clear hK K; (try replace hb := hb.ext hE); (try replace hm := hm.ext hE); (try replace h1 := h1.ext hE); (try replace h2 := h2.ext hE); (try replace h3 := h3.ext hE); (try replace h6 := h6.ext hE); (try replace h7 := h7.ext hE); (try replace k2 := k2.ext hE); (try replace k3 := k3.ext hE); (try replace HE := Lib.hid (HE.out.trans hE)); (try replace r0 := r0.ext hE); (try replace r1 := r1.ext hE); (try replace r2 := r2.ext hE); (try replace r3 := r3.ext hE); (try replace r4 := r4.ext hE); (try replace r5 := r5.ext hE); (try replace r6 := r6.ext hE); clear hE
          (repeat (first | (refine seq_skip (by rfl) ?_; intro K hK; simp only [Act.put, List.setIfInBounds_toArray, List.set_cons_zero, List.set_cons_succ]; refine hK _ ?_; clear hK K) | (refine seq_skipc (by rfl) ?_; intro K hK; simp only [Act.put, List.setIfInBounds_toArray, List.set_cons_zero, List.set_cons_succ]; refine hK _ ?_; clear hK K) | (refine seq_read (by rfl) (by rfl) ?_; intro K hK; go_big_quiet_op; first | go_big_quiet_on | (refine ⟨_, fun _ _ => rfl, ?_⟩; go_big_quiet_on))))
          refine seq_load rfl rfl (fun x hx => Blk.ext (h1) hx) rfl Tryd.underlying37 (by kernel_rfl) (by rfl) ?_; intro K hK; simp only [Act.put, List.setIfInBounds_toArray, List.set_cons_zero, List.set_cons_succ]; refine hK _ ?_; clear hK K
          refine seq_build_as rfl (fc0_build) (by rfl) ?_; intro K hK; simp only [Act.put, List.setIfInBounds_toArray, List.set_cons_zero, List.set_cons_succ]; refine hK _ ?_; clear hK K
          refine seq_call (cd0 _ (hrow _ HE.out) (hT.ext HE.out)) rfl Tryd.func20 (by kernel_rfl) (by kernel_rfl) (by rfl) (by rfl) ?_; intro K hK; rintro e w' ⟨A4, c4, rfl, r4, -, hE⟩; refine ⟨_, rfl, hE, ?_⟩; simp only [Act.put, List.setIfInBounds_toArray, List.set_cons_zero, List.set_cons_succ]; refine hK _ _ ?_; clear hK K; (try replace hb := hb.ext hE); (try replace hm := hm.ext hE); (try replace h1 := h1.ext hE); (try replace h2 := h2.ext hE); (try replace h3 := h3.ext hE); (try replace h6 := h6.ext hE); (try replace h7 := h7.ext hE); (try replace k2 := k2.ext hE); (try replace k3 := k3.ext hE); (try replace HE := Lib.hid (HE.out.trans hE)); (try replace r0 := r0.ext hE); (try replace r1 := r1.ext hE); (try replace r2 := r2.ext hE); (try replace r3 := r3.ext hE); (try replace r4 := r4.ext hE); (try replace r5 := r5.ext hE); (try replace r6 := r6.ext hE); clear hE
          refine seq_call (ral _ _ _ r4) rfl Tryd.func22 (by kernel_rfl) (by kernel_rfl) (by rfl) (by rfl) ?_; intro K hK; rintro e w' ⟨A7, c7, rfl, -, -, hE⟩; refine ⟨_, rfl, hE, ?_⟩; simp only [Act.put, List.setIfInBounds_toArray, List.set_cons_zero, List.set_cons_succ]; refine hK _ _ ?_; clear hK K; (try replace hb := hb.ext hE); (try replace hm := hm.ext hE); (try replace h1 := h1.ext hE); (try replace h2 := h2.ext hE); (try replace h3 := h3.ext hE); (try replace h6 := h6.ext hE); (try replace h7 := h7.ext hE); (try replace k2 := k2.ext hE); (try replace k3 := k3.ext hE); (try replace HE := Lib.hid (HE.out.trans hE)); (try replace r0 := r0.ext hE); (try replace r1 := r1.ext hE); (try replace r2 := r2.ext hE); (try replace r3 := r3.ext hE); (try replace r4 := r4.ext hE); (try replace r5 := r5.ext hE); (try replace r6 := r6.ext hE); clear hE
          (repeat (first | (refine seq_skip (by rfl) ?_; intro K hK; simp only [Act.put, List.setIfInBounds_toArray, List.set_cons_zero, List.set_cons_succ]; refine hK _ ?_; clear hK K) | (refine seq_skipc (by rfl) ?_; intro K hK; simp only [Act.put, List.setIfInBounds_toArray, List.set_cons_zero, List.set_cons_succ]; refine hK _ ?_; clear hK K) | (refine seq_read (by rfl) (by rfl) ?_; intro K hK; go_big_quiet_op; first | go_big_quiet_on | (refine ⟨_, fun _ _ => rfl, ?_⟩; go_big_quiet_on))))
          refine seq_done ?_
          go_wp2
          go_ret
          exact ⟨rfl, HE.out⟩
        · skip
          refine seq_run (.slice (some ⟨W1.heap.size, 0, none⟩) 2 2) (W1.alloc (.cells #[.bool g.ha, .int .u64 (g.ad : Int), .bool g.hn, .int .u64 (g.n : Int), .bool f.ha, .int .u64 (f.ad : Int), .bool f.hn, .int .u64 (f.n : Int)] 24)) (by rfl) ?_ ((Ext.refl _).alloc _) ?_; (simp [go_sem, execOp, Act.eval]); intro K hK; simp only [Act.put, List.setIfInBounds_toArray, List.set_cons_zero, List.set_cons_succ]; refine hK _ _ ?_; clear hK K
          have r1 := two_fc g f (Blk.new W1 _ _)
          have hE := (Ext.refl W1).alloc (.cells #[.bool g.ha, .int .u64 (g.ad : Int), .bool g.hn, .int .u64 (g.n : Int), .bool f.ha, .int .u64 (f.ad : Int), .bool f.hn, .int .u64 (f.n : Int)] 24)
          (try replace hb := hb.ext hE); (try replace hm := hm.ext hE); (try replace h1 := h1.ext hE); (try replace h2 := h2.ext hE); (try replace h3 := h3.ext hE); (try replace h6 := h6.ext hE); (try replace h7 := h7.ext hE); (try replace k2 := k2.ext hE); (try replace k3 := k3.ext hE); (try replace HE := Lib.hid (HE.out.trans hE)); (try replace r0 := r0.ext hE); (try replace r1 := r1.ext hE); (try replace r2 := r2.ext hE); (try replace r3 := r3.ext hE); (try replace r4 := r4.ext hE); (try replace r5 := r5.ext hE); (try replace r6 := r6.ext hE)
          clear hE
          generalize W1.alloc (.cells #[.bool g.ha, .int .u64 (g.ad : Int), .bool g.hn, .int .u64 (g.n : Int), .bool f.ha, .int .u64 (f.ad : Int), .bool f.hn, .int .u64 (f.n : Int)] 24) = W2 at *
          refine seq_done ?_
          (try simp only [Plan.wp, List.map, nth_z, nth_s])
          refine seq_call (cA1 _ _ _ (hrow _ HE.out) r0 (hT.ext HE.out)) rfl Tryd.func18 (by kernel_rfl) (by kernel_rfl) (by rfl) (by rfl) ?_; intro K hK; rintro e w' ⟨A2, c2, rfl, r2, -, hE⟩; refine ⟨_, rfl, hE, ?_⟩; simp only [Act.put, List.setIfInBounds_toArray, List.set_cons_zero, List.set_cons_succ]; refine hK _ _ ?_; clear hK K; (try replace hb := hb.ext hE); (try replace hm := hm.ext hE); (try replace h1 := h1.ext hE); (try replace h2 := h2.ext hE); (try replace h3 := h3.ext hE); (try replace h6 := h6.ext hE); (try replace h7 := h7.ext hE); (try replace k2 := k2.ext hE); (try replace k3 := k3.ext hE); (try replace HE := Lib.hid (HE.out.trans hE)); (try replace r0 := r0.ext hE); (try replace r1 := r1.ext hE); (try replace r2 := r2.ext hE); (try replace r3 := r3.ext hE); (try replace r4 := r4.ext hE); (try replace r5 := r5.ext hE); (try replace r6 := r6.ext hE); clear hE
          refine seq_call (cA2 _ _ _ (hrow _ HE.out) r1 (hT.ext HE.out)) rfl Tryd.func18 (by kernel_rfl) (by kernel_rfl) (by rfl) (by rfl) ?_; intro K hK; rintro e w' ⟨A3, c3, rfl, r3, -, hE⟩; refine ⟨_, rfl, hE, ?_⟩; simp only [Act.put, List.setIfInBounds_toArray, List.set_cons_zero, List.set_cons_succ]; refine hK _ _ ?_; clear hK K; (try replace hb := hb.ext hE); (try replace hm := hm.ext hE); (try replace h1 := h1.ext hE); (try replace h2 := h2.ext hE); (try replace h3 := h3.ext hE); (try replace h6 := h6.ext hE); (try replace h7 := h7.ext hE); (try replace k2 := k2.ext hE); (try replace k3 := k3.ext hE); (try replace HE := Lib.hid (HE.out.trans hE)); (try replace r0 := r0.ext hE); (try replace r1 := r1.ext hE); (try replace r2 := r2.ext hE); (try replace r3 := r3.ext hE); (try replace r4 := r4.ext hE); (try replace r5 := r5.ext hE); (try replace r6 := r6.ext hE); clear hE
          refine seq_call (csa _ _ _ _ _ r2 r3) rfl Tryd.func17 (by kernel_rfl) (by kernel_rfl) (by rfl) (by rfl) ?_; intro K hK; rintro e w' ⟨rfl, hE⟩; refine ⟨_, rfl, hE, ?_⟩; simp only [Act.put, List.setIfInBounds_toArray, List.set_cons_zero, List.set_cons_succ]; refine hK _ _ ?_; clear hK K; (try replace hb := hb.ext hE); (try replace hm := hm.ext hE); (try replace h1 := h1.ext hE); (try replace h2 := h2.ext hE); (try replace h3 := h3.ext hE); (try replace h6 := h6.ext hE); (try replace h7 := h7.ext hE); (try replace k2 := k2.ext hE); (try replace k3 := k3.ext hE); (try replace HE := Lib.hid (HE.out.trans hE)); (try replace r0 := r0.ext hE); (try replace r1 := r1.ext hE); (try replace r2 := r2.ext hE); (try replace r3 := r3.ext hE); (try replace r4 := r4.ext hE); (try replace r5 := r5.ext hE); (try replace r6 := r6.ext hE); clear hE
          (repeat (first | (refine seq_skip (by rfl) ?_; intro K hK; simp only [Act.put, List.setIfInBounds_toArray, List.set_cons_zero, List.set_cons_succ]; refine hK _ ?_; clear hK K) | (refine seq_skipc (by rfl) ?_; intro K hK; simp only [Act.put, List.setIfInBounds_toArray, List.set_cons_zero, List.set_cons_succ]; refine hK _ ?_; clear hK K) | (refine seq_read (by rfl) (by rfl) ?_; intro K hK; go_big_quiet_op; first | go_big_quiet_on | (refine ⟨_, fun _ _ => rfl, ?_⟩; go_big_quiet_on))))
          refine seq_load rfl rfl (fun x hx => Blk.ext (h1) hx) rfl Tryd.underlying37 (by kernel_rfl) (by rfl) ?_; intro K hK; simp only [Act.put, List.setIfInBounds_toArray, List.set_cons_zero, List.set_cons_succ]; refine hK _ ?_; clear hK K
          refine seq_build_as rfl (fc0_build) (by rfl) ?_; intro K hK; simp only [Act.put, List.setIfInBounds_toArray, List.set_cons_zero, List.set_cons_succ]; refine hK _ ?_; clear hK K
          refine seq_call (cd0 _ (hrow _ HE.out) (hT.ext HE.out)) rfl Tryd.func20 (by kernel_rfl) (by kernel_rfl) (by rfl) (by rfl) ?_; intro K hK; rintro e w' ⟨A4, c4, rfl, r4, -, hE⟩; refine ⟨_, rfl, hE, ?_⟩; simp only [Act.put, List.setIfInBounds_toArray, List.set_cons_zero, List.set_cons_succ]; refine hK _ _ ?_; clear hK K; (try replace hb := hb.ext hE); (try replace hm := hm.ext hE); (try replace h1 := h1.ext hE); (try replace h2 := h2.ext hE); (try replace h3 := h3.ext hE); (try replace h6 := h6.ext hE); (try replace h7 := h7.ext hE); (try replace k2 := k2.ext hE); (try replace k3 := k3.ext hE); (try replace HE := Lib.hid (HE.out.trans hE)); (try replace r0 := r0.ext hE); (try replace r1 := r1.ext hE); (try replace r2 := r2.ext hE); (try replace r3 := r3.ext hE); (try replace r4 := r4.ext hE); (try replace r5 := r5.ext hE); (try replace r6 := r6.ext hE); clear hE
          refine seq_call (ral _ _ _ r4) rfl Tryd.func22 (by kernel_rfl) (by kernel_rfl) (by rfl) (by rfl) ?_; intro K hK; rintro e w' ⟨A7, c7, rfl, -, -, hE⟩; refine ⟨_, rfl, hE, ?_⟩; simp only [Act.put, List.setIfInBounds_toArray, List.set_cons_zero, List.set_cons_succ]; refine hK _ _ ?_; clear hK K; (try replace hb := hb.ext hE); (try replace hm := hm.ext hE); (try replace h1 := h1.ext hE); (try replace h2 := h2.ext hE); (try replace h3 := h3.ext hE); (try replace h6 := h6.ext hE); (try replace h7 := h7.ext hE); (try replace k2 := k2.ext hE); (try replace k3 := k3.ext hE); (try replace HE := Lib.hid (HE.out.trans hE)); (try replace r0 := r0.ext hE); (try replace r1 := r1.ext hE); (try replace r2 := r2.ext hE); (try replace r3 := r3.ext hE); (try replace r4 := r4.ext hE); (try replace r5 := r5.ext hE); (try replace r6 := r6.ext hE); clear hE
          (repeat (first | (refine seq_skip (by rfl) ?_; intro K hK; simp only [Act.put, List.setIfInBounds_toArray, List.set_cons_zero, List.set_cons_succ]; refine hK _ ?_; clear hK K) | (refine seq_skipc (by rfl) ?_; intro K hK; simp only [Act.put, List.setIfInBounds_toArray, List.set_cons_zero, List.set_cons_succ]; refine hK _ ?_; clear hK K) | (refine seq_read (by rfl) (by rfl) ?_; intro K hK; go_big_quiet_op; first | go_big_quiet_on | (refine ⟨_, fun _ _ => rfl, ?_⟩; go_big_quiet_on))))
          refine seq_done ?_
          go_wp2
          go_ret
          exact ⟨rfl, HE.out⟩
      · skip
        refine seq_run (.slice (some ⟨W0.heap.size, 0, none⟩) 2 2) (W0.alloc (.cells #[.bool g.ha, .int .u64 (g.ad : Int), .bool g.hn, .int .u64 (g.n : Int), .bool f.ha, .int .u64 (f.ad : Int), .bool f.hn, .int .u64 (f.n : Int)] 24)) (by rfl) ?_ ((Ext.refl _).alloc _) ?_; (simp [go_sem, execOp, Act.eval]); intro K hK; simp only [Act.put, List.setIfInBounds_toArray, List.set_cons_zero, List.set_cons_succ]; refine hK _ _ ?_; clear hK K
        have r1 := two_fc g f (Blk.new W0 _ _)
        have hE := (Ext.refl W0).alloc (.cells #[.bool g.ha, .int .u64 (g.ad : Int), .bool g.hn, .int .u64 (g.n : Int), .bool f.ha, .int .u64 (f.ad : Int), .bool f.hn, .int .u64 (f.n : Int)] 24)
        (try replace hb := hb.ext hE); (try replace hm := hm.ext hE); (try replace h1 := h1.ext hE); (try replace h2 := h2.ext hE); (try replace h3 := h3.ext hE); (try replace h6 := h6.ext hE); (try replace h7 := h7.ext hE); (try replace k2 := k2.ext hE); (try replace k3 := k3.ext hE); (try replace HE := Lib.hid (HE.out.trans hE)); (try replace r0 := r0.ext hE); (try replace r1 := r1.ext hE); (try replace r2 := r2.ext hE); (try replace r3 := r3.ext hE); (try replace r4 := r4.ext hE); (try replace r5 := r5.ext hE); (try replace r6 := r6.ext hE)
        clear hE
        generalize W0.alloc (.cells #[.bool g.ha, .int .u64 (g.ad : Int), .bool g.hn, .int .u64 (g.n : Int), .bool f.ha, .int .u64 (f.ad : Int), .bool f.hn, .int .u64 (f.n : Int)] 24) = W1 at *
        refine seq_done ?_
        (try simp only [Plan.wp, List.map, nth_z, nth_s])
        refine seq_run (.slice (some ⟨W1.heap.size, 0, none⟩) 2 2) (W1.alloc (.cells #[.bool f.ha, .int .u64 (f.ad : Int), .bool f.hn, .int .u64 (f.n : Int), .bool g.ha, .int .u64 (g.ad : Int), .bool g.hn, .int .u64 (g.n : Int)] 24)) (by rfl) ?_ ((Ext.refl _).alloc _) ?_; (simp [go_sem, execOp, Act.eval]); intro K hK; simp only [Act.put, List.setIfInBounds_toArray, List.set_cons_zero, List.set_cons_succ]; refine hK _ _ ?_; clear hK K
        have r0 := two_fc f g (Blk.new W1 _ _)
        have hE := (Ext.refl W1).alloc (.cells #[.bool f.ha, .int .u64 (f.ad : Int), .bool f.hn, .int .u64 (f.n : Int), .bool g.ha, .int .u64 (g.ad : Int), .bool g.hn, .int .u64 (g.n : Int)] 24)
        (try replace hb := hb.ext hE); (try replace hm := hm.ext hE); (try replace h1 := h1.ext hE); (try replace h2 := h2.ext hE); (try replace h3 := h3.ext hE); (try replace h6 := h6.ext hE); (try replace h7 := h7.ext hE); (try replace k2 := k2.ext hE); (try replace k3 := k3.ext hE); (try replace HE := Lib.hid (HE.out.trans hE)); (try replace r0 := r0.ext hE); (try replace r1 := r1.ext hE); (try replace r2 := r2.ext hE); (try replace r3 := r3.ext hE); (try replace r4 := r4.ext hE); (try replace r5 := r5.ext hE); (try replace r6 := r6.ext hE)
        clear hE
        generalize W1.alloc (.cells #[.bool f.ha, .int .u64 (f.ad : Int), .bool f.hn, .int .u64 (f.n : Int), .bool g.ha, .int .u64 (g.ad : Int), .bool g.hn, .int .u64 (g.n : Int)] 24) = W2 at *
        refine seq_call (cA1 _ _ _ (hrow _ HE.out) r0 (hT.ext HE.out)) rfl Tryd.func18 (by kernel_rfl) (by kernel_rfl) (by rfl) (by rfl) ?_; intro K hK; rintro e w' ⟨A2, c2, rfl, r2, -, hE⟩; refine ⟨_, rfl, hE, ?_⟩; simp only [Act.put, List.setIfInBounds_toArray, List.set_cons_zero, List.set_cons_succ]; refine hK _ _ ?_; clear hK K; (try replace hb := hb.ext hE); (try replace hm := hm.ext hE); (try replace h1 := h1.ext hE); (try replace h2 := h2.ext hE); (try replace h3 := h3.ext hE); (try replace h6 := h6.ext hE); (try replace h7 := h7.ext hE); (try replace k2 := k2.ext hE); (try replace k3 := k3.ext hE); (try replace HE := Lib.hid (HE.out.trans hE)); (try replace r0 := r0.ext hE); (try replace r1 := r1.ext hE); (try replace r2 := r2.ext hE); (try replace r3 := r3.ext hE); (try replace r4 := r4.ext hE); (try replace r5 := r5.ext hE); (try replace r6 := r6.ext hE); clear hE
        refine seq_call (cA2 _ _ _ (hrow _ HE.out) r1 (hT.ext HE.out)) rfl Tryd.func18 (by kernel_rfl) (by kernel_rfl) (by rfl) (by rfl) ?_; intro K hK; rintro e w' ⟨A3, c3, rfl, r3, -, hE⟩; refine ⟨_, rfl, hE, ?_⟩; simp only [Act.put, List.setIfInBounds_toArray, List.set_cons_zero, List.set_cons_succ]; refine hK _ _ ?_; clear hK K; (try replace hb := hb.ext hE); (try replace hm := hm.ext hE); (try replace h1 := h1.ext hE); (try replace h2 := h2.ext hE); (try replace h3 := h3.ext hE); (try replace h6 := h6.ext hE); (try replace h7 := h7.ext hE); (try replace k2 := k2.ext hE); (try replace k3 := k3.ext hE); (try replace HE := Lib.hid (HE.out.trans hE)); (try replace r0 := r0.ext hE); (try replace r1 := r1.ext hE); (try replace r2 := r2.ext hE); (try replace r3 := r3.ext hE); (try replace r4 := r4.ext hE); (try replace r5 := r5.ext hE); (try replace r6 := r6.ext hE); clear hE
        refine seq_call (csa _ _ _ _ _ r2 r3) rfl Tryd.func17 (by kernel_rfl) (by kernel_rfl) (by rfl) (by rfl) ?_; intro K hK; rintro e w' ⟨rfl, hE⟩; refine ⟨_, rfl, hE, ?_⟩; simp only [Act.put, List.setIfInBounds_toArray, List.set_cons_zero, List.set_cons_succ]; refine hK _ _ ?_; clear hK K; (try replace hb := hb.ext hE); (try replace hm := hm.ext hE); (try replace h1 := h1.ext hE); (try replace h2 := h2.ext hE); (try replace h3 := h3.ext hE); (try replace h6 := h6.ext hE); (try replace h7 := h7.ext hE); (try replace k2 := k2.ext hE); (try replace k3 := k3.ext hE); (try replace HE := Lib.hid (HE.out.trans hE)); (try replace r0 := r0.ext hE); (try replace r1 := r1.ext hE); (try replace r2 := r2.ext hE); (try replace r3 := r3.ext hE); (try replace r4 := r4.ext hE); (try replace r5 := r5.ext hE); (try replace r6 := r6.ext hE); clear hE
        (repeat (first | (refine seq_skip (by rfl) ?_; intro K hK; simp only [Act.put, List.setIfInBounds_toArray, List.set_cons_zero, List.set_cons_succ]; refine hK _ ?_; clear hK K) | (refine seq_skipc (by rfl) ?_; intro K hK; simp only [Act.put, List.setIfInBounds_toArray, List.set_cons_zero, List.set_cons_succ]; refine hK _ ?_; clear hK K) | (refine seq_read (by rfl) (by rfl) ?_; intro K hK; go_big_quiet_op; first | go_big_quiet_on | (refine ⟨_, fun _ _ => rfl, ?_⟩; go_big_quiet_on))))
        refine seq_load rfl rfl (fun x hx => Blk.ext (h1) hx) rfl Tryd.underlying37 (by kernel_rfl) (by rfl) ?_; intro K hK; simp only [Act.put, List.setIfInBounds_toArray, List.set_cons_zero, List.set_cons_succ]; refine hK _ ?_; clear hK K
        refine seq_build_as rfl (fc0_build) (by rfl) ?_; intro K hK; simp only [Act.put, List.setIfInBounds_toArray, List.set_cons_zero, List.set_cons_succ]; refine hK _ ?_; clear hK K
        refine seq_call (cd0 _ (hrow _ HE.out) (hT.ext HE.out)) rfl Tryd.func20 (by kernel_rfl) (by kernel_rfl) (by rfl) (by rfl) ?_; intro K hK; rintro e w' ⟨A4, c4, rfl, r4, -, hE⟩; refine ⟨_, rfl, hE, ?_⟩; simp only [Act.put, List.setIfInBounds_toArray, List.set_cons_zero, List.set_cons_succ]; refine hK _ _ ?_; clear hK K; (try replace hb := hb.ext hE); (try replace hm := hm.ext hE); (try replace h1 := h1.ext hE); (try replace h2 := h2.ext hE); (try replace h3 := h3.ext hE); (try replace h6 := h6.ext hE); (try replace h7 := h7.ext hE); (try replace k2 := k2.ext hE); (try replace k3 := k3.ext hE); (try replace HE := Lib.hid (HE.out.trans hE)); (try replace r0 := r0.ext hE); (try replace r1 := r1.ext hE); (try replace r2 := r2.ext hE); (try replace r3 := r3.ext hE); (try replace r4 := r4.ext hE); (try replace r5 := r5.ext hE); (try replace r6 := r6.ext hE); clear hE
        refine seq_call (ral _ _ _ r4) rfl Tryd.func22 (by kernel_rfl) (by kernel_rfl) (by rfl) (by rfl) ?_; intro K hK; rintro e w' ⟨A7, c7, rfl, -, -, hE⟩; refine ⟨_, rfl, hE, ?_⟩; simp only [Act.put, List.setIfInBounds_toArray, List.set_cons_zero, List.set_cons_succ]; refine hK _ _ ?_; clear hK K; (try replace hb := hb.ext hE); (try replace hm := hm.ext hE); (try replace h1 := h1.ext hE); (try replace h2 := h2.ext hE); (try replace h3 := h3.ext hE); (try replace h6 := h6.ext hE); (try replace h7 := h7.ext hE); (try replace k2 := k2.ext hE); (try replace k3 := k3.ext hE); (try replace HE := Lib.hid (HE.out.trans hE)); (try replace r0 := r0.ext hE); (try replace r1 := r1.ext hE); (try replace r2 := r2.ext hE); (try replace r3 := r3.ext hE); (try replace r4 := r4.ext hE); (try replace r5 := r5.ext hE); (try replace r6 := r6.ext hE); clear hE
        (repeat (first | (refine seq_skip (by rfl) ?_; intro K hK; simp only [Act.put, List.setIfInBounds_toArray, List.set_cons_zero, List.set_cons_succ]; refine hK _ ?_; clear hK K) | (refine seq_skipc (by rfl) ?_; intro K hK; simp only [Act.put, List.setIfInBounds_toArray, List.set_cons_zero, List.set_cons_succ]; refine hK _ ?_; clear hK K) | (refine seq_read (by rfl) (by rfl) ?_; intro K hK; go_big_quiet_op; first | go_big_quiet_on | (refine ⟨_, fun _ _ => rfl, ?_⟩; go_big_quiet_on))))
        refine seq_done ?_
        go_wp2
        go_ret
        exact ⟨rfl, HE.out⟩
end Go.Proofs.YtlimipjfdecbfaaDoor
