/- FenceKeeps. -/
import Derived.Test.YtlimipjfdecbfaaDoorLaw15ab
namespace Go.Proofs.YtlimipjfdecbfaaDoor
open Go.ChangeShapes Go.WideShapes Go.ChangeAt Go.RowKit
set_option linter.unusedVariables false
set_option linter.unusedSimpArgs false

def s5 : St := ⟨⟨e0, e0, e0, e0⟩, 5⟩
theorem s5_build : Tryd.prog.built 46 [(1, .int .u8 5)] = some (stC s5) := by unfold s5; simp only [stC_eq, wsC_eq, e0, enC_eq, pmC_eq]; kernel_rfl
attribute [irreducible] s5
theorem blk_ty {w : World} {g g' : Nat} {t t' : TypeId} {cs cs' : Array Value} (h : Blk w g t cs) (k : Blk w g' t' cs') (hne : (t == t') = false) : g ≠ g' := fun e => by
  subst e
  have := h.symm.trans k
  injection this with this
  injection this with h1 h2
  subst h2
  simp at hne
set_option maxRecDepth 100000 in
set_option maxHeartbeats 4000000 in
theorem FenceKeeps_w (A : Option Addr) (L : List St) (c : Nat) (B : Option Addr) (M : List Fc) (d : Nat) (hok : ∀ i, i < M.length → (M.getD i fc0).ok) (w : World) (hr : RowV KS w A L c) (hm : RowV KF w B M d) (hT : Lays w) :
    Calls Tryd.prog 7 #[.agg #[.slice A L.length c], .slice B M.length d] w fun r w' => r = .returned (.bool true) ∧ Ext w w' := by
  have h1 := Blk.new w 37 #[.slice A L.length c]
  have HE := Lib.hid ((Ext.refl w).alloc (.cells #[.slice A L.length c] 37))
  have hrow : ∀ W : World, Ext w W → RowV KS W A L c := fun W h => hr.ext h
  have hfow : ∀ W : World, Ext w W → RowV KF W B M d := fun W h => hm.ext h
  have hLm : L.length ≤ 9223372036854775807 := Nat.le_trans hr.2.2.1 hr.2.2.2
  have hMm : M.length ≤ 9223372036854775807 := Nat.le_trans hm.2.2.1 hm.2.2.2
  have crr := fun w h => rright14_c A L c hLm w h
  clear hr hm
  cases hrt : rightT L
  · rw [hrt] at crr
    go_enter Tryd.func7, Tryd.ntmps7
    go_wp2_with (fail); refine (awake15_c _ (hT.ext HE.out)).mono ?_; rintro e w' ⟨rfl, hE⟩; (try replace hb := hb.ext hE); (try replace hm := hm.ext hE); (try replace h1 := h1.ext hE); (try replace h2 := h2.ext hE); (try replace h3 := h3.ext hE); (try replace h5 := h5.ext hE); (try replace h7 := h7.ext hE); (try replace k1 := k1.ext hE); (try replace k5 := k5.ext hE); (try replace k7 := k7.ext hE); (try replace HE := Lib.hid (HE.out.trans hE))
    clear hE
    go_wp2_with ((refine wpList_load_blk (by rfl) 37 _ rfl rfl (by first | exact h1 | exact h2 | exact h3 | exact h5 | exact h7 | exact k1 | exact k5 | exact k7 | exact hb) Tryd.underlying37 rfl (by kernel_rfl) ?_)); refine (crr _ (hrow _ HE.out)).mono ?_; rintro e w' ⟨rfl, hE⟩; (try replace hb := hb.ext hE); (try replace hm := hm.ext hE); (try replace h1 := h1.ext hE); (try replace h2 := h2.ext hE); (try replace h3 := h3.ext hE); (try replace h5 := h5.ext hE); (try replace h7 := h7.ext hE); (try replace k1 := k1.ext hE); (try replace k5 := k5.ext hE); (try replace k7 := k7.ext hE); (try replace HE := Lib.hid (HE.out.trans hE))
    clear hE
    go_wp2_with (fail); refine (awake15_c _ (hT.ext HE.out)).mono ?_; rintro e w' ⟨rfl, hE⟩; (try replace hb := hb.ext hE); (try replace hm := hm.ext hE); (try replace h1 := h1.ext hE); (try replace h2 := h2.ext hE); (try replace h3 := h3.ext hE); (try replace h5 := h5.ext hE); (try replace h7 := h7.ext hE); (try replace k1 := k1.ext hE); (try replace k5 := k5.ext hE); (try replace k7 := k7.ext hE); (try replace HE := Lib.hid (HE.out.trans hE))
    clear hE
    go_wp2
    go_ret
    exact ⟨rfl, HE.out⟩
  rw [hrt] at crr
  by_cases h50 : 50 < M.length
  · have d0 : decide (50 < (M.length : Int)) = true := by simp; omega
    clear h50
    go_enter Tryd.func7, Tryd.ntmps7
    go_wp2_with (fail); refine (awake15_c _ (hT.ext HE.out)).mono ?_; rintro e w' ⟨rfl, hE⟩; (try replace hb := hb.ext hE); (try replace hm := hm.ext hE); (try replace h1 := h1.ext hE); (try replace h2 := h2.ext hE); (try replace h3 := h3.ext hE); (try replace h5 := h5.ext hE); (try replace h7 := h7.ext hE); (try replace k1 := k1.ext hE); (try replace k5 := k5.ext hE); (try replace k7 := k7.ext hE); (try replace HE := Lib.hid (HE.out.trans hE))
    clear hE
    go_wp2_with ((refine wpList_load_blk (by rfl) 37 _ rfl rfl (by first | exact h1 | exact h2 | exact h3 | exact h5 | exact h7 | exact k1 | exact k5 | exact k7 | exact hb) Tryd.underlying37 rfl (by kernel_rfl) ?_)); refine (crr _ (hrow _ HE.out)).mono ?_; rintro e w' ⟨rfl, hE⟩; (try replace hb := hb.ext hE); (try replace hm := hm.ext hE); (try replace h1 := h1.ext hE); (try replace h2 := h2.ext hE); (try replace h3 := h3.ext hE); (try replace h5 := h5.ext hE); (try replace h7 := h7.ext hE); (try replace k1 := k1.ext hE); (try replace k5 := k5.ext hE); (try replace k7 := k7.ext hE); (try replace HE := Lib.hid (HE.out.trans hE))
    clear hE
    go_wp2_with (fail); refine (awake15_c _ (hT.ext HE.out)).mono ?_; rintro e w' ⟨rfl, hE⟩; (try replace hb := hb.ext hE); (try replace hm := hm.ext hE); (try replace h1 := h1.ext hE); (try replace h2 := h2.ext hE); (try replace h3 := h3.ext hE); (try replace h5 := h5.ext hE); (try replace h7 := h7.ext hE); (try replace k1 := k1.ext hE); (try replace k5 := k5.ext hE); (try replace k7 := k7.ext hE); (try replace HE := Lib.hid (HE.out.trans hE))
    clear hE
    go_wp2
    go_ret
    exact ⟨rfl, HE.out⟩
  have d0 : decide (50 < (M.length : Int)) = false := by simp; omega
  have hl16 := rt_len hrt
  have cal := fun A c B d w h hm k => all15_c A L c hrt B M d hok w h hm k
  have ral := fun w h hm => rall15_c A L c hrt B M d hok w h hm
  have hAl := allF_len M L
  unfold MadeT at cal
  unfold TlbA at ral
  rw [hAl] at cal ral
  have csm := fun A2 c2 A3 c3 w h k => rsame14_c A2 A3 (allF M L) (allF M L) c2 c3 (by omega) (by omega) w h k
  rw [hAl, show decide (allF M L = allF M L) = true by simp] at csm
  have csl := fun A2 c2 A3 c3 w h k => rsame14_c A2 A3 L L c2 c3 (by omega) (by omega) w h k
  rw [show decide (L = L) = true by simp] at csl
  have hcp := fun W (h : RowV KS W A L c) ty => copy_row ks_ok W h (by show L.length * 232 ≤ _; omega) (by unfold maxLen; omega) ty
  have hcf := fun W (h : RowV KF W B M d) ty => copy_row kf_ok W h (by show M.length * 32 ≤ _; omega) (by unfold maxLen; omega) ty
  generalize allF M L = P at *
  clear hrt hok h50
  go_enter Tryd.func7, Tryd.ntmps7
  go_wp2_with (fail); refine (awake15_c _ (hT.ext HE.out)).mono ?_; rintro e w' ⟨rfl, hE⟩; (try replace hb := hb.ext hE); (try replace hm := hm.ext hE); (try replace h1 := h1.ext hE); (try replace h2 := h2.ext hE); (try replace h3 := h3.ext hE); (try replace h5 := h5.ext hE); (try replace h7 := h7.ext hE); (try replace k1 := k1.ext hE); (try replace k5 := k5.ext hE); (try replace k7 := k7.ext hE); (try replace HE := Lib.hid (HE.out.trans hE))
  clear hE
  go_wp2_with ((refine wpList_load_blk (by rfl) 37 _ rfl rfl (by first | exact h1 | exact h2 | exact h3 | exact h5 | exact h7 | exact k1 | exact k5 | exact k7 | exact hb) Tryd.underlying37 rfl (by kernel_rfl) ?_)); refine (crr _ (hrow _ HE.out)).mono ?_; rintro e w' ⟨rfl, hE⟩; (try replace hb := hb.ext hE); (try replace hm := hm.ext hE); (try replace h1 := h1.ext hE); (try replace h2 := h2.ext hE); (try replace h3 := h3.ext hE); (try replace h5 := h5.ext hE); (try replace h7 := h7.ext hE); (try replace k1 := k1.ext hE); (try replace k5 := k5.ext hE); (try replace k7 := k7.ext hE); (try replace HE := Lib.hid (HE.out.trans hE))
  clear hE
  clear crr
  have x1 : (w'.alloc (.cells #[] 46)).cell? ⟨w.heap.size, 0, none⟩ = some (.slice A L.length c) := ((h1.alloc _).cell 0).trans rfl
  have hcq := hcp _ (hrow _ HE.out)
  have hgw : w.heap.size ≤ w'.heap.size := HE.out.size
  clear hcp
  go_upto_region 3 with fail
  go_upto_region 4 with (at_builtin; refine wpList_append_run' _ rfl _ _ _ rfl _ _ rfl rfl _ (hcq _) ?_; rintro v3 w3 ⟨hown, hE⟩; obtain ⟨A2, c2, rfl, r2, -⟩ := own_rowv ks_ok hown; (try replace hb := hb.ext hE); (try replace hm := hm.ext hE); (try replace h1 := h1.ext hE); (try replace h2 := h2.ext hE); (try replace h3 := h3.ext hE); (try replace h5 := h5.ext hE); (try replace h7 := h7.ext hE); (try replace k1 := k1.ext hE); (try replace k5 := k5.ext hE); (try replace k7 := k7.ext hE); (try replace HE := Lib.hid (HE.out.trans hE)); (try replace r0 := r0.ext hE); (try replace r1 := r1.ext hE); (try replace r2 := r2.ext hE); (try replace r3 := r3.ext hE); (try replace r4 := r4.ext hE); (try replace r5 := r5.ext hE); (try replace r6 := r6.ext hE); clear hE)
  generalize w'.heap.size = g8 at *
  have h5 := Blk.new w3 37 #[.slice A2 L.length c2]
  have hE := (Ext.refl w3).alloc (.cells #[.slice A2 L.length c2] 37)
  (try replace hb := hb.ext hE); (try replace hm := hm.ext hE); (try replace h1 := h1.ext hE); (try replace h2 := h2.ext hE); (try replace h3 := h3.ext hE); (try replace h5 := h5.ext hE); (try replace h7 := h7.ext hE); (try replace k1 := k1.ext hE); (try replace k5 := k5.ext hE); (try replace k7 := k7.ext hE); (try replace HE := Lib.hid (HE.out.trans hE)); (try replace r0 := r0.ext hE); (try replace r1 := r1.ext hE); (try replace r2 := r2.ext hE); (try replace r3 := r3.ext hE); (try replace r4 := r4.ext hE); (try replace r5 := r5.ext hE); (try replace r6 := r6.ext hE)
  replace hown := own_ext hown hE
  clear hE x1 hcq d0
  generalize w3.heap.size = g5 at *
  generalize w3.alloc (.cells #[.slice A2 L.length c2] 37) = W5 at *
  have hfq := hcf _ (hfow _ HE.out)
  clear hcf
  go_upto_region 5 with (at_builtin; refine wpList_append_run' _ rfl _ _ _ rfl _ _ rfl rfl _ (hfq _) ?_; rintro v4 w4 ⟨hown4, hE⟩; obtain ⟨A6, c6, rfl, r6, -⟩ := own_rowv kf_ok hown4; (try replace hb := hb.ext hE); (try replace hm := hm.ext hE); (try replace h1 := h1.ext hE); (try replace h2 := h2.ext hE); (try replace h3 := h3.ext hE); (try replace h5 := h5.ext hE); (try replace h7 := h7.ext hE); (try replace k1 := k1.ext hE); (try replace k5 := k5.ext hE); (try replace k7 := k7.ext hE); (try replace HE := Lib.hid (HE.out.trans hE)); (try replace r0 := r0.ext hE); (try replace r1 := r1.ext hE); (try replace r2 := r2.ext hE); (try replace r3 := r3.ext hE); (try replace r4 := r4.ext hE); (try replace r5 := r5.ext hE); (try replace r6 := r6.ext hE); replace hown := own_ext hown hE; clear hE hown4)
  clear hfq
  go_wp2_with ((refine wpList_load_blk (by rfl) 37 _ rfl rfl (by first | exact h1 | exact h2 | exact h3 | exact h5 | exact h7 | exact k1 | exact k5 | exact k7 | exact hb) Tryd.underlying37 rfl (by kernel_rfl) ?_)); refine (cal _ _ _ _ _ r2 r6 (hT.ext HE.out)).mono ?_; rintro e w' ⟨A5, c5, rfl, r5, n5, hE⟩; (try replace hb := hb.ext hE); (try replace hm := hm.ext hE); (try replace h1 := h1.ext hE); (try replace h2 := h2.ext hE); (try replace h3 := h3.ext hE); (try replace h5 := h5.ext hE); (try replace h7 := h7.ext hE); (try replace k1 := k1.ext hE); (try replace k5 := k5.ext hE); (try replace k7 := k7.ext hE); (try replace HE := Lib.hid (HE.out.trans hE))
  have nA : ∀ a g, A5 = some a → A2 = some ⟨g, 0, none⟩ → g < a.block := fun a g h k => by
    have h2 := (hown.lt g (by rw [k]; rfl)).2
    have h3 := n5 a h
    omega
  have HA := Lib.hid nA
  replace hown := own_ext hown hE
  replace r2 := r2.ext hE
  replace r6 := r6.ext hE
  clear hE n5 nA cal
  have hE := (Ext.refl w').alloc (.cells #[.slice A5 L.length c5] 37)
  (try replace hb := hb.ext hE); (try replace hm := hm.ext hE); (try replace h1 := h1.ext hE); (try replace h2 := h2.ext hE); (try replace h3 := h3.ext hE); (try replace h5 := h5.ext hE); (try replace h7 := h7.ext hE); (try replace k1 := k1.ext hE); (try replace k5 := k5.ext hE); (try replace k7 := k7.ext hE); (try replace HE := Lib.hid (HE.out.trans hE)); (try replace r0 := r0.ext hE); (try replace r1 := r1.ext hE); (try replace r2 := r2.ext hE); (try replace r3 := r3.ext hE); (try replace r4 := r4.ext hE); (try replace r5 := r5.ext hE); (try replace r6 := r6.ext hE)
  replace hown := own_ext hown hE
  clear hE
  have h7 := Blk.new w' 37 #[.slice A5 L.length c5]
  go_upto_region 6 with fail
  generalize w'.heap.size = g7 at *
  generalize w'.alloc (.cells #[.slice A5 L.length c5] 37) = W7 at *
  go_wp2_with ((refine wpList_load_blk (by rfl) 37 _ rfl rfl (by first | exact h1 | exact h2 | exact h3 | exact h5 | exact h7 | exact k1 | exact k5 | exact k7 | exact hb) Tryd.underlying37 rfl (by kernel_rfl) ?_)); refine (csl _ _ _ _ _ r2 (hrow _ HE.out)).mono ?_; rintro e w' ⟨rfl, hE⟩; (try replace hb := hb.ext hE); (try replace hm := hm.ext hE); (try replace h1 := h1.ext hE); (try replace h2 := h2.ext hE); (try replace h3 := h3.ext hE); (try replace h5 := h5.ext hE); (try replace h7 := h7.ext hE); (try replace k1 := k1.ext hE); (try replace k5 := k5.ext hE); (try replace k7 := k7.ext hE); (try replace HE := Lib.hid (HE.out.trans hE))
  replace hown := own_ext hown hE
  replace r5 := r5.ext hE
  replace r6 := r6.ext hE
  clear hE csl r2
  have b1 := h1
  have b5 := h5
  have b7 := h7
  have q5 := r5
  have q6 := r6
  have HE0 := HE
  have own0 := hown
  clear h1 h5 h7 r5 r6 HE hown
  go_wp2
  go_loopw [8] (fun i wr => ∃ k : Nat, k ≤ M.length ∧ i = .int .i64 k ∧ Ext w' wr) (fun i _ => (M.length - intOf i).toNat)
  case atStart => exact ⟨0, by omega, rfl, Ext.refl _⟩
  case round =>
    obtain ⟨k, hk, rfl, hE⟩ := hrel
    have HB := Lib.hid hE
    clear hE
    by_cases hlt : k < M.length
    · have hkz : (k : Int) < (M.length : Int) := by omega
      obtain ⟨b, off, rfl, hb, hrx⟩ := (q6.ext HB.out).some (by omega)
      obtain ⟨b2, off2, rfl, hb2, hry⟩ := (hfow _ (HE0.out.trans HB.out)).some (by omega)
      have e1 : wr.rangeAt b (off + k * 4) (fcC (M.getD k fc0)).toList := hrx k hlt
      have e2 : wr.rangeAt b2 (off2 + k * 4) (fcC (M.getD k fc0)).toList := hry k hlt
      clear hrx hry q6 hfow q5 b1 b5 b7
      generalize M.getD k fc0 = f at *
      have hne : ∀ w, (binOp .neq 24 (.agg (fcC f)) (.agg (fcC f))).run Tryd.prog w = .ok (.bool false) w := fun w => by rw [neq_fc]; simp
      go_wp2_with fail
      replace HB := Lib.hid HB.out.drew
      replace e1 := rgx_ext (Ext.refl _).drew e1
      replace e2 := rgx_ext (Ext.refl _).drew e2
      refine wp_region_seq [(0, false), (1, false), (2, false), (3, false), (4, false), (5, false), (6, false), (7, false), (8, false)] Ext (by kernel_rfl) (by kernel_rfl) Ext.refl (fun _ _ _ => Ext.trans) ?_; simp only [List.map, nth_z, nth_s]
      (try simp only [Act.put, List.setIfInBounds_toArray, List.set_cons_zero, List.set_cons_succ])
      (repeat (first | (refine seq_skip (by rfl) ?_; intro K hK; simp only [Act.put, List.setIfInBounds_toArray, List.set_cons_zero, List.set_cons_succ]; refine hK _ ?_; clear hK K) | (refine seq_skipc (by rfl) ?_; intro K hK; simp only [Act.put, List.setIfInBounds_toArray, List.set_cons_zero, List.set_cons_succ]; refine hK _ ?_; clear hK K) | (refine seq_read (by rfl) (by rfl) ?_; intro K hK; go_big_quiet_op; first | go_big_quiet_on | (refine ⟨_, fun _ _ => rfl, ?_⟩; go_big_quiet_on))))
      refine seq_load_rng rfl rfl ((fun x hx => rgx_ext hx e1)) rfl Tryd.underlying24 (fc_info _) (by rfl) ?_; intro K hK; simp only [Act.put, List.setIfInBounds_toArray, List.set_cons_zero, List.set_cons_succ]; refine hK _ ?_; clear hK K
      (repeat (first | (refine seq_skip (by rfl) ?_; intro K hK; simp only [Act.put, List.setIfInBounds_toArray, List.set_cons_zero, List.set_cons_succ]; refine hK _ ?_; clear hK K) | (refine seq_skipc (by rfl) ?_; intro K hK; simp only [Act.put, List.setIfInBounds_toArray, List.set_cons_zero, List.set_cons_succ]; refine hK _ ?_; clear hK K) | (refine seq_read (by rfl) (by rfl) ?_; intro K hK; go_big_quiet_op; first | go_big_quiet_on | (refine ⟨_, fun _ _ => rfl, ?_⟩; go_big_quiet_on))))
      refine seq_load_rng rfl rfl ((fun x hx => rgx_ext hx e2)) rfl Tryd.underlying24 (fc_info _) (by rfl) ?_; intro K hK; simp only [Act.put, List.setIfInBounds_toArray, List.set_cons_zero, List.set_cons_succ]; refine hK _ ?_; clear hK K
      refine seq_cmp rfl rfl rfl (fc_guard) (hne) (by rfl) ?_; intro K hK; simp only [Act.put, List.setIfInBounds_toArray, List.set_cons_zero, List.set_cons_succ]; refine hK _ ?_; clear hK K
      (try (repeat (first | (refine seq_skip (by rfl) ?_; intro K hK; simp only [Act.put, List.setIfInBounds_toArray, List.set_cons_zero, List.set_cons_succ]; refine hK _ ?_; clear hK K) | (refine seq_skipc (by rfl) ?_; intro K hK; simp only [Act.put, List.setIfInBounds_toArray, List.set_cons_zero, List.set_cons_succ]; refine hK _ ?_; clear hK K) | (refine seq_read (by rfl) (by rfl) ?_; intro K hK; go_big_quiet_op; first | go_big_quiet_on | (refine ⟨_, fun _ _ => rfl, ?_⟩; go_big_quiet_on)))))
      refine seq_done ?_
      go_wp2
      go_roundw
      case rel => exact ⟨k + 1, by omega, by go_num, HB.out⟩
      case measure => simp [intOf]; omega
    · obtain rfl : k = M.length := by omega
      have h1 := b1.ext HB.out
      have h5 := b5.ext HB.out
      have h7 := b7.ext HB.out
      have r5 := q5.ext HB.out
      have hown := own_ext own0 HB.out
      have HE := Lib.hid (HE0.out.trans HB.out)
      clear b1 b5 b7 q5 q6 own0 HE0 HB hk hlt
      go_wp2
      go_loopw [9] (fun i wx => ∃ (k : Nat) (N : List St), k ≤ L.length ∧ i = .int .i64 k ∧ Hid (N.length = L.length) ∧ wx.ownsRow g8 KS.e KS.sz (.slice A2 L.length c2) L.length (KS.flat N) ∧ Blk wx w.heap.size 37 #[.slice A L.length c] ∧ Blk wx g5 37 #[.slice A2 L.length c2] ∧ Blk wx g7 37 #[.slice A5 L.length c5] ∧ RowV KS wx A5 P c5 ∧ Ext w wx) (fun i _ => (L.length - intOf i).toNat)
      case atStart => exact ⟨0, L, by omega, rfl, Lib.hid rfl, hown, h1, h5, h7, r5, HE.out⟩
      case round =>
        clear hown h1 h5 h7 r5 HE
        obtain ⟨k, N, hk, rfl, HN, hown, h1, h5, h7, r5, hE⟩ := hrel
        have HE := Lib.hid hE
        clear hE
        by_cases hlt : k < L.length
        · have hkz : (k : Int) < (L.length : Int) := by omega
          obtain ⟨g, cap, cur, es, hv5, hbg, hbk, hfit, hes, hown2⟩ := own_put ks_ok (L := N) (i := k) (v := .slice A2 L.length c2) (by rw [HN.out]; exact hown) (by rw [HN.out]; exact hlt) s5
          injection hv5 with z1 z2 z3
          subst z1
          replace hfit : k * 45 + (stC s5).size ≤ cur.size := hfit
          replace hes : putAt cur (k * 45) (stC s5).toList = es := hes
          replace hbk : Blk wr g 46 cur := hbk
          have hlen2 := Lib.hid (show (N.set k s5).length = L.length by rw [List.length_set]; exact HN.out)
          rw [HN.out] at hown2
          have HE9 := Lib.hid (HE.out.row (show w.heap.size ≤ g by omega) es)
          have k1 := h1.apart (blk_ty h1 hbk (by decide)) es
          have k5 := h5.apart (blk_ty h5 hbk (by decide)) es
          have k7 := h7.apart (blk_ty h7 hbk (by decide)) es
          have p5 := r5.row (fun a h e => by have := HA.out a g h rfl; omega) es (k := g)
          have x1 : wr.cell? ⟨g5, 0, none⟩ = some (.slice (some ⟨g, 0, none⟩) L.length c2) := (h5.cell 0).trans rfl
          clear hown HN z2 z3 hk h1 h5 h7 r5 HE
          go_wp2_with (first | (refine wpList_build_as (by rfl) rfl (s5_build) ?_) | (refine wpList_store_part rfl 46 _ _ rfl rfl rfl hbk (hfit) (hes) (st_info _) (stC_one _) ?_))
          go_roundw
          case rel => exact ⟨k + 1, N.set k s5, by omega, by go_num, hlen2, hown2, k1, k5, k7, p5, HE9.out⟩
          case measure => simp [intOf]; omega
        · obtain rfl : k = L.length := by omega
          have x1 : wr.cell? ⟨g5, 0, none⟩ = some (.slice A2 L.length c2) := (h5.cell 0).trans rfl
          clear hown HN hk
          go_wp2_with fail
          (try replace hb := Blk.drew hb); (try replace hm := Blk.drew hm); (try replace h1 := Blk.drew h1); (try replace h2 := Blk.drew h2); (try replace h3 := Blk.drew h3); (try replace h5 := Blk.drew h5); (try replace h7 := Blk.drew h7); (try replace k1 := Blk.drew k1); (try replace k5 := Blk.drew k5); (try replace k7 := Blk.drew k7); replace HE := Lib.hid HE.out.drew
          replace r5 := r5.ext (Ext.refl _).drew
          refine wp_region_seq [(0, false), (1, false), (2, false), (3, true), (4, true), (5, false)] Ext (by kernel_rfl) (by kernel_rfl) Ext.refl (fun _ _ _ => Ext.trans) ?_; simp only [List.map, nth_z, nth_s]
          (try simp only [Act.put, List.setIfInBounds_toArray, List.set_cons_zero, List.set_cons_succ])
          refine seq_load rfl rfl (fun x hx => Blk.ext (h7) hx) rfl Tryd.underlying37 (by kernel_rfl) (by rfl) ?_; intro K hK; simp only [Act.put, List.setIfInBounds_toArray, List.set_cons_zero, List.set_cons_succ]; refine hK _ ?_; clear hK K
          refine seq_load rfl rfl (fun x hx => Blk.ext (h1) hx) rfl Tryd.underlying37 (by kernel_rfl) (by rfl) ?_; intro K hK; simp only [Act.put, List.setIfInBounds_toArray, List.set_cons_zero, List.set_cons_succ]; refine hK _ ?_; clear hK K
          (repeat (first | (refine seq_skip (by rfl) ?_; intro K hK; simp only [Act.put, List.setIfInBounds_toArray, List.set_cons_zero, List.set_cons_succ]; refine hK _ ?_; clear hK K) | (refine seq_skipc (by rfl) ?_; intro K hK; simp only [Act.put, List.setIfInBounds_toArray, List.set_cons_zero, List.set_cons_succ]; refine hK _ ?_; clear hK K) | (refine seq_read (by rfl) (by rfl) ?_; intro K hK; go_big_quiet_op; first | go_big_quiet_on | (refine ⟨_, fun _ _ => rfl, ?_⟩; go_big_quiet_on))))
          refine seq_call (ral _ (hrow _ HE.out) (hfow _ HE.out)) rfl Tryd.func19 (by kernel_rfl) (by kernel_rfl) (by rfl) (by rfl) ?_; intro K hK; rintro e w' ⟨A4, c4, rfl, r4, hE⟩; refine ⟨_, rfl, hE, ?_⟩; simp only [Act.put, List.setIfInBounds_toArray, List.set_cons_zero, List.set_cons_succ]; refine hK _ _ ?_; clear hK K; (try replace hb := hb.ext hE); (try replace hm := hm.ext hE); (try replace h1 := h1.ext hE); (try replace h2 := h2.ext hE); (try replace h3 := h3.ext hE); (try replace h5 := h5.ext hE); (try replace h7 := h7.ext hE); (try replace k1 := k1.ext hE); (try replace k5 := k5.ext hE); (try replace k7 := k7.ext hE); (try replace HE := Lib.hid (HE.out.trans hE)); (try replace r0 := r0.ext hE); (try replace r1 := r1.ext hE); (try replace r2 := r2.ext hE); (try replace r3 := r3.ext hE); (try replace r4 := r4.ext hE); (try replace r5 := r5.ext hE); (try replace r6 := r6.ext hE); clear hE
          refine seq_call (csm _ _ _ _ _ r5 r4) rfl Tryd.func17 (by kernel_rfl) (by kernel_rfl) (by rfl) (by rfl) ?_; intro K hK; rintro e w' ⟨rfl, hE⟩; refine ⟨_, rfl, hE, ?_⟩; simp only [Act.put, List.setIfInBounds_toArray, List.set_cons_zero, List.set_cons_succ]; refine hK _ _ ?_; clear hK K; (try replace hb := hb.ext hE); (try replace hm := hm.ext hE); (try replace h1 := h1.ext hE); (try replace h2 := h2.ext hE); (try replace h3 := h3.ext hE); (try replace h5 := h5.ext hE); (try replace h7 := h7.ext hE); (try replace k1 := k1.ext hE); (try replace k5 := k5.ext hE); (try replace k7 := k7.ext hE); (try replace HE := Lib.hid (HE.out.trans hE)); (try replace r0 := r0.ext hE); (try replace r1 := r1.ext hE); (try replace r2 := r2.ext hE); (try replace r3 := r3.ext hE); (try replace r4 := r4.ext hE); (try replace r5 := r5.ext hE); (try replace r6 := r6.ext hE); clear hE
          (repeat (first | (refine seq_skip (by rfl) ?_; intro K hK; simp only [Act.put, List.setIfInBounds_toArray, List.set_cons_zero, List.set_cons_succ]; refine hK _ ?_; clear hK K) | (refine seq_skipc (by rfl) ?_; intro K hK; simp only [Act.put, List.setIfInBounds_toArray, List.set_cons_zero, List.set_cons_succ]; refine hK _ ?_; clear hK K) | (refine seq_read (by rfl) (by rfl) ?_; intro K hK; go_big_quiet_op; first | go_big_quiet_on | (refine ⟨_, fun _ _ => rfl, ?_⟩; go_big_quiet_on))))
          refine seq_done ?_
          go_wp2
          go_ret
          exact ⟨rfl, HE.out⟩
end Go.Proofs.YtlimipjfdecbfaaDoor
