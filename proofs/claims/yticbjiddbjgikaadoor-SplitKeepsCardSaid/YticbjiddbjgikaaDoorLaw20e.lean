/- SplitKeeps. -/
import Derived.Test.YticbjiddbjgikaaDoorGlaw
import Derived.Test.YticbjiddbjgikaaDoorLaw19a
import Derived.Test.YticbjiddbjgikaaDoorGflo
namespace Go.Proofs.YticbjiddbjgikaaDoor
open Go.ChangeShapes Go.WideShapes Go.ChangeAt Go.RowKit
set_option linter.unusedVariables false
set_option linter.unusedSimpArgs false
set_option maxRecDepth 10000
attribute [local irreducible] World.setRow World.alloc Blk
theorem dn_any {S P M a k F : Nat} {L : List (Nat × Nat)} {D : Nat × List (Nat × Nat) × Nat × Nat} {w w' : World} {r : Ending} (h : DnP S P M a k L F D w r w') : ∃ v, r = .returned v ∧ Ext w w' := by
  obtain ⟨B, d, hE, h | h⟩ := h
  · exact ⟨_, h.2.1, hE⟩
  · exact ⟨_, h.2.1, hE⟩
theorem to_any {S P M a k n t F : Nat} {L : List (Nat × Nat)} {D : Nat × List (Nat × Nat) × Nat} {w w' : World} {r : Ending} (h : ToP S P M a k n t L F D w r w') : ∃ v, r = .returned v ∧ Ext w w' := by
  obtain ⟨B, d, hE, h | h⟩ := h
  · exact ⟨_, h.2.1, hE⟩
  · exact ⟨_, h.2.1, hE⟩
theorem pr_any {S P M : Nat} {q : List (Nat × Nat) × Nat} {w w' : World} {r : Ending} (h : ∃ B' d', r = .returned (.tuple #[.agg #[.int .u64 (S : Int), .slice B' q.1.length d'], .agg #[.int .u64 (P : Int), .int .i64 (M : Int), .int .u64 (q.2 : Int)]]) ∧ Mem w' S B' q.1 d' ∧ Ext w w') : ∃ v, r = .returned v ∧ Ext w w' := by
  obtain ⟨B, d, h1, -, h2⟩ := h
  exact ⟨_, h1, h2⟩
set_option maxRecDepth 100000 in
set_option maxHeartbeats 16000000 in
theorem SplitKeeps_w (caw : Awk20) (S : Nat) (B : Option Addr) (L : List (Nat × Nat)) (d P : Nat) (M : Int) (F t : Nat) (l : Int) (a : Nat) (z : Nat) (hS : S < 18446744073709551616) (hL : IsCells L) (hP : P < 18446744073709551616) (hM0 : -9223372036854775808 ≤ M) (hM1 : M ≤ 9223372036854775807) (hF : F < 18446744073709551616) (ht : t < 18446744073709551616) (hl : -9223372036854775808 ≤ l ∧ l ≤ 9223372036854775807) (ha : a < 18446744073709551616) (hz : z < 256) (w : World) (hm : RowL w B L d) (hT : Tab w ∧ Siz w) :
    Calls Tryd.prog 5 #[.agg #[.int .u64 (S : Int), .slice B L.length d], .agg #[.int .u64 (P : Int), .int .i64 M, .int .u64 (F : Int)], .int .u64 (t : Int), .int .i64 l, .int .u64 (a : Int), .int .u8 (z : Int)] w fun r w' => r = .returned (.bool true) ∧ Ext w w' := by
  obtain ⟨h1, h2⟩ := blk_two (Ext.refl ((w.alloc (.cells #[.int .u64 (S : Int), .slice B L.length d] 25)).alloc (.cells #[.int .u64 (P : Int), .int .i64 M, .int .u64 (F : Int)] 27)))
  have HE := Lib.hid (((Ext.refl w).alloc (.cells #[.int .u64 (S : Int), .slice B L.length d] 25)).alloc (.cells #[.int .u64 (P : Int), .int .i64 M, .int .u64 (F : Int)] 27))
  generalize hW1 : (w.alloc (.cells #[.int .u64 (S : Int), .slice B L.length d] 25)).alloc (.cells #[.int .u64 (P : Int), .int .i64 M, .int .u64 (F : Int)] 27) = W1 at h1 h2 HE
  have HW1 := Lib.hid hW1
  clear hW1
  have hTE : ∀ W : World, Ext w W → Tab W ∧ Siz W := fun W e => ⟨Tab.below hT.1 e, hT.2.ext e⟩
  have hmr : ∀ W : World, Ext w W → RowL W B L d := fun W e => hm.ext e
  have cfw := fun W (r : RowL W B L d) => few20_c S P M F B L d t l hS hL ht hP hF hM0 hM1 W r
  have cia := fun W => ris5_c (a : Int) (by omega) (by omega) W
  unfold Awk20 at caw
  go_enter Tryd.func5, Tryd.ntmps5
  go_upto_region 1 with fail
  rw [HW1.out]
  clear HW1
  go_wp2_with (fail); refine (caw _ (hTE _ HE.out)).mono ?_; rintro e w' ⟨rfl, hE⟩; (try replace hb := hb.ext hE); (try replace hz := hz.ext hE); (try replace hm := hm.ext hE); (try replace h1 := h1.ext hE); (try replace h2 := h2.ext hE); (try replace h3 := h3.ext hE); (try replace HE := Lib.hid (HE.out.trans hE)); (try replace r0 := r0.ext hE); (try replace r1 := r1.ext hE); (try replace r2 := r2.ext hE); (try replace r3 := r3.ext hE); (try replace r4 := r4.ext hE); (try replace r5 := r5.ext hE); (try replace r6 := r6.ext hE); clear hE
  go_wp2_with (first | (refine wpList_load_blk (by rfl) 25 _ rfl rfl h1 Tryd.underlying25 rfl (by kernel_rfl) ?_) | (refine wpList_load_blk (by rfl) 27 _ rfl rfl h2 Tryd.underlying27 rfl (by kernel_rfl) ?_))
  refine (cfw _ (hmr _ HE.out)).mono ?_
  rintro e w1 ⟨b, rfl, hb, hE⟩
  (try replace hb := hb.ext hE); (try replace hz := hz.ext hE); (try replace hm := hm.ext hE); (try replace h1 := h1.ext hE); (try replace h2 := h2.ext hE); (try replace h3 := h3.ext hE); (try replace HE := Lib.hid (HE.out.trans hE)); (try replace r0 := r0.ext hE); (try replace r1 := r1.ext hE); (try replace r2 := r2.ext hE); (try replace r3 := r3.ext hE); (try replace r4 := r4.ext hE); (try replace r5 := r5.ext hE); (try replace r6 := r6.ext hE)
  clear hE cfw
  cases b
  case false =>
    clear hb h1 h2 cia
    go_wp2_with fail
    refine (caw _ (hTE _ HE.out)).mono ?_
    rintro e wz ⟨rfl, hE⟩
    replace HE := Lib.hid (HE.out.trans hE)
    clear hE
    go_wp2
    go_ret
    exact ⟨rfl, HE.out⟩
  obtain ⟨m, n, hfw⟩ := hb rfl
  clear hb
  cases hva : vaB (a : Int)
  case false =>
    rw [hva] at cia
    clear hva hfw h1 h2
    go_wp2_with (go_at_call 9; (with_reducible refine (cia _).mono ?_); rintro e wq ⟨rfl, rfl⟩)
    refine (caw _ (hTE _ HE.out)).mono ?_
    rintro e wz ⟨rfl, hE⟩
    replace HE := Lib.hid (HE.out.trans hE)
    clear hE
    go_wp2
    go_ret
    exact ⟨rfl, HE.out⟩
  rw [hva] at cia
  clear hva
  obtain ⟨⟨hem, hel, hn2, hso, hpk, hbits, hfit⟩, hlen, htab⟩ := hfw
  subst hem
  subst hel
  have hMm : ∀ W : World, Ext w W → Mem W S B L d := fun W e => ⟨hm.ext e, hfit.rl, hso, by omega⟩
  go_wp2_with (go_at_call 9; (with_reducible refine (cia _).mono ?_); rintro e wq ⟨rfl, rfl⟩)
  have l0 := h1.lt
  have l1 := h2.lt
  refine wp_region_float 13 25 (#[.int .u64 0, .slice none 0 0]) 7 [([(0, false), (1, false), (3, false), (4, false)], 2), ([], 5)] [(6, false)] [(8, true)] (by kernel_rfl) (by kernel_rfl) (fun _ _ => by simp [go_sem, execOp, Act.eval, nth]) (fun _ => rfl) rfl ?_; intro Bd W hE hs0 hwB; have hwE := HE.out.size; (try replace hb := hb.ext hE); (try replace hz := hz.ext hE); (try replace hm := hm.ext hE); (try replace h1 := h1.ext hE); (try replace h2 := h2.ext hE); (try replace h3 := h3.ext hE); (try replace HE := Lib.hid (HE.out.trans hE)); (try replace r0 := r0.ext hE); (try replace r1 := r1.ext hE); (try replace r2 := r2.ext hE); (try replace r3 := r3.ext hE); (try replace r4 := r4.ext hE); (try replace r5 := r5.ext hE); (try replace r6 := r6.ext hE); clear hE; simp only [floatB, List.map, nth_z, nth_s]
  intro x W hE; (try simp only [Act.put, List.setIfInBounds_toArray, List.set_cons_zero, List.set_cons_succ]); (try replace hb := hb.ext hE); (try replace hz := hz.ext hE); (try replace hm := hm.ext hE); (try replace h1 := h1.ext hE); (try replace h2 := h2.ext hE); (try replace h3 := h3.ext hE); (try replace HE := Lib.hid (HE.out.trans hE)); (try replace r0 := r0.ext hE); (try replace r1 := r1.ext hE); (try replace r2 := r2.ext hE); (try replace r3 := r3.ext hE); (try replace r4 := r4.ext hE); (try replace r5 := r5.ext hE); (try replace r6 := r6.ext hE); replace hs0 := Nat.le_trans hs0 hE.size; clear hE
  (repeat (first | (refine seq_skip (by rfl) ?_; intro K hK; simp only [Act.put, List.setIfInBounds_toArray, List.set_cons_zero, List.set_cons_succ]; refine hK _ ?_; clear hK K) | (refine seq_skipc (by rfl) ?_; intro K hK; simp only [Act.put, List.setIfInBounds_toArray, List.set_cons_zero, List.set_cons_succ]; refine hK _ ?_; clear hK K) | (refine seq_read (by rfl) (by rfl) ?_; intro K hK; go_big_quiet_op; first | go_big_quiet_on | (refine ⟨_, fun _ _ => rfl, ?_⟩; go_big_quiet_on))))
  refine seq_value (.int .u64 (S : Int)) (by rfl) (fun x hx => by have hq := (Below.cell hx (p := ⟨w.heap.size, 0, none⟩) (by simp; omega)).trans (h1.cell 0); simp [go_sem, execOp, Act.eval, hq]) ?_; intro K hK; simp only [Act.put, List.setIfInBounds_toArray, List.set_cons_zero, List.set_cons_succ]; refine hK _ ?_; clear hK K
  (repeat (first | (refine seq_skip (by rfl) ?_; intro K hK; simp only [Act.put, List.setIfInBounds_toArray, List.set_cons_zero, List.set_cons_succ]; refine hK _ ?_; clear hK K) | (refine seq_skipc (by rfl) ?_; intro K hK; simp only [Act.put, List.setIfInBounds_toArray, List.set_cons_zero, List.set_cons_succ]; refine hK _ ?_; clear hK K) | (refine seq_read (by rfl) (by rfl) ?_; intro K hK; go_big_quiet_op; first | go_big_quiet_on | (refine ⟨_, fun _ _ => rfl, ?_⟩; go_big_quiet_on))))
  refine seq_value (.slice B L.length d) (by rfl) (fun x hx => by have hq := (Below.cell hx (p := ⟨w.heap.size, 1, none⟩) (by simp; omega)).trans (h1.cell 1); simp [go_sem, execOp, Act.eval, hq]) ?_; intro K hK; simp only [Act.put, List.setIfInBounds_toArray, List.set_cons_zero, List.set_cons_succ]; refine hK _ ?_; clear hK K
  refine seq_done ⟨rfl, rfl, ?_⟩; intro x W hE; (try simp only [Act.put, List.setIfInBounds_toArray, List.set_cons_zero, List.set_cons_succ]); (try replace hb := hb.ext hE); (try replace hz := hz.ext hE); (try replace hm := hm.ext hE); (try replace h1 := h1.ext hE); (try replace h2 := h2.ext hE); (try replace h3 := h3.ext hE); (try replace HE := Lib.hid (HE.out.trans hE)); (try replace r0 := r0.ext hE); (try replace r1 := r1.ext hE); (try replace r2 := r2.ext hE); (try replace r3 := r3.ext hE); (try replace r4 := r4.ext hE); (try replace r5 := r5.ext hE); (try replace r6 := r6.ext hE); replace hs0 := Nat.le_trans hs0 hE.size; clear hE
  refine seq_run (.slice (some ⟨W.heap.size, 0, none⟩) 0 0) (W.alloc (.cells #[] 68)) (by rfl) ?_ ((Below.refl _ _).alloc hs0 _) ?_; (simp [go_sem, execOp, Act.eval]); intro K hK; simp only [Act.put, List.setIfInBounds_toArray, List.set_cons_zero, List.set_cons_succ]; refine hK _ _ ?_; clear hK K
  have hown := own_mono (cp_empty W) hs0
  have hE := (Ext.refl W).alloc (.cells #[] 68)
  (try replace hb := hb.ext hE); (try replace hz := hz.ext hE); (try replace hm := hm.ext hE); (try replace h1 := h1.ext hE); (try replace h2 := h2.ext hE); (try replace h3 := h3.ext hE); (try replace HE := Lib.hid (HE.out.trans hE)); (try replace r0 := r0.ext hE); (try replace r1 := r1.ext hE); (try replace r2 := r2.ext hE); (try replace r3 := r3.ext hE); (try replace r4 := r4.ext hE); (try replace r5 := r5.ext hE); (try replace r6 := r6.ext hE)
  replace hs0 := Nat.le_trans hs0 hE.size
  refine seq_done ⟨kept_ext hE, rfl, ?_⟩
  clear hE
  generalize W.alloc (.cells #[] 68) = We at *
  generalize W.heap.size = ge at *
  intro x W hE; (try simp only [Act.put, List.setIfInBounds_toArray, List.set_cons_zero, List.set_cons_succ]); replace hown := own_ext hown hE; (try replace hb := hb.ext hE); (try replace hz := hz.ext hE); (try replace hm := hm.ext hE); (try replace h1 := h1.ext hE); (try replace h2 := h2.ext hE); (try replace h3 := h3.ext hE); (try replace HE := Lib.hid (HE.out.trans hE)); (try replace r0 := r0.ext hE); (try replace r1 := r1.ext hE); (try replace r2 := r2.ext hE); (try replace r3 := r3.ext hE); (try replace r4 := r4.ext hE); (try replace r5 := r5.ext hE); (try replace r6 := r6.ext hE); replace hs0 := Nat.le_trans hs0 hE.size; clear hE
  refine seq_done ⟨rfl, rfl, ?_⟩
  intro x W hE; (try simp only [Act.put, List.setIfInBounds_toArray, List.set_cons_zero, List.set_cons_succ]); replace hown := own_ext hown hE; (try replace hb := hb.ext hE); (try replace hz := hz.ext hE); (try replace hm := hm.ext hE); (try replace h1 := h1.ext hE); (try replace h2 := h2.ext hE); (try replace h3 := h3.ext hE); (try replace HE := Lib.hid (HE.out.trans hE)); (try replace r0 := r0.ext hE); (try replace r1 := r1.ext hE); (try replace r2 := r2.ext hE); (try replace r3 := r3.ext hE); (try replace r4 := r4.ext hE); (try replace r5 := r5.ext hE); (try replace r6 := r6.ext hE); replace hs0 := Nat.le_trans hs0 hE.size; clear hE
  obtain ⟨A1, c1, W2, hrun, hr1, hbel, hkp⟩ := cp_any hown hs0 (hMm _ HE.out).row (by omega)
  refine seq_append _ (W2) _ _ rfl rfl rfl rfl (by rfl) hrun hbel ?_; intro K hK; simp only [Act.put, List.setIfInBounds_toArray, List.set_cons_zero, List.set_cons_succ]; refine hK _ _ ?_; clear hK K
  refine seq_done ⟨⟨fun g h => hkp g _ _ h (fun e => own_type (t := 25) hown h (by decide) (by rw [e]; rfl)), hbel.size⟩, rfl, ?_⟩
  replace h1 := h1.lower hbel (by omega)
  replace h2 := h2.lower hbel (by omega)
  replace hs0 := Nat.le_trans hs0 hbel.size
  replace HE : Hid (Ext w W2) := Lib.hid (Below.trans HE.out (Below.mono hbel (by omega)))
  clear hrun hbel hkp hown
  intro x W hE; (try simp only [Act.put, List.setIfInBounds_toArray, List.set_cons_zero, List.set_cons_succ]); replace hr1 := hr1.ext hE; (try replace hb := hb.ext hE); (try replace hz := hz.ext hE); (try replace hm := hm.ext hE); (try replace h1 := h1.ext hE); (try replace h2 := h2.ext hE); (try replace h3 := h3.ext hE); (try replace HE := Lib.hid (HE.out.trans hE)); (try replace r0 := r0.ext hE); (try replace r1 := r1.ext hE); (try replace r2 := r2.ext hE); (try replace r3 := r3.ext hE); (try replace r4 := r4.ext hE); (try replace r5 := r5.ext hE); (try replace r6 := r6.ext hE); replace hs0 := Nat.le_trans hs0 hE.size; clear hE
  refine seq_build_as rfl (cp_build S A1 L.length c1) (by rfl) ?_; intro K hK; simp only [Act.put, List.setIfInBounds_toArray, List.set_cons_zero, List.set_cons_succ]; refine hK _ ?_; clear hK K
  refine seq_done ⟨rfl, rfl, ?_⟩; intro gq W hE hn hgB hEg; (try simp only [Act.put, List.setIfInBounds_toArray, List.set_cons_zero, List.set_cons_succ]); replace hr1 := hr1.ext hE; (try replace hb := hb.ext hE); (try replace hz := hz.ext hE); (try replace hm := hm.ext hE); (try replace h1 := h1.ext hE); (try replace h2 := h2.ext hE); (try replace h3 := h3.ext hE); (try replace HE := Lib.hid (HE.out.trans hE)); (try replace r0 := r0.ext hE); (try replace r1 := r1.ext hE); (try replace r2 := r2.ext hE); (try replace r3 := r3.ext hE); (try replace r4 := r4.ext hE); (try replace r5 := r5.ext hE); (try replace r6 := r6.ext hE); replace hs0 := Nat.le_trans hs0 hE.size; clear hE
  have HR := Lib.hid (hr1.row (cp_out hr1 hn) (Nat.le_refl gq) (Nat.lt_succ_self gq) #[.int .u64 (S : Int), .slice A1 L.length c1])
  clear hr1
  refine seq_store_row rfl rfl rfl hn (by kernel_rfl) (by rfl) (by simp [Value.oneCell']) (by rfl) (below_row (Below.refl _ _) hgB _) ?_; intro K hK; simp only [Act.put, List.setIfInBounds_toArray, List.set_cons_zero, List.set_cons_succ]; refine hK _ _ ?_; clear hK K; (repeat (first | (refine seq_skip (by rfl) ?_; intro K hK; simp only [Act.put, List.setIfInBounds_toArray, List.set_cons_zero, List.set_cons_succ]; refine hK _ ?_; clear hK K) | (refine seq_skipc (by rfl) ?_; intro K hK; simp only [Act.put, List.setIfInBounds_toArray, List.set_cons_zero, List.set_cons_succ]; refine hK _ ?_; clear hK K) | (refine seq_read (by rfl) (by rfl) ?_; intro K hK; go_big_quiet_op; first | go_big_quiet_on | (refine ⟨_, fun _ _ => rfl, ?_⟩; go_big_quiet_on)))); refine seq_done ?_; (try replace hb := hb.apart (k := gq) (by omega) (#[.int .u64 (S : Int), .slice A1 L.length c1])); (try replace hz := hz.apart (k := gq) (by omega) (#[.int .u64 (S : Int), .slice A1 L.length c1])); (try replace hm := hm.apart (k := gq) (by omega) (#[.int .u64 (S : Int), .slice A1 L.length c1])); (try replace h1 := h1.apart (k := gq) (by omega) (#[.int .u64 (S : Int), .slice A1 L.length c1])); (try replace h2 := h2.apart (k := gq) (by omega) (#[.int .u64 (S : Int), .slice A1 L.length c1])); (try replace h3 := h3.apart (k := gq) (by omega) (#[.int .u64 (S : Int), .slice A1 L.length c1])); have h3 := hn.row (#[.int .u64 (S : Int), .slice A1 L.length c1]); replace HE := Lib.hid (Ext.row HE.out (show _ ≤ gq by omega) (#[.int .u64 (S : Int), .slice A1 L.length c1])); generalize W.setRow gq (#[.int .u64 (S : Int), .slice A1 L.length c1]) = WF at *; clear hn hEg
  have r0 : Mem WF S A1 L c1 := ⟨HR.out, hfit.rl, hso, by omega⟩
  clear HR hgB hs0 hwB hwE
  obtain ⟨k, hk⟩ : ∃ k, z % (n + 1) = k := ⟨_, rfl⟩
  have hkn : k ≤ n := by rw [← hk]; have := Nat.mod_lt z (show 0 < n + 1 by omega); omega
  have hz1 : (z : Int).tmod ((n : Int) + 1) = (k : Int) := by rw [← hk, show ((n : Int) + 1) = ((n + 1 : Nat) : Int) from rfl, Int.tmod_eq_emod_of_nonneg (by omega)]; rfl
  have hz2 : (z : Int) % ((n : Int) + 1) = (k : Int) := by rw [← hk]; rfl
  clear hk
  have cdn := fun W (q : Mem W S A1 L c1) y => (down20_c (k := k) (a := a) hfit hpk hbits (by omega) htab hn2 hkn ha W q y).mono (fun r w' h => dn_any h)
  have cto := fun W (q : Mem W S A1 L c1) y => (to20_c (k := k) (a := a) hfit hpk hbits (by omega) (by have := tabs_le (reach_mem L a k n t); omega) hn2 hkn ha W q y).mono (fun r w' h => to_any h)
  have cpr := fun W (q : Mem W S A1 L c1) y => (prune20_c (a := a) hfit hpk hbits (by omega) hn2 ha W q y).mono (fun r w' h => pr_any h)
  have csa := fun W (q : Mem W S A1 L c1) (y : Mem W S B L d) => same_xx q y
  rw [decide_eq_true rfl] at csa
  go_wp2_with (first | (refine wpList_load_blk (by rfl) 25 _ rfl rfl h3 Tryd.underlying25 rfl (by kernel_rfl) ?_) | (refine wpList_load_blk (by rfl) 27 _ rfl rfl h2 Tryd.underlying27 rfl (by kernel_rfl) ?_))
  refine (cdn _ r0 (hTE _ HE.out)).mono ?_
  rintro e w2 ⟨v, rfl, hE⟩
  (try replace hb := hb.ext hE); (try replace hz := hz.ext hE); (try replace hm := hm.ext hE); (try replace h1 := h1.ext hE); (try replace h2 := h2.ext hE); (try replace h3 := h3.ext hE); (try replace HE := Lib.hid (HE.out.trans hE)); (try replace r0 := r0.ext hE); (try replace r1 := r1.ext hE); (try replace r2 := r2.ext hE); (try replace r3 := r3.ext hE); (try replace r4 := r4.ext hE); (try replace r5 := r5.ext hE); (try replace r6 := r6.ext hE)
  clear hE
  clear cdn
  go_wp2_with (first | (refine wpList_load_blk (by rfl) 25 _ rfl rfl h3 Tryd.underlying25 rfl (by kernel_rfl) ?_) | (refine wpList_load_blk (by rfl) 27 _ rfl rfl h2 Tryd.underlying27 rfl (by kernel_rfl) ?_))
  refine (cto _ r0 (hTE _ HE.out)).mono ?_
  rintro e w3 ⟨v, rfl, hE⟩
  (try replace hb := hb.ext hE); (try replace hz := hz.ext hE); (try replace hm := hm.ext hE); (try replace h1 := h1.ext hE); (try replace h2 := h2.ext hE); (try replace h3 := h3.ext hE); (try replace HE := Lib.hid (HE.out.trans hE)); (try replace r0 := r0.ext hE); (try replace r1 := r1.ext hE); (try replace r2 := r2.ext hE); (try replace r3 := r3.ext hE); (try replace r4 := r4.ext hE); (try replace r5 := r5.ext hE); (try replace r6 := r6.ext hE)
  clear hE
  clear cto
  go_wp2_with (first | (refine wpList_load_blk (by rfl) 25 _ rfl rfl h3 Tryd.underlying25 rfl (by kernel_rfl) ?_) | (refine wpList_load_blk (by rfl) 27 _ rfl rfl h2 Tryd.underlying27 rfl (by kernel_rfl) ?_))
  refine (cpr _ r0 (hTE _ HE.out)).mono ?_
  rintro e w4 ⟨v, rfl, hE⟩
  (try replace hb := hb.ext hE); (try replace hz := hz.ext hE); (try replace hm := hm.ext hE); (try replace h1 := h1.ext hE); (try replace h2 := h2.ext hE); (try replace h3 := h3.ext hE); (try replace HE := Lib.hid (HE.out.trans hE)); (try replace r0 := r0.ext hE); (try replace r1 := r1.ext hE); (try replace r2 := r2.ext hE); (try replace r3 := r3.ext hE); (try replace r4 := r4.ext hE); (try replace r5 := r5.ext hE); (try replace r6 := r6.ext hE)
  clear hE
  clear cpr
  go_wp2_with (first | (refine wpList_load_blk (by rfl) 25 _ rfl rfl h3 Tryd.underlying25 rfl (by kernel_rfl) ?_) | (refine wpList_load_blk (by rfl) 25 _ rfl rfl h1 Tryd.underlying25 rfl (by kernel_rfl) ?_))
  refine (csa _ r0 (hMm _ HE.out)).mono ?_
  rintro e w5 ⟨rfl, hE⟩
  replace HE := Lib.hid (HE.out.trans hE)
  clear hE
  go_wp2
  go_ret
  exact ⟨rfl, HE.out⟩
end Go.Proofs.YticbjiddbjgikaaDoor
