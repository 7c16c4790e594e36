/- Package table: emptied, Fresh, Back, With. -/
import Derived.Test.YticbjiddbjgikaaDoorGctab
import Derived.Test.YticbjiddbjgikaaDoorGrtac
import Derived.Test.YticbjiddbjgikaaDoorGpoo
import Derived.Test.YticbjiddbjgikaaDoorGpte
import Derived.Test.YticbjiddbjgikaaDoorGite
namespace Go.Proofs.YticbjiddbjgikaaDoor
open Go.ChangeShapes Go.WideShapes Go.ChangeAt Go.RowKit
set_option linter.unusedVariables false
set_option linter.unusedSimpArgs false
set_option maxRecDepth 10000
attribute [local irreducible] World.setRow World.alloc Blk
theorem tclear_m {S : Nat} {B : Option Addr} {L : List (Nat × Nat)} {d f : Nat} (hf : f ≤ 268435600) {w : World} (m : Mem w S B L d) :
    Calls Tryd.prog 98 #[.agg #[.int .u64 (S : Int), .slice B L.length d], .int .u64 ((8 * (512 * f + 0) : Nat) : Int), .int .u64 4096] w (MdO S (clrF L f) w) := by
  have h := clear_c S B L d (8 * (512 * f + 0)) 4096 (S / 8) m.rl (by omega) (by omega) (by omega) (by have := m.few; omega) w m.row
  rw [show ((4096 : Nat) : Int) = 4096 from rfl, show 8 * (512 * f + 0) / 8 = 512 * f by omega, show 4096 / 8 = 512 from rfl] at h
  refine h.mono ?_
  rintro e w' ⟨u, rfl, hown, hE⟩
  obtain ⟨A', c', rfl, hr, ho⟩ := own_row_out hown (Nat.le_refl _)
  have hl : (clearL L (512 * f) (512 * f + 512)).length ≤ L.length := cutL_len (by omega) []
  exact ⟨A', c', rfl, ⟨hr, clearL_is m.rl (by omega), m.ok, Nat.le_trans hl m.few⟩, ho, hE⟩
set_option maxHeartbeats 2000000 in
theorem temptied_c {S : Nat} {B : Option Addr} {L : List (Nat × Nat)} {d f : Nat} (hf : f ≤ 268435600) {w : World} (m : Mem w S B L d) :
    Calls Tryd.prog 80 #[.agg #[.int .u64 (S : Int), .slice B L.length d], .int .u64 (f : Int)] w (MdO S (clrF L f) w) := by
  have cpl := fun W => tplace_c (f := f) (i := 0) hf (by decide) W
  rw [show ((0 : Nat) : Int) = 0 from rfl] at cpl
  have ccl := fun W (k : Mem W S B L d) => tclear_m (f := f) hf k
  unfold MdO at ccl
  have hm : ∀ W : World, Ext w W → Mem W S B L d := fun W e => m.ext e
  generalize clrF L f = K at *
  generalize 8 * (512 * f + 0) = A8 at *
  have h1 : Blk ((w.alloc (.cells #[.int .u64 (S : Int), .slice B L.length d] 25)).alloc (.cells #[.int .u64 0, .slice none 0 0] 25)) w.heap.size 25 #[.int .u64 (S : Int), .slice B L.length d] := (Blk.new w _ _).alloc _
  have k2 : Blk ((w.alloc (.cells #[.int .u64 (S : Int), .slice B L.length d] 25)).alloc (.cells #[.int .u64 0, .slice none 0 0] 25)) (w.heap.size + 1) 25 #[.int .u64 0, .slice none 0 0] := blk_at (by simp)
  have HE := Lib.hid (((Ext.refl w).alloc (.cells #[.int .u64 (S : Int), .slice B L.length d] 25)).alloc (.cells #[.int .u64 0, .slice none 0 0] 25))
  go_enter Tryd.func80, Tryd.ntmps80
  go_upto_region 1 with fail
  have hE := (Ext.refl ((w.alloc (.cells #[.int .u64 (S : Int), .slice B L.length d] 25)).alloc (.cells #[.int .u64 0, .slice none 0 0] 25))).drew
  (try replace hm := hm.ext hE); (try replace h1 := h1.ext hE); (try replace k2 := k2.ext hE); (try replace HE := Lib.hid (HE.out.trans hE)); (try replace r0 := r0.ext hE); (try replace r1 := r1.ext hE); (try replace r2 := r2.ext hE); (try replace r3 := r3.ext hE); (try replace r4 := r4.ext hE); (try replace r5 := r5.ext hE); (try replace r6 := r6.ext hE)
  clear hE
  refine wp_region_seq [(0, false), (1, false), (2, true), (3, true), (4, true)] (Gap (w.heap.size + 1) (w.heap.size + 1 + 1)) (by kernel_rfl) (by kernel_rfl) (Gap.refl _ _) (fun _ _ _ => Gap.trans) ?_; simp only [List.map, nth_z, nth_s]
  generalize ((w.alloc (.cells #[.int .u64 (S : Int), .slice B L.length d] 25)).alloc (.cells #[.int .u64 0, .slice none 0 0] 25)).drew = w2 at *
  have l2 := k2.lt
  refine seq_load rfl rfl (fun x hx => Gap.blk hx (h1) (by omega)) rfl Tryd.underlying25 (by kernel_rfl) (by rfl) ?_; intro K hK; simp only [Act.put, List.setIfInBounds_toArray, List.set_cons_zero, List.set_cons_succ]; refine hK _ ?_; clear hK K
  (repeat (first | (refine seq_skip (by rfl) ?_; intro K hK; simp only [Act.put, List.setIfInBounds_toArray, List.set_cons_zero, List.set_cons_succ]; refine hK _ ?_; clear hK K) | (refine seq_skipc (by rfl) ?_; intro K hK; simp only [Act.put, List.setIfInBounds_toArray, List.set_cons_zero, List.set_cons_succ]; refine hK _ ?_; clear hK K) | (refine seq_read (by rfl) (by rfl) ?_; intro K hK; go_big_quiet_op; first | go_big_quiet_on | (refine ⟨_, fun _ _ => rfl, ?_⟩; go_big_quiet_on))))
  refine seq_call (calls_ext (cpl _)) rfl Tryd.func58 (by kernel_rfl) (by kernel_rfl) (by rfl) (by rfl) ?_; intro K hK; rintro e w' ⟨rfl, hE⟩; refine ⟨_, rfl, (Gap.ext hE), ?_⟩; simp only [Act.put, List.setIfInBounds_toArray, List.set_cons_zero, List.set_cons_succ]; refine hK _ _ ?_; clear hK K
  (try replace hm := hm.ext hE); (try replace h1 := h1.ext hE); (try replace k2 := k2.ext hE); (try replace HE := Lib.hid (HE.out.trans hE)); (try replace r0 := r0.ext hE); (try replace r1 := r1.ext hE); (try replace r2 := r2.ext hE); (try replace r3 := r3.ext hE); (try replace r4 := r4.ext hE); (try replace r5 := r5.ext hE); (try replace r6 := r6.ext hE)
  clear hE
  have l2 := k2.lt
  refine seq_call (ccl _ (hm _ HE.out)) rfl Tryd.func98 (by kernel_rfl) (by kernel_rfl) (by rfl) (by rfl) ?_; intro K hK; rintro e w' ⟨B3, d3, rfl, hM3, hO3, hE⟩; refine ⟨_, rfl, (Gap.ext hE), ?_⟩; simp only [Act.put, List.setIfInBounds_toArray, List.set_cons_zero, List.set_cons_succ]; refine hK _ _ ?_; clear hK K
  have hO5 := hO3 (w.heap.size + 1)
  have hO4 : ∀ lo, Out lo w.heap.size B3 K.length := fun lo a hl ha => by
    have q1 := hO3 lo a hl ha
    have q2 := HE.out.size
    omega
  (try replace hm := hm.ext hE); (try replace h1 := h1.ext hE); (try replace k2 := k2.ext hE); (try replace HE := Lib.hid (HE.out.trans hE)); (try replace r0 := r0.ext hE); (try replace r1 := r1.ext hE); (try replace r2 := r2.ext hE); (try replace r3 := r3.ext hE); (try replace r4 := r4.ext hE); (try replace r5 := r5.ext hE); (try replace r6 := r6.ext hE)
  clear hE hO3
  have l3 := k2.lt
  refine seq_store_row rfl rfl rfl (k2) (by kernel_rfl) (by rfl) (by simp [Value.oneCell']) (by rfl) (Gap.row _ (by omega) (by omega) _) ?_; intro K hK; simp only [Act.put, List.setIfInBounds_toArray, List.set_cons_zero, List.set_cons_succ]; refine hK _ _ ?_; clear hK K
  refine seq_done ?_
  go_wp2
  (try simp only [Exit.inBlock, Exit.then]); refine bodyPost_ret (results_cell_row rfl _ _ _ _ _ _ _ rfl ((k2.row _).mem19) Tryd.underlying25 rfl (by kernel_rfl)) rfl ?_
  exact ⟨B3, d3, rfl, hM3.row' hO5 (Nat.le_refl _) (by omega) _, hO4, HE.out.row (by omega) _⟩
set_option maxHeartbeats 2000000 in
theorem tfresh_no {S : Nat} {B : Option Addr} {L : List (Nat × Nat)} {d P M : Nat} (hM : M ≤ 64) (w : World) (m : Mem w S B L d) (q : Tab w) :
    Calls Tryd.prog 61 #[.agg #[.int .u64 (S : Int), .slice B L.length d], .agg #[.int .u64 (P : Int), .int .i64 (M : Int), .int .u64 0]] w (FrT S L P M 0 0 8 w) := by
  have ctk := fun W (q : Tab W) => take_no P M W q
  have hm : ∀ W : World, Ext w W → Mem W S B L d := fun W e => m.ext e
  obtain ⟨h1, h2, k3, k4, hE⟩ := four_new w #[.int .u64 (S : Int), .slice B L.length d] #[.int .u64 (P : Int), .int .i64 (M : Int), .int .u64 0]
  have HE := Lib.hid hE
  clear hE
  go_enter Tryd.func61, Tryd.ntmps61
  go_upto_region 1 with fail
  generalize (((w.alloc (.cells #[.int .u64 (S : Int), .slice B L.length d] 25)).alloc (.cells #[.int .u64 (P : Int), .int .i64 (M : Int), .int .u64 0] 27)).alloc (.cells #[.int .u64 0, .slice none 0 0] 25)).alloc (.cells #[.int .u64 0, .int .i64 0, .int .u64 0] 27) = W1 at *
  go_wp2_with (refine wpList_load_blk (by rfl) 27 _ rfl rfl h2 Tryd.underlying27 rfl (by kernel_rfl) ?_)
  refine (ctk _ (Tab.below q HE.out)).mono ?_
  rintro e w1 ⟨rfl, hE⟩
  (try replace hm := hm.ext hE); (try replace h1 := h1.ext hE); (try replace h2 := h2.ext hE); (try replace k3 := k3.ext hE); (try replace k4 := k4.ext hE); (try replace hM := hM.ext hE); (try replace HE := Lib.hid (HE.out.trans hE)); (try replace r0 := r0.ext hE); (try replace r1 := r1.ext hE); (try replace r2 := r2.ext hE); (try replace r3 := r3.ext hE); (try replace r4 := r4.ext hE); (try replace r5 := r5.ext hE); (try replace r6 := r6.ext hE)
  clear hE ctk
  go_wp2_with (refine wpList_store_blk rfl 27 _ _ rfl rfl rfl h2 (by kernel_rfl) (by rfl) (by simp [Value.oneCell']) ?_)
  replace h1 := h1.apart (show w.heap.size ≠ w.heap.size + 1 by omega) #[.int .u64 (P : Int), .int .i64 (M : Int), .int .u64 0]
  replace k3 := k3.apart (show w.heap.size + 1 + 1 ≠ w.heap.size + 1 by omega) #[.int .u64 (P : Int), .int .i64 (M : Int), .int .u64 0]
  replace k4 := k4.apart (show w.heap.size + 1 + 1 + 1 ≠ w.heap.size + 1 by omega) #[.int .u64 (P : Int), .int .i64 (M : Int), .int .u64 0]
  replace h2 := h2.row #[.int .u64 (P : Int), .int .i64 (M : Int), .int .u64 0]
  replace HE := Lib.hid (HE.out.row (show w.heap.size ≤ w.heap.size + 1 by omega) #[.int .u64 (P : Int), .int .i64 (M : Int), .int .u64 0])
  generalize w1.setRow (w.heap.size + 1) #[.int .u64 (P : Int), .int .i64 (M : Int), .int .u64 0] = w1b at *
  have hE := (Ext.refl w1b).drew
  (try replace hm := hm.ext hE); (try replace h1 := h1.ext hE); (try replace h2 := h2.ext hE); (try replace k3 := k3.ext hE); (try replace k4 := k4.ext hE); (try replace hM := hM.ext hE); (try replace HE := Lib.hid (HE.out.trans hE)); (try replace r0 := r0.ext hE); (try replace r1 := r1.ext hE); (try replace r2 := r2.ext hE); (try replace r3 := r3.ext hE); (try replace r4 := r4.ext hE); (try replace r5 := r5.ext hE); (try replace r6 := r6.ext hE)
  clear hE
  have l4 := k4.lt
  refine wp_region_seq [(0, false), (1, false), (2, false), (3, true), (4, true), (5, false), (6, false)] (Gap (w.heap.size + 1 + 1) (w.heap.size + 1 + 1 + 1 + 1)) (by kernel_rfl) (by kernel_rfl) (Gap.refl _ _) (fun _ _ _ => Gap.trans) ?_; simp only [List.map, nth_z, nth_s]
  generalize w1b.drew = w2 at *
  refine seq_load rfl rfl (fun x hx => Gap.blk hx (h1) (by omega)) rfl Tryd.underlying25 (by kernel_rfl) (by rfl) ?_; intro K hK; simp only [Act.put, List.setIfInBounds_toArray, List.set_cons_zero, List.set_cons_succ]; refine hK _ ?_; clear hK K
  refine seq_load rfl rfl (fun x hx => Gap.blk hx (h2) (by omega)) rfl Tryd.underlying27 (by kernel_rfl) (by rfl) ?_; intro K hK; simp only [Act.put, List.setIfInBounds_toArray, List.set_cons_zero, List.set_cons_succ]; refine hK _ ?_; clear hK K
  (repeat (first | (refine seq_skip (by rfl) ?_; intro K hK; simp only [Act.put, List.setIfInBounds_toArray, List.set_cons_zero, List.set_cons_succ]; refine hK _ ?_; clear hK K) | (refine seq_skipc (by rfl) ?_; intro K hK; simp only [Act.put, List.setIfInBounds_toArray, List.set_cons_zero, List.set_cons_succ]; refine hK _ ?_; clear hK K) | (refine seq_read (by rfl) (by rfl) ?_; intro K hK; go_big_quiet_op; first | go_big_quiet_on | (refine ⟨_, fun _ _ => rfl, ?_⟩; go_big_quiet_on))))
  refine seq_store_row rfl rfl rfl (k3) (by kernel_rfl) (by rfl) (by simp [Value.oneCell']) (by rfl) (Gap.row _ (by omega) (by omega) _) ?_; intro K hK; simp only [Act.put, List.setIfInBounds_toArray, List.set_cons_zero, List.set_cons_succ]; refine hK _ _ ?_; clear hK K
  replace k4 := k4.apart (show w.heap.size + 1 + 1 + 1 ≠ w.heap.size + 1 + 1 by omega) #[.int .u64 (S : Int), .slice B L.length d]
  refine seq_store_row rfl rfl rfl (k4) (by kernel_rfl) (by rfl) (by simp [Value.oneCell']) (by rfl) (Gap.row _ (by omega) (by omega) _) ?_; intro K hK; simp only [Act.put, List.setIfInBounds_toArray, List.set_cons_zero, List.set_cons_succ]; refine hK _ _ ?_; clear hK K
  (repeat (first | (refine seq_skip (by rfl) ?_; intro K hK; simp only [Act.put, List.setIfInBounds_toArray, List.set_cons_zero, List.set_cons_succ]; refine hK _ ?_; clear hK K) | (refine seq_skipc (by rfl) ?_; intro K hK; simp only [Act.put, List.setIfInBounds_toArray, List.set_cons_zero, List.set_cons_succ]; refine hK _ ?_; clear hK K) | (refine seq_read (by rfl) (by rfl) ?_; intro K hK; go_big_quiet_op; first | go_big_quiet_on | (refine ⟨_, fun _ _ => rfl, ?_⟩; go_big_quiet_on))))
  refine seq_done ?_
  go_wp2
  (try simp only [Exit.inBlock, Exit.then]); (try rw [Exit.noGoto_ret]); refine bodyPost_ret (results_cctt rfl _ _ rfl rfl (((k3.row _).apart (by omega) _)) ((k4.row _)) Tryd.underlying25 rfl (by kernel_rfl) Tryd.underlying27 rfl (by kernel_rfl)) rfl ?_
  have hE2 := (HE.out.row (show w.heap.size ≤ w.heap.size + 1 + 1 by omega) #[.int .u64 (S : Int), .slice B L.length d]).row (show w.heap.size ≤ w.heap.size + 1 + 1 + 1 by omega) #[.int .u64 (P : Int), .int .i64 (M : Int), .int .u64 0]
  exact ⟨B, d, rfl, hm _ hE2, hE2⟩
set_option maxHeartbeats 2000000 in
theorem tfresh_o {S : Nat} {B : Option Addr} {L : List (Nat × Nat)} {d P M F : Nat} (hP : P ≤ 268435456) (hM : M ≤ 64) (hF : F < 2 ^ M) (h0 : F ≠ 0) (w : World) (m : Mem w S B L d) (q : Tab w) :
    Calls Tryd.prog 61 #[.agg #[.int .u64 (S : Int), .slice B L.length d], (.agg #[.int .u64 (P : Int), .int .i64 (M : Int), .int .u64 (F : Int)])] w fun r w' => ∃ B d, r = .returned (.tuple #[.agg #[.int .u64 (S : Int), .slice B (clrF L (P + lowN' F)).length d], (.agg #[.int .u64 (P : Int), .int .i64 (M : Int), .int .u64 (takeF F : Int)]), .int .u64 ((P + lowN' F : Nat) : Int), .int .i64 0]) ∧ Mem w' S B (clrF L (P + lowN' F)) d ∧ (∀ lo, Out lo w.heap.size B (clrF L (P + lowN' F)).length) ∧ Ext w w' := by
  have ctk := fun W (q : Tab W) => take_yes P M F hP (Nat.lt_of_lt_of_le hF (Nat.pow_le_pow_right (by decide) hM)) h0 W q
  have hlo := low_top h0 hM hF
  obtain ⟨f, hf⟩ : ∃ f, P + lowN' F = f := ⟨_, rfl⟩
  rw [hf] at ctk ⊢
  have ccl := fun W (k : Mem W S B L d) => temptied_c (f := f) (by omega) k
  have hf2 : f ≤ 268435600 := by omega
  unfold MdO at ccl
  generalize takeF F = G at *
  generalize clrF L f = K at *
  clear hlo hf h0 hF
  have hm : ∀ W : World, Ext w W → Mem W S B L d := fun W e => m.ext e
  obtain ⟨h1, h2, k3, k4, hE⟩ := four_new w #[.int .u64 (S : Int), .slice B L.length d] #[.int .u64 (P : Int), .int .i64 (M : Int), .int .u64 (F : Int)]
  have HE := Lib.hid hE
  clear hE
  go_enter Tryd.func61, Tryd.ntmps61
  go_upto_region 1 with fail
  generalize (((w.alloc (.cells #[.int .u64 (S : Int), .slice B L.length d] 25)).alloc (.cells #[.int .u64 (P : Int), .int .i64 (M : Int), .int .u64 (F : Int)] 27)).alloc (.cells #[.int .u64 0, .slice none 0 0] 25)).alloc (.cells #[.int .u64 0, .int .i64 0, .int .u64 0] 27) = W1 at *
  go_wp2_with (refine wpList_load_blk (by rfl) 27 _ rfl rfl h2 Tryd.underlying27 rfl (by kernel_rfl) ?_)
  refine (ctk _ (Tab.below q HE.out)).mono ?_
  rintro e w1 ⟨rfl, hE⟩
  (try replace hm := hm.ext hE); (try replace h1 := h1.ext hE); (try replace h2 := h2.ext hE); (try replace k3 := k3.ext hE); (try replace k4 := k4.ext hE); (try replace hM := hM.ext hE); (try replace HE := Lib.hid (HE.out.trans hE)); (try replace r0 := r0.ext hE); (try replace r1 := r1.ext hE); (try replace r2 := r2.ext hE); (try replace r3 := r3.ext hE); (try replace r4 := r4.ext hE); (try replace r5 := r5.ext hE); (try replace r6 := r6.ext hE)
  clear hE ctk
  go_wp2_with (refine wpList_store_blk rfl 27 _ _ rfl rfl rfl h2 (by kernel_rfl) (by rfl) (by simp [Value.oneCell']) ?_)
  replace h1 := h1.apart (show w.heap.size ≠ w.heap.size + 1 by omega) #[.int .u64 (P : Int), .int .i64 (M : Int), .int .u64 (G : Int)]
  replace k3 := k3.apart (show w.heap.size + 1 + 1 ≠ w.heap.size + 1 by omega) #[.int .u64 (P : Int), .int .i64 (M : Int), .int .u64 (G : Int)]
  replace k4 := k4.apart (show w.heap.size + 1 + 1 + 1 ≠ w.heap.size + 1 by omega) #[.int .u64 (P : Int), .int .i64 (M : Int), .int .u64 (G : Int)]
  replace h2 := h2.row #[.int .u64 (P : Int), .int .i64 (M : Int), .int .u64 (G : Int)]
  replace HE := Lib.hid (HE.out.row (show w.heap.size ≤ w.heap.size + 1 by omega) #[.int .u64 (P : Int), .int .i64 (M : Int), .int .u64 (G : Int)])
  generalize w1.setRow (w.heap.size + 1) #[.int .u64 (P : Int), .int .i64 (M : Int), .int .u64 (G : Int)] = w1b at *
  have hE := (Ext.refl w1b).drew
  (try replace hm := hm.ext hE); (try replace h1 := h1.ext hE); (try replace h2 := h2.ext hE); (try replace k3 := k3.ext hE); (try replace k4 := k4.ext hE); (try replace hM := hM.ext hE); (try replace HE := Lib.hid (HE.out.trans hE)); (try replace r0 := r0.ext hE); (try replace r1 := r1.ext hE); (try replace r2 := r2.ext hE); (try replace r3 := r3.ext hE); (try replace r4 := r4.ext hE); (try replace r5 := r5.ext hE); (try replace r6 := r6.ext hE)
  clear hE
  have l4 := k4.lt
  refine wp_region_seq [(0, false), (1, false), (3, false), (4, false), (2, true), (5, true), (6, true), (7, false), (8, false)] (Gap (w.heap.size + 1 + 1) (w.heap.size + 1 + 1 + 1 + 1)) (by kernel_rfl) (by kernel_rfl) (Gap.refl _ _) (fun _ _ _ => Gap.trans) ?_; simp only [List.map, nth_z, nth_s]
  generalize w1b.drew = w2 at *
  have hl2 := k4.lt
  refine seq_load rfl rfl (fun x hx => Gap.blk hx (h1) (by omega)) rfl Tryd.underlying25 (by kernel_rfl) (by rfl) ?_; intro K hK; simp only [Act.put, List.setIfInBounds_toArray, List.set_cons_zero, List.set_cons_succ]; refine hK _ ?_; clear hK K
  (repeat (first | (refine seq_skip (by rfl) ?_; intro K hK; simp only [Act.put, List.setIfInBounds_toArray, List.set_cons_zero, List.set_cons_succ]; refine hK _ ?_; clear hK K) | (refine seq_skipc (by rfl) ?_; intro K hK; simp only [Act.put, List.setIfInBounds_toArray, List.set_cons_zero, List.set_cons_succ]; refine hK _ ?_; clear hK K) | (refine seq_read (by rfl) (by rfl) ?_; intro K hK; go_big_quiet_op; first | go_big_quiet_on | (refine ⟨_, fun _ _ => rfl, ?_⟩; go_big_quiet_on))))
  refine seq_load rfl rfl (fun x hx => Gap.blk hx (h2) (by omega)) rfl Tryd.underlying27 (by kernel_rfl) (by rfl) ?_; intro K hK; simp only [Act.put, List.setIfInBounds_toArray, List.set_cons_zero, List.set_cons_succ]; refine hK _ ?_; clear hK K
  (repeat (first | (refine seq_skip (by rfl) ?_; intro K hK; simp only [Act.put, List.setIfInBounds_toArray, List.set_cons_zero, List.set_cons_succ]; refine hK _ ?_; clear hK K) | (refine seq_skipc (by rfl) ?_; intro K hK; simp only [Act.put, List.setIfInBounds_toArray, List.set_cons_zero, List.set_cons_succ]; refine hK _ ?_; clear hK K) | (refine seq_read (by rfl) (by rfl) ?_; intro K hK; go_big_quiet_op; first | go_big_quiet_on | (refine ⟨_, fun _ _ => rfl, ?_⟩; go_big_quiet_on))))
  refine seq_call (ccl _ (hm _ HE.out)) rfl Tryd.func80 (by kernel_rfl) (by kernel_rfl) (by rfl) (by rfl) ?_; intro K hK; rintro e w' ⟨B3, d3, rfl, hM3, hO3, hE⟩; refine ⟨_, rfl, (Gap.ext hE), ?_⟩; simp only [Act.put, List.setIfInBounds_toArray, List.set_cons_zero, List.set_cons_succ]; refine hK _ _ ?_; clear hK K
  have hO5 : ∀ lo, Out lo w.heap.size B3 K.length := fun lo a hl ha => by
    have q1 := hO3 lo a hl ha
    have q2 := HE.out.size
    omega
  (try replace hm := hm.ext hE); (try replace h1 := h1.ext hE); (try replace h2 := h2.ext hE); (try replace k3 := k3.ext hE); (try replace k4 := k4.ext hE); (try replace hM := hM.ext hE); (try replace HE := Lib.hid (HE.out.trans hE)); (try replace r0 := r0.ext hE); (try replace r1 := r1.ext hE); (try replace r2 := r2.ext hE); (try replace r3 := r3.ext hE); (try replace r4 := r4.ext hE); (try replace r5 := r5.ext hE); (try replace r6 := r6.ext hE)
  clear hE
  have hO4 := hO3 (w.heap.size + 1 + 1)
  clear hO3
  refine seq_store_row rfl rfl rfl (k3) (by kernel_rfl) (by rfl) (by simp [Value.oneCell']) (by rfl) (Gap.row _ (by omega) (by omega) _) ?_; intro K hK; simp only [Act.put, List.setIfInBounds_toArray, List.set_cons_zero, List.set_cons_succ]; refine hK _ _ ?_; clear hK K
  replace k4 := k4.apart (show w.heap.size + 1 + 1 + 1 ≠ w.heap.size + 1 + 1 by omega) #[.int .u64 (S : Int), .slice B3 K.length d3]
  refine seq_store_row rfl rfl rfl (k4) (by kernel_rfl) (by rfl) (by simp [Value.oneCell']) (by rfl) (Gap.row _ (by omega) (by omega) _) ?_; intro K hK; simp only [Act.put, List.setIfInBounds_toArray, List.set_cons_zero, List.set_cons_succ]; refine hK _ _ ?_; clear hK K
  (repeat (first | (refine seq_skip (by rfl) ?_; intro K hK; simp only [Act.put, List.setIfInBounds_toArray, List.set_cons_zero, List.set_cons_succ]; refine hK _ ?_; clear hK K) | (refine seq_skipc (by rfl) ?_; intro K hK; simp only [Act.put, List.setIfInBounds_toArray, List.set_cons_zero, List.set_cons_succ]; refine hK _ ?_; clear hK K) | (refine seq_read (by rfl) (by rfl) ?_; intro K hK; go_big_quiet_op; first | go_big_quiet_on | (refine ⟨_, fun _ _ => rfl, ?_⟩; go_big_quiet_on))))
  refine seq_done ?_
  go_wp2
  (try simp only [Exit.inBlock, Exit.then]); (try rw [Exit.noGoto_ret]); refine bodyPost_ret (results_cctt rfl _ _ rfl rfl (((k3.row _).apart (by omega) _)) ((k4.row _)) Tryd.underlying25 rfl (by kernel_rfl) Tryd.underlying27 rfl (by kernel_rfl)) rfl ?_
  have hE2 := (HE.out.row (show w.heap.size ≤ w.heap.size + 1 + 1 by omega) #[.int .u64 (S : Int), .slice B3 K.length d3]).row (show w.heap.size ≤ w.heap.size + 1 + 1 + 1 by omega) #[.int .u64 (P : Int), .int .i64 (M : Int), .int .u64 (G : Int)]
  exact ⟨B3, d3, rfl, (hM3.row' hO4 (by omega) (by omega) _).row' hO4 (by omega) (by omega) _, hO5, hE2⟩
set_option maxHeartbeats 2000000 in
theorem tback_o {S : Nat} {B : Option Addr} {L : List (Nat × Nat)} {d P M F f : Nat} (hP : P ≤ 268435456) (hM : M ≤ 64) (hF : F < 18446744073709551616) (hf : f ≤ 268435600) (hi : isB P M F f = true) (w : World) (m : Mem w S B L d) :
    Calls Tryd.prog 70 #[.agg #[.int .u64 (S : Int), .slice B L.length d], (.agg #[.int .u64 (P : Int), .int .i64 (M : Int), .int .u64 (F : Int)]), .int .u64 (f : Int)] w fun r w' => ∃ B' d', r = .returned (.tuple #[.agg #[.int .u64 (S : Int), .slice B' (clrF L f).length d'], (.agg #[.int .u64 (P : Int), .int .i64 (M : Int), .int .u64 (freedN P M F f : Int)])]) ∧ Mem w' S B' (clrF L f) d' ∧ (∀ lo, Out lo w.heap.size B' (clrF L f).length) ∧ Ext w w' := by
  have cgv := fun W => give_c P M F f hP hM hF (by omega) W
  have ccl := fun W (k : Mem W S B L d) => temptied_c (f := f) hf k
  unfold MdO at ccl
  rw [hi, if_pos rfl] at cgv
  generalize freedN P M F f = G at *
  generalize clrF L f = K at *
  clear hi
  have hm : ∀ W : World, Ext w W → Mem W S B L d := fun W e => m.ext e
  obtain ⟨h1, h2, k3, k4, hE⟩ := four_new w #[.int .u64 (S : Int), .slice B L.length d] #[.int .u64 (P : Int), .int .i64 (M : Int), .int .u64 (F : Int)]
  have HE := Lib.hid hE
  clear hE
  go_enter Tryd.func70, Tryd.ntmps70
  go_upto_region 1 with fail
  generalize (((w.alloc (.cells #[.int .u64 (S : Int), .slice B L.length d] 25)).alloc (.cells #[.int .u64 (P : Int), .int .i64 (M : Int), .int .u64 (F : Int)] 27)).alloc (.cells #[.int .u64 0, .slice none 0 0] 25)).alloc (.cells #[.int .u64 0, .int .i64 0, .int .u64 0] 27) = W1 at *
  go_wp2_with (refine wpList_load_blk (by rfl) 27 _ rfl rfl h2 Tryd.underlying27 rfl (by kernel_rfl) ?_)
  refine (cgv _).mono ?_
  rintro e w1 ⟨rfl, hE⟩
  (try replace hm := hm.ext hE); (try replace h1 := h1.ext hE); (try replace h2 := h2.ext hE); (try replace k3 := k3.ext hE); (try replace k4 := k4.ext hE); (try replace hM := hM.ext hE); (try replace HE := Lib.hid (HE.out.trans hE)); (try replace r0 := r0.ext hE); (try replace r1 := r1.ext hE); (try replace r2 := r2.ext hE); (try replace r3 := r3.ext hE); (try replace r4 := r4.ext hE); (try replace r5 := r5.ext hE); (try replace r6 := r6.ext hE)
  clear hE cgv
  go_wp2_with (refine wpList_store_blk rfl 27 _ _ rfl rfl rfl h2 (by kernel_rfl) (by rfl) (by simp [Value.oneCell']) ?_)
  replace h1 := h1.apart (show w.heap.size ≠ w.heap.size + 1 by omega) #[.int .u64 (P : Int), .int .i64 (M : Int), .int .u64 (G : Int)]
  replace k3 := k3.apart (show w.heap.size + 1 + 1 ≠ w.heap.size + 1 by omega) #[.int .u64 (P : Int), .int .i64 (M : Int), .int .u64 (G : Int)]
  replace k4 := k4.apart (show w.heap.size + 1 + 1 + 1 ≠ w.heap.size + 1 by omega) #[.int .u64 (P : Int), .int .i64 (M : Int), .int .u64 (G : Int)]
  replace h2 := h2.row #[.int .u64 (P : Int), .int .i64 (M : Int), .int .u64 (G : Int)]
  replace HE := Lib.hid (HE.out.row (show w.heap.size ≤ w.heap.size + 1 by omega) #[.int .u64 (P : Int), .int .i64 (M : Int), .int .u64 (G : Int)])
  generalize w1.setRow (w.heap.size + 1) #[.int .u64 (P : Int), .int .i64 (M : Int), .int .u64 (G : Int)] = w1b at *
  have hE := (Ext.refl w1b).drew
  (try replace hm := hm.ext hE); (try replace h1 := h1.ext hE); (try replace h2 := h2.ext hE); (try replace k3 := k3.ext hE); (try replace k4 := k4.ext hE); (try replace hM := hM.ext hE); (try replace HE := Lib.hid (HE.out.trans hE)); (try replace r0 := r0.ext hE); (try replace r1 := r1.ext hE); (try replace r2 := r2.ext hE); (try replace r3 := r3.ext hE); (try replace r4 := r4.ext hE); (try replace r5 := r5.ext hE); (try replace r6 := r6.ext hE)
  clear hE
  refine wp_region_seq [(0, false), (1, false), (3, false), (2, true), (4, true), (5, true)] (Gap (w.heap.size + 1 + 1) (w.heap.size + 1 + 1 + 1 + 1)) (by kernel_rfl) (by kernel_rfl) (Gap.refl _ _) (fun _ _ _ => Gap.trans) ?_; simp only [List.map, nth_z, nth_s]
  generalize w1b.drew = w2 at *
  have hl2 := k4.lt
  refine seq_load rfl rfl (fun x hx => Gap.blk hx (h1) (by omega)) rfl Tryd.underlying25 (by kernel_rfl) (by rfl) ?_; intro K hK; simp only [Act.put, List.setIfInBounds_toArray, List.set_cons_zero, List.set_cons_succ]; refine hK _ ?_; clear hK K
  (repeat (first | (refine seq_skip (by rfl) ?_; intro K hK; simp only [Act.put, List.setIfInBounds_toArray, List.set_cons_zero, List.set_cons_succ]; refine hK _ ?_; clear hK K) | (refine seq_skipc (by rfl) ?_; intro K hK; simp only [Act.put, List.setIfInBounds_toArray, List.set_cons_zero, List.set_cons_succ]; refine hK _ ?_; clear hK K) | (refine seq_read (by rfl) (by rfl) ?_; intro K hK; go_big_quiet_op; first | go_big_quiet_on | (refine ⟨_, fun _ _ => rfl, ?_⟩; go_big_quiet_on))))
  refine seq_load rfl rfl (fun x hx => Gap.blk hx (h2) (by omega)) rfl Tryd.underlying27 (by kernel_rfl) (by rfl) ?_; intro K hK; simp only [Act.put, List.setIfInBounds_toArray, List.set_cons_zero, List.set_cons_succ]; refine hK _ ?_; clear hK K
  refine seq_call (ccl _ (hm _ HE.out)) rfl Tryd.func80 (by kernel_rfl) (by kernel_rfl) (by rfl) (by rfl) ?_; intro K hK; rintro e w' ⟨B3, d3, rfl, hM3, hO3, hE⟩; refine ⟨_, rfl, (Gap.ext hE), ?_⟩; simp only [Act.put, List.setIfInBounds_toArray, List.set_cons_zero, List.set_cons_succ]; refine hK _ _ ?_; clear hK K
  have hO5 : ∀ lo, Out lo w.heap.size B3 K.length := fun lo a hl ha => by
    have q1 := hO3 lo a hl ha
    have q2 := HE.out.size
    omega
  (try replace hm := hm.ext hE); (try replace h1 := h1.ext hE); (try replace h2 := h2.ext hE); (try replace k3 := k3.ext hE); (try replace k4 := k4.ext hE); (try replace hM := hM.ext hE); (try replace HE := Lib.hid (HE.out.trans hE)); (try replace r0 := r0.ext hE); (try replace r1 := r1.ext hE); (try replace r2 := r2.ext hE); (try replace r3 := r3.ext hE); (try replace r4 := r4.ext hE); (try replace r5 := r5.ext hE); (try replace r6 := r6.ext hE)
  clear hE
  have hO4 := hO3 (w.heap.size + 1 + 1)
  clear hO3
  refine seq_store_row rfl rfl rfl (k3) (by kernel_rfl) (by rfl) (by simp [Value.oneCell']) (by rfl) (Gap.row _ (by omega) (by omega) _) ?_; intro K hK; simp only [Act.put, List.setIfInBounds_toArray, List.set_cons_zero, List.set_cons_succ]; refine hK _ _ ?_; clear hK K
  replace k4 := k4.apart (show w.heap.size + 1 + 1 + 1 ≠ w.heap.size + 1 + 1 by omega) #[.int .u64 (S : Int), .slice B3 K.length d3]
  refine seq_store_row rfl rfl rfl (k4) (by kernel_rfl) (by rfl) (by simp [Value.oneCell']) (by rfl) (Gap.row _ (by omega) (by omega) _) ?_; intro K hK; simp only [Act.put, List.setIfInBounds_toArray, List.set_cons_zero, List.set_cons_succ]; refine hK _ _ ?_; clear hK K
  refine seq_done ?_
  go_wp2
  (try simp only [Exit.inBlock, Exit.then]); (try rw [Exit.noGoto_ret]); refine bodyPost_ret (results_cc rfl _ _ rfl rfl (((k3.row _).apart (by omega) _)) ((k4.row _)) Tryd.underlying25 rfl (by first | exact xx_info _ | kernel_rfl) Tryd.underlying27 rfl (by first | exact xx_info _ | kernel_rfl)) rfl ?_
  have hE2 := (HE.out.row (show w.heap.size ≤ w.heap.size + 1 + 1 by omega) #[.int .u64 (S : Int), .slice B3 K.length d3]).row (show w.heap.size ≤ w.heap.size + 1 + 1 + 1 by omega) #[.int .u64 (P : Int), .int .i64 (M : Int), .int .u64 (G : Int)]
  exact ⟨B3, d3, rfl, (hM3.row' hO4 (by omega) (by omega) _).row' hO4 (by omega) (by omega) _, hO5, hE2⟩
end Go.Proofs.YticbjiddbjgikaaDoor
/- Package table: With: a load of the memory's box at whatever time beside calls, and a store into it. -/
namespace Go.Proofs.YticbjiddbjgikaaDoor
open Go.ChangeShapes Go.WideShapes Go.ChangeAt Go.RowKit
set_option linter.unusedVariables false
set_option linter.unusedSimpArgs false
set_option maxRecDepth 10000
attribute [local irreducible] World.setRow World.alloc Blk
set_option maxHeartbeats 4000000 in
theorem twith_o {S : Nat} {B : Option Addr} {L : List (Nat × Nat)} {d a s l j : Nat} {x p : Pt} (w : World) (hM : Mem w S B L d) (hf : L.length ≤ 35990) (ha : a < 18446744073709551616) (hlt : s < S / 4096) (hle : l ≤ 2) (hje : ixN a l = j) (hmy : mayB p = true) (hok : p.ok) :
    Calls Tryd.prog 35 #[.agg #[.int .u64 (S : Int), .slice B L.length d], .agg (sptC ⟨s, (l : Int), x⟩), .int .u64 (a : Int), .agg (ptC p)] w (MdO S (stS L s j (putN p)) w) := by
  have hj5 : j < 512 := by rw [← hje]; exact ixN_lt a l
  have hSle := hM.ok.le
  have hwb := put_lt hmy
  have cpu := fun W => put_yes p hok hmy W
  have cix := fun W => index5_c (a : Int) (l : Int) (by omega) (by omega) (by omega) (by omega) W
  rw [idx_ix, hje] at cix
  have cpl := fun W => tplace_c (f := s) (i := j) (by omega) hj5 W
  have cst := fun W (m : Mem W S B L d) => store8_o (K := stS L s j (putN p)) m (i := 8 * (512 * s + j)) (v := putN p) hwb (by omega) (by have := hM.ok.mod8; omega) (by omega) (by unfold stS; rfl)
  have hm : ∀ W : World, Ext w W → Mem W S B L d := fun W e => hM.ext e
  have x0 := sptC_tb ⟨s, (l : Int), x⟩
  have x1 := sptC_lv ⟨s, (l : Int), x⟩
  generalize sptC (⟨s, (l : Int), x⟩ : Spt) = SP at *
  have h1 : Blk ((((w.alloc (.cells #[.int .u64 (S : Int), .slice B L.length d] 25)).alloc (.cells SP 34)).alloc (.cells (ptC p) 32)).alloc (.cells #[.int .u64 0, .slice none 0 0] 25)) w.heap.size 25 #[.int .u64 (S : Int), .slice B L.length d] := (((Blk.new w _ _).alloc _).alloc _).alloc _
  have h2 : Blk ((((w.alloc (.cells #[.int .u64 (S : Int), .slice B L.length d] 25)).alloc (.cells SP 34)).alloc (.cells (ptC p) 32)).alloc (.cells #[.int .u64 0, .slice none 0 0] 25)) (w.heap.size + 1) 34 SP := ((blk_at (by simp)).alloc _).alloc _
  have h3 : Blk ((((w.alloc (.cells #[.int .u64 (S : Int), .slice B L.length d] 25)).alloc (.cells SP 34)).alloc (.cells (ptC p) 32)).alloc (.cells #[.int .u64 0, .slice none 0 0] 25)) (w.heap.size + 1 + 1) 32 (ptC p) := (blk_at (by simp)).alloc _
  have k2 : Blk ((((w.alloc (.cells #[.int .u64 (S : Int), .slice B L.length d] 25)).alloc (.cells SP 34)).alloc (.cells (ptC p) 32)).alloc (.cells #[.int .u64 0, .slice none 0 0] 25)) (w.heap.size + 1 + 1 + 1) 25 #[.int .u64 0, .slice none 0 0] := blk_at (by simp)
  have HE := Lib.hid (((((Ext.refl w).alloc (.cells #[.int .u64 (S : Int), .slice B L.length d] 25)).alloc (.cells SP 34)).alloc (.cells (ptC p) 32)).alloc (.cells #[.int .u64 0, .slice none 0 0] 25))
  go_enter Tryd.func35, Tryd.ntmps35
  go_wp2_with (refine wpList_load_blk (by rfl) 32 _ rfl rfl h3 Tryd.underlying32 rfl (by kernel_rfl) ?_)
  generalize (((w.alloc (.cells #[.int .u64 (S : Int), .slice B L.length d] 25)).alloc (.cells SP 34)).alloc (.cells (ptC p) 32)).alloc (.cells #[.int .u64 0, .slice none 0 0] 25) = W1 at *
  refine (cpu _).mono ?_
  rintro e w1 ⟨rfl, hE⟩
  (try replace hm := hm.ext hE); (try replace h1 := h1.ext hE); (try replace h2 := h2.ext hE); (try replace h3 := h3.ext hE); (try replace k2 := k2.ext hE); (try replace hM := hM.ext hE); (try replace hN := hN.ext hE); (try replace HE := Lib.hid (HE.out.trans hE)); (try replace r0 := r0.ext hE); (try replace r1 := r1.ext hE); (try replace r2 := r2.ext hE); (try replace r3 := r3.ext hE); (try replace r4 := r4.ext hE); (try replace r5 := r5.ext hE); (try replace r6 := r6.ext hE)
  clear hE cpu h3
  have l1 := k2.lt
  generalize putN p = v at *
  generalize 8 * (512 * s + j) = A8 at *
  generalize stS L s j v = K at *
  clear hM
  go_wp2_with fail
  refine wp_region_load (Gap w.heap.size (w.heap.size + 1)) (fun a' W => a'.tmps[4]? = some (.pointer (some ⟨w.heap.size, 0, none⟩)) ∧ Blk W w.heap.size 25 #[.int .u64 (S : Int), .slice B L.length d]) 20 (.agg #[.int .u64 (S : Int), .slice B L.length d]) 0 [([(1, false), (2, false), (3, false), (4, false), (5, false), (8, false)], 6), ([], 7)] [] [(9, true), (10, false), (11, false), (12, false), (13, true)] (by kernel_rfl) (by kernel_rfl) (Gap.refl _ _) (fun _ _ _ => Gap.trans) ?_ (fun _ => rfl) rfl ?_
  · intro a' W h
    have e : a'.tmps.getD 4 undef = .pointer (some ⟨w.heap.size, 0, none⟩) := by simp [h.1]
    have hq0 : W.cell? _ = _ := h.2.cell 0
    have hq1 : W.cell? _ = _ := h.2.cell 1
    simp [nth, go_sem, execOp, Act.eval, h.1, hq0, hq1]
  simp only [loadB, List.map, nth_z, nth_s]
  have hE := (Ext.refl w1).drew
  (try replace hm := hm.ext hE); (try replace h1 := h1.ext hE); (try replace h2 := h2.ext hE); (try replace h3 := h3.ext hE); (try replace k2 := k2.ext hE); (try replace hM := hM.ext hE); (try replace hN := hN.ext hE); (try replace HE := Lib.hid (HE.out.trans hE)); (try replace r0 := r0.ext hE); (try replace r1 := r1.ext hE); (try replace r2 := r2.ext hE); (try replace r3 := r3.ext hE); (try replace r4 := r4.ext hE); (try replace r5 := r5.ext hE); (try replace r6 := r6.ext hE)
  clear hE
  generalize w1.drew = w2 at *
  intro y
  (try simp only [Act.put, List.setIfInBounds_toArray, List.set_cons_zero, List.set_cons_succ])
  (repeat (first | (refine seq_skip (by rfl) ?_; intro K hK; simp only [Act.put, List.setIfInBounds_toArray, List.set_cons_zero, List.set_cons_succ]; refine hK _ ?_; clear hK K) | (refine seq_skipc (by rfl) ?_; intro K hK; simp only [Act.put, List.setIfInBounds_toArray, List.set_cons_zero, List.set_cons_succ]; refine hK _ ?_; clear hK K) | (refine seq_read (by rfl) (by rfl) ?_; intro K hK; go_big_quiet_op; first | go_big_quiet_on | (refine ⟨_, fun _ _ => rfl, ?_⟩; go_big_quiet_on))))
  refine seq_value (.int .u64 (s : Int)) (by rfl) (fun x hx => by have hq := ((Gap.blk hx (h2) (by omega)).cell 0).trans (x0); simp [go_sem, execOp, Act.eval, hq]) ?_; intro K hK; simp only [Act.put, List.setIfInBounds_toArray, List.set_cons_zero, List.set_cons_succ]; refine hK _ ?_; clear hK K
  (repeat (first | (refine seq_skip (by rfl) ?_; intro K hK; simp only [Act.put, List.setIfInBounds_toArray, List.set_cons_zero, List.set_cons_succ]; refine hK _ ?_; clear hK K) | (refine seq_skipc (by rfl) ?_; intro K hK; simp only [Act.put, List.setIfInBounds_toArray, List.set_cons_zero, List.set_cons_succ]; refine hK _ ?_; clear hK K) | (refine seq_read (by rfl) (by rfl) ?_; intro K hK; go_big_quiet_op; first | go_big_quiet_on | (refine ⟨_, fun _ _ => rfl, ?_⟩; go_big_quiet_on))))
  refine seq_value (.int .i64 (l : Int)) (by rfl) (fun x hx => by have hq := ((Gap.blk hx (h2) (by omega)).cell 1).trans (x1); simp [go_sem, execOp, Act.eval, hq]) ?_; intro K hK; simp only [Act.put, List.setIfInBounds_toArray, List.set_cons_zero, List.set_cons_succ]; refine hK _ ?_; clear hK K
  (repeat (first | (refine seq_skip (by rfl) ?_; intro K hK; simp only [Act.put, List.setIfInBounds_toArray, List.set_cons_zero, List.set_cons_succ]; refine hK _ ?_; clear hK K) | (refine seq_skipc (by rfl) ?_; intro K hK; simp only [Act.put, List.setIfInBounds_toArray, List.set_cons_zero, List.set_cons_succ]; refine hK _ ?_; clear hK K) | (refine seq_read (by rfl) (by rfl) ?_; intro K hK; go_big_quiet_op; first | go_big_quiet_on | (refine ⟨_, fun _ _ => rfl, ?_⟩; go_big_quiet_on))))
  refine seq_done ⟨⟨rfl, h1⟩, rfl, ?_⟩
  intro y
  (try simp only [Act.put, List.setIfInBounds_toArray, List.set_cons_zero, List.set_cons_succ])
  refine seq_call (calls_ext (cix _)) rfl Tryd.func59 (by kernel_rfl) (by kernel_rfl) (by rfl) (by rfl) ?_; intro K hK; rintro e w' ⟨rfl, hE⟩; refine ⟨_, rfl, (Gap.ext hE), ?_⟩; simp only [Act.put, List.setIfInBounds_toArray, List.set_cons_zero, List.set_cons_succ]; refine hK _ _ ?_; clear hK K
  (try replace hm := hm.ext hE); (try replace h1 := h1.ext hE); (try replace h2 := h2.ext hE); (try replace h3 := h3.ext hE); (try replace k2 := k2.ext hE); (try replace hM := hM.ext hE); (try replace hN := hN.ext hE); (try replace HE := Lib.hid (HE.out.trans hE)); (try replace r0 := r0.ext hE); (try replace r1 := r1.ext hE); (try replace r2 := r2.ext hE); (try replace r3 := r3.ext hE); (try replace r4 := r4.ext hE); (try replace r5 := r5.ext hE); (try replace r6 := r6.ext hE)
  clear hE
  refine seq_done ⟨⟨rfl, h1⟩, rfl, ?_⟩
  intro y
  (try simp only [Act.put, List.setIfInBounds_toArray, List.set_cons_zero, List.set_cons_succ])
  refine seq_done ⟨⟨rfl, h1⟩, rfl, ?_⟩
  intro y
  (try simp only [Act.put, List.setIfInBounds_toArray, List.set_cons_zero, List.set_cons_succ])
  refine seq_call (calls_ext (cpl _)) rfl Tryd.func58 (by kernel_rfl) (by kernel_rfl) (by rfl) (by rfl) ?_; intro K hK; rintro e w' ⟨rfl, hE⟩; refine ⟨_, rfl, (Gap.ext hE), ?_⟩; simp only [Act.put, List.setIfInBounds_toArray, List.set_cons_zero, List.set_cons_succ]; refine hK _ _ ?_; clear hK K
  (try replace hm := hm.ext hE); (try replace h1 := h1.ext hE); (try replace h2 := h2.ext hE); (try replace h3 := h3.ext hE); (try replace k2 := k2.ext hE); (try replace hM := hM.ext hE); (try replace hN := hN.ext hE); (try replace HE := Lib.hid (HE.out.trans hE)); (try replace r0 := r0.ext hE); (try replace r1 := r1.ext hE); (try replace r2 := r2.ext hE); (try replace r3 := r3.ext hE); (try replace r4 := r4.ext hE); (try replace r5 := r5.ext hE); (try replace r6 := r6.ext hE)
  clear hE
  refine seq_done ⟨⟨rfl, h1⟩, rfl, ?_⟩
  intro y
  (try simp only [Act.put, List.setIfInBounds_toArray, List.set_cons_zero, List.set_cons_succ])
  refine seq_done ⟨⟨rfl, h1⟩, rfl, ?_⟩
  (try simp only [Act.put, List.setIfInBounds_toArray, List.set_cons_zero, List.set_cons_succ])
  have l2 := k2.lt
  refine seq_call (cst _ (hm _ HE.out)) rfl Tryd.func68 (by kernel_rfl) (by kernel_rfl) (by rfl) (by rfl) ?_; intro K hK; rintro e w' ⟨A9, c9, rfl, hN, ho, hE⟩; refine ⟨_, rfl, (Gap.ext hE), ?_⟩; simp only [Act.put, List.setIfInBounds_toArray, List.set_cons_zero, List.set_cons_succ]; refine hK _ _ ?_; clear hK K
  have hO9 : ∀ lo, Out lo w.heap.size A9 K.length := fun lo a hl ha => by
    have q1 := ho lo a hl ha
    have q2 := HE.out.size
    omega
  have hO1 := ho w.heap.size
  have hO2 := ho (w.heap.size + 1 + 1 + 1)
  (try replace hm := hm.ext hE); (try replace h1 := h1.ext hE); (try replace h2 := h2.ext hE); (try replace h3 := h3.ext hE); (try replace k2 := k2.ext hE); (try replace hM := hM.ext hE); (try replace hN := hN.ext hE); (try replace HE := Lib.hid (HE.out.trans hE)); (try replace r0 := r0.ext hE); (try replace r1 := r1.ext hE); (try replace r2 := r2.ext hE); (try replace r3 := r3.ext hE); (try replace r4 := r4.ext hE); (try replace r5 := r5.ext hE); (try replace r6 := r6.ext hE)
  clear hE ho
  (repeat (first | (refine seq_skip (by rfl) ?_; intro K hK; simp only [Act.put, List.setIfInBounds_toArray, List.set_cons_zero, List.set_cons_succ]; refine hK _ ?_; clear hK K) | (refine seq_skipc (by rfl) ?_; intro K hK; simp only [Act.put, List.setIfInBounds_toArray, List.set_cons_zero, List.set_cons_succ]; refine hK _ ?_; clear hK K) | (refine seq_read (by rfl) (by rfl) ?_; intro K hK; go_big_quiet_op; first | go_big_quiet_on | (refine ⟨_, fun _ _ => rfl, ?_⟩; go_big_quiet_on))))
  refine seq_store_row rfl rfl rfl (h1) (by kernel_rfl) (by rfl) (by simp [Value.oneCell']) (by rfl) (Gap.row _ (by omega) (by omega) _) ?_; intro K hK; simp only [Act.put, List.setIfInBounds_toArray, List.set_cons_zero, List.set_cons_succ]; refine hK _ _ ?_; clear hK K
  refine seq_done ?_
  replace h1 := h1.row #[.int .u64 (S : Int), .slice A9 K.length c9]
  replace k2 := k2.apart (show w.heap.size + 1 + 1 + 1 ≠ w.heap.size by omega) #[.int .u64 (S : Int), .slice A9 K.length c9]
  replace HE := Lib.hid (HE.out.row (show w.heap.size ≤ w.heap.size by omega) #[.int .u64 (S : Int), .slice A9 K.length c9])
  have HN := Lib.hid (hN.row' hO1 (Nat.le_refl _) (by omega) #[.int .u64 (S : Int), .slice A9 K.length c9])
  clear hN cix cpl cst
  generalize World.setRow _ w.heap.size #[.int .u64 (S : Int), .slice A9 K.length c9] = w5 at *
  go_wp2_with (first | (refine wpList_load_blk (by rfl) 25 _ rfl rfl h1 Tryd.underlying25 rfl (by kernel_rfl) ?_) | (refine wpList_store_blk rfl 25 _ _ rfl rfl rfl k2 (by kernel_rfl) (by rfl) (by simp [Value.oneCell']) ?_))
  (try simp only [Exit.inBlock, Exit.then]); refine bodyPost_ret (results_cell_row rfl _ _ _ _ _ _ _ rfl ((k2.row _).mem19) Tryd.underlying25 rfl (by kernel_rfl)) rfl ?_
  exact ⟨A9, c9, rfl, HN.out.row' hO2 (Nat.le_refl _) (by omega) _, hO9, HE.out.row (by omega) _⟩
end Go.Proofs.YticbjiddbjgikaaDoor
