/- Package split: linked: a fresh table, and the entry that becomes a link to it. -/
import Derived.Test.YticbjiddbjgikaaDoorGsplm
import Derived.Test.YticbjiddbjgikaaDoorGrspm
import Derived.Test.YticbjiddbjgikaaDoorGctai
import Derived.Test.YticbjiddbjgikaaDoorGpte
import Derived.Test.YticbjiddbjgikaaDoorCtabg
import Derived.Test.YticbjiddbjgikaaDoorGctab
import Derived.Test.YticbjiddbjgikaaDoorGrspf
import Derived.Test.YticbjiddbjgikaaDoorGite
namespace Go.Proofs.YticbjiddbjgikaaDoor
open Go.ChangeShapes Go.WideShapes Go.ChangeAt Go.RowKit
set_option linter.unusedVariables false
set_option linter.unusedSimpArgs false
set_option maxRecDepth 10000
attribute [local irreducible] World.setRow World.alloc Blk
def pm0 : Pm := ⟨false, false, false, false⟩
theorem pm0_built : Tryd.prog.built 58 [] = some (pmC pm0) := by rw [pmC_eq]; unfold pm0; kernel_rfl
theorem make0 (f : Nat) : makeP f pm0 false = mkL f := by unfold makeP pm0 mkL; rfl
set_option maxHeartbeats 8000000 in
theorem linked_no {S P M : Nat} {L : List (Nat × Nat)} {B : Option Addr} {d a : Nat} {SP : Spt} (hM64 : M ≤ 64) (w : World) (hM : Mem w S B L d) (hT : Tab w) :
    Calls Tryd.prog 28 #[.agg #[.int .u64 (S : Int), .slice B L.length d], .agg #[.int .u64 (P : Int), .int .i64 (M : Int), .int .u64 0], .agg (sptC SP), .int .u64 (a : Int)] w fun r w' => r = .returned (.tuple #[.agg #[.int .u64 (S : Int), .slice B L.length d], .agg #[.int .u64 (P : Int), .int .i64 (M : Int), .int .u64 0], .int .u64 0, .int .i64 8]) ∧ Ext w w' := by
  have cfr := fun W (m : Mem W S B L d) (q : Tab W) => tfresh_no (P := P) hM64 W m q
  unfold FrT at cfr
  have hMo := fun W (e : Ext w W) => hM.ext e
  have h1 : Blk (((((w.alloc (.cells #[.int .u64 (S : Int), .slice B L.length d] 25)).alloc (.cells #[.int .u64 (P : Int), .int .i64 (M : Int), .int .u64 0] 27)).alloc (.cells (sptC SP) 34)).alloc (.cells #[.int .u64 0, .slice none 0 0] 25)).alloc (.cells #[.int .u64 0, .int .i64 0, .int .u64 0] 27)) (w.heap.size) 25 #[.int .u64 (S : Int), .slice B L.length d] := ((((Blk.new w _ _).alloc _).alloc _).alloc _).alloc _
  have h2 : Blk (((((w.alloc (.cells #[.int .u64 (S : Int), .slice B L.length d] 25)).alloc (.cells #[.int .u64 (P : Int), .int .i64 (M : Int), .int .u64 0] 27)).alloc (.cells (sptC SP) 34)).alloc (.cells #[.int .u64 0, .slice none 0 0] 25)).alloc (.cells #[.int .u64 0, .int .i64 0, .int .u64 0] 27)) (w.heap.size + 1) 27 #[.int .u64 (P : Int), .int .i64 (M : Int), .int .u64 0] := (((blk_at (by simp)).alloc _).alloc _).alloc _
  have h3 : Blk (((((w.alloc (.cells #[.int .u64 (S : Int), .slice B L.length d] 25)).alloc (.cells #[.int .u64 (P : Int), .int .i64 (M : Int), .int .u64 0] 27)).alloc (.cells (sptC SP) 34)).alloc (.cells #[.int .u64 0, .slice none 0 0] 25)).alloc (.cells #[.int .u64 0, .int .i64 0, .int .u64 0] 27)) (w.heap.size + 1 + 1) 34 (sptC SP) := ((blk_at (by simp)).alloc _).alloc _
  have k3 : Blk (((((w.alloc (.cells #[.int .u64 (S : Int), .slice B L.length d] 25)).alloc (.cells #[.int .u64 (P : Int), .int .i64 (M : Int), .int .u64 0] 27)).alloc (.cells (sptC SP) 34)).alloc (.cells #[.int .u64 0, .slice none 0 0] 25)).alloc (.cells #[.int .u64 0, .int .i64 0, .int .u64 0] 27)) (w.heap.size + 1 + 1 + 1) 25 #[.int .u64 0, .slice none 0 0] := (blk_at (by simp)).alloc _
  have k4 : Blk (((((w.alloc (.cells #[.int .u64 (S : Int), .slice B L.length d] 25)).alloc (.cells #[.int .u64 (P : Int), .int .i64 (M : Int), .int .u64 0] 27)).alloc (.cells (sptC SP) 34)).alloc (.cells #[.int .u64 0, .slice none 0 0] 25)).alloc (.cells #[.int .u64 0, .int .i64 0, .int .u64 0] 27)) (w.heap.size + 1 + 1 + 1 + 1) 27 #[.int .u64 0, .int .i64 0, .int .u64 0] := blk_at (by simp)
  have HE := Lib.hid (show Ext w (((((w.alloc (.cells #[.int .u64 (S : Int), .slice B L.length d] 25)).alloc (.cells #[.int .u64 (P : Int), .int .i64 (M : Int), .int .u64 0] 27)).alloc (.cells (sptC SP) 34)).alloc (.cells #[.int .u64 0, .slice none 0 0] 25)).alloc (.cells #[.int .u64 0, .int .i64 0, .int .u64 0] 27)) from (((((Ext.refl w).alloc _).alloc _).alloc _).alloc _).alloc _)
  go_enter Tryd.func28, Tryd.ntmps28
  go_wp2_with (first | (refine wpList_load_blk (by rfl) 25 _ rfl rfl h1 Tryd.underlying25 rfl (by kernel_rfl) ?_) | (refine wpList_load_blk (by rfl) 27 _ rfl rfl h2 Tryd.underlying27 rfl (by kernel_rfl) ?_))
  generalize (((((w.alloc (.cells #[.int .u64 (S : Int), .slice B L.length d] 25)).alloc (.cells #[.int .u64 (P : Int), .int .i64 (M : Int), .int .u64 0] 27)).alloc (.cells (sptC SP) 34)).alloc (.cells #[.int .u64 0, .slice none 0 0] 25)).alloc (.cells #[.int .u64 0, .int .i64 0, .int .u64 0] 27)) = W1 at *
  refine (cfr _ (hMo _ HE.out) (Tab.below hT HE.out)).mono ?_
  rintro e w7 ⟨B2, d2, rfl, -, hE⟩
  (try replace h1 := h1.ext hE); (try replace h2 := h2.ext hE); (try replace h3 := h3.ext hE); (try replace k3 := k3.ext hE); (try replace k4 := k4.ext hE); (try replace hM := hM.ext hE); (try replace HE := Lib.hid (HE.out.trans hE)); (try replace r0 := r0.ext hE); (try replace r1 := r1.ext hE); (try replace r2 := r2.ext hE); (try replace r3 := r3.ext hE); (try replace r4 := r4.ext hE); (try replace r5 := r5.ext hE); (try replace r6 := r6.ext hE)
  clear hE cfr h3
  go_wp2_with fail
  have hE := ((((Ext.refl w7).alloc (.cells #[.int .u64 (S : Int), .slice B2 L.length d2] 25)).alloc (.cells #[.int .u64 (P : Int), .int .i64 (M : Int), .int .u64 0] 27)).drew)
  (try replace h1 := h1.ext hE); (try replace h2 := h2.ext hE); (try replace h3 := h3.ext hE); (try replace k3 := k3.ext hE); (try replace k4 := k4.ext hE); (try replace hM := hM.ext hE); (try replace HE := Lib.hid (HE.out.trans hE)); (try replace r0 := r0.ext hE); (try replace r1 := r1.ext hE); (try replace r2 := r2.ext hE); (try replace r3 := r3.ext hE); (try replace r4 := r4.ext hE); (try replace r5 := r5.ext hE); (try replace r6 := r6.ext hE)
  clear hE
  refine wp_region_seq [(0, false), (1, false), (2, false), (3, true), (4, true), (5, false), (6, false)] (Gap (w.heap.size + 1 + 1 + 1) (w.heap.size + 1 + 1 + 1 + 1 + 1)) (by kernel_rfl) (by kernel_rfl) (Gap.refl _ _) (fun _ _ _ => Gap.trans) ?_; simp only [List.map, nth_z, nth_s]
  generalize ((w7.alloc (.cells #[.int .u64 (S : Int), .slice B2 L.length d2] 25)).alloc (.cells #[.int .u64 (P : Int), .int .i64 (M : Int), .int .u64 0] 27)).drew = wz at *
  refine seq_load rfl rfl (fun x hx => Gap.blk hx (h1) (by omega)) rfl Tryd.underlying25 (by kernel_rfl) (by rfl) ?_; intro K hK; simp only [Act.put, List.setIfInBounds_toArray, List.set_cons_zero, List.set_cons_succ]; refine hK _ ?_; clear hK K
  refine seq_load rfl rfl (fun x hx => Gap.blk hx (h2) (by omega)) rfl Tryd.underlying27 (by kernel_rfl) (by rfl) ?_; intro K hK; simp only [Act.put, List.setIfInBounds_toArray, List.set_cons_zero, List.set_cons_succ]; refine hK _ ?_; clear hK K
  (repeat (first | (refine seq_skip (by rfl) ?_; intro K hK; simp only [Act.put, List.setIfInBounds_toArray, List.set_cons_zero, List.set_cons_succ]; refine hK _ ?_; clear hK K) | (refine seq_skipc (by rfl) ?_; intro K hK; simp only [Act.put, List.setIfInBounds_toArray, List.set_cons_zero, List.set_cons_succ]; refine hK _ ?_; clear hK K) | (refine seq_read (by rfl) (by rfl) ?_; intro K hK; go_big_quiet_op; first | go_big_quiet_on | (refine ⟨_, fun _ _ => rfl, ?_⟩; go_big_quiet_on))))
  refine seq_store_row rfl rfl rfl (k3) (by kernel_rfl) (by rfl) (by simp [Value.oneCell']) (by rfl) (Gap.row _ (by omega) (by omega) _) ?_; intro K hK; simp only [Act.put, List.setIfInBounds_toArray, List.set_cons_zero, List.set_cons_succ]; refine hK _ _ ?_; clear hK K
  replace k4 := k4.apart (show w.heap.size + 1 + 1 + 1 + 1 ≠ w.heap.size + 1 + 1 + 1 by omega) #[.int .u64 (S : Int), .slice B L.length d]
  refine seq_store_row rfl rfl rfl (k4) (by kernel_rfl) (by rfl) (by simp [Value.oneCell']) (by rfl) (Gap.row _ (by omega) (by omega) _) ?_; intro K hK; simp only [Act.put, List.setIfInBounds_toArray, List.set_cons_zero, List.set_cons_succ]; refine hK _ _ ?_; clear hK K
  (repeat (first | (refine seq_skip (by rfl) ?_; intro K hK; simp only [Act.put, List.setIfInBounds_toArray, List.set_cons_zero, List.set_cons_succ]; refine hK _ ?_; clear hK K) | (refine seq_skipc (by rfl) ?_; intro K hK; simp only [Act.put, List.setIfInBounds_toArray, List.set_cons_zero, List.set_cons_succ]; refine hK _ ?_; clear hK K) | (refine seq_read (by rfl) (by rfl) ?_; intro K hK; go_big_quiet_op; first | go_big_quiet_on | (refine ⟨_, fun _ _ => rfl, ?_⟩; go_big_quiet_on))))
  refine seq_done ?_
  go_wp2
  (try simp only [Exit.inBlock, Exit.then]); (try rw [Exit.noGoto_ret]); refine bodyPost_ret (results_cctt rfl _ _ rfl rfl (((k3.row _).apart (by omega) _)) ((k4.row _)) Tryd.underlying25 rfl (by kernel_rfl) Tryd.underlying27 rfl (by kernel_rfl)) rfl ?_
  exact ⟨rfl, (HE.out.row (show w.heap.size ≤ w.heap.size + 1 + 1 + 1 by omega) #[.int .u64 (S : Int), .slice B L.length d]).row (show w.heap.size ≤ w.heap.size + 1 + 1 + 1 + 1 by omega) #[.int .u64 (P : Int), .int .i64 (M : Int), .int .u64 0]⟩
set_option maxHeartbeats 8000000 in
theorem linked_yes {S P M F : Nat} {L : List (Nat × Nat)} {B : Option Addr} {d a s l : Nat} {x : Pt} (hpk : PoolK S P M) (hF : F < 2 ^ M) (h0 : F ≠ 0) (ha : a < 18446744073709551616) (hs : s < S / 4096) (hl : l ≤ 2) (hlen : L.length ≤ 35000) (w : World) (hM : Mem w S B L d) (hT : Tab w) :
    Calls Tryd.prog 28 #[.agg #[.int .u64 (S : Int), .slice B L.length d], .agg #[.int .u64 (P : Int), .int .i64 (M : Int), .int .u64 (F : Int)], .agg (sptC ⟨s, (l : Int), x⟩), .int .u64 (a : Int)] w fun r w' => ∃ B' d', r = .returned (.tuple #[.agg #[.int .u64 (S : Int), .slice B' (frS L (P + lowN' F) s (ixN a l)).length d'], .agg #[.int .u64 (P : Int), .int .i64 (M : Int), .int .u64 ((takeF F : Nat) : Int)], .int .u64 ((P + lowN' F : Nat) : Int), .int .i64 0]) ∧
      Mem w' S B' (frS L (P + lowN' F) s (ixN a l)) d' ∧ (∀ lo, Out lo w.heap.size B' (frS L (P + lowN' F) s (ixN a l)).length) ∧ Ext w w' := by
  have hP := hpk.p
  have hM64 := hpk.m
  have hlo := low_top h0 hM64 hF
  have cfr := fun W (m : Mem W S B L d) (q : Tab W) => tfresh_o hP hM64 hF h0 W m q
  have hMo := fun W (e : Ext w W) => hM.ext e
  obtain ⟨f, hf⟩ : ∃ f, P + lowN' F = f := ⟨_, rfl⟩
  rw [hf] at cfr ⊢
  have hf44 : f < 17592186044416 := by omega
  have cmk := fun W => make_c f pm0 false W
  rw [make0] at cmk
  have hmy := mkL_may hf44
  have hok := mkL_ok hf44
  have hclr : (clrF L f).length ≤ L.length := by unfold clrF; exact cutL_len (by omega) []
  have cwi := fun W B2 d2 (m : Mem W S B2 (clrF L f) d2) => twith_o (x := x) W m (Nat.le_trans hclr (by omega)) ha hs hl rfl hmy hok
  unfold MdO at cwi
  have hfr : frS L f s (ixN a l) = stS (clrF L f) s (ixN a l) (putN (mkL f)) := by unfold frS lnkS; rfl
  rw [hfr]
  clear hfr
  obtain ⟨SP, hSP⟩ : ∃ SP : Spt, (⟨s, (l : Int), x⟩ : Spt) = SP := ⟨_, rfl⟩
  rw [hSP] at cwi ⊢
  generalize stS (clrF L f) s (ixN a l) (putN (mkL f)) = K2 at *
  generalize clrF L f = K at *
  generalize mkL f = lk at *
  generalize takeF F = G at *
  clear hlo hf hmy hok hclr
  have h1 : Blk (((((w.alloc (.cells #[.int .u64 (S : Int), .slice B L.length d] 25)).alloc (.cells #[.int .u64 (P : Int), .int .i64 (M : Int), .int .u64 (F : Int)] 27)).alloc (.cells (sptC SP) 34)).alloc (.cells #[.int .u64 0, .slice none 0 0] 25)).alloc (.cells #[.int .u64 0, .int .i64 0, .int .u64 0] 27)) (w.heap.size) 25 #[.int .u64 (S : Int), .slice B L.length d] := ((((Blk.new w _ _).alloc _).alloc _).alloc _).alloc _
  have h2 : Blk (((((w.alloc (.cells #[.int .u64 (S : Int), .slice B L.length d] 25)).alloc (.cells #[.int .u64 (P : Int), .int .i64 (M : Int), .int .u64 (F : Int)] 27)).alloc (.cells (sptC SP) 34)).alloc (.cells #[.int .u64 0, .slice none 0 0] 25)).alloc (.cells #[.int .u64 0, .int .i64 0, .int .u64 0] 27)) (w.heap.size + 1) 27 #[.int .u64 (P : Int), .int .i64 (M : Int), .int .u64 (F : Int)] := (((blk_at (by simp)).alloc _).alloc _).alloc _
  have h3 : Blk (((((w.alloc (.cells #[.int .u64 (S : Int), .slice B L.length d] 25)).alloc (.cells #[.int .u64 (P : Int), .int .i64 (M : Int), .int .u64 (F : Int)] 27)).alloc (.cells (sptC SP) 34)).alloc (.cells #[.int .u64 0, .slice none 0 0] 25)).alloc (.cells #[.int .u64 0, .int .i64 0, .int .u64 0] 27)) (w.heap.size + 1 + 1) 34 (sptC SP) := ((blk_at (by simp)).alloc _).alloc _
  have k3 : Blk (((((w.alloc (.cells #[.int .u64 (S : Int), .slice B L.length d] 25)).alloc (.cells #[.int .u64 (P : Int), .int .i64 (M : Int), .int .u64 (F : Int)] 27)).alloc (.cells (sptC SP) 34)).alloc (.cells #[.int .u64 0, .slice none 0 0] 25)).alloc (.cells #[.int .u64 0, .int .i64 0, .int .u64 0] 27)) (w.heap.size + 1 + 1 + 1) 25 #[.int .u64 0, .slice none 0 0] := (blk_at (by simp)).alloc _
  have k4 : Blk (((((w.alloc (.cells #[.int .u64 (S : Int), .slice B L.length d] 25)).alloc (.cells #[.int .u64 (P : Int), .int .i64 (M : Int), .int .u64 (F : Int)] 27)).alloc (.cells (sptC SP) 34)).alloc (.cells #[.int .u64 0, .slice none 0 0] 25)).alloc (.cells #[.int .u64 0, .int .i64 0, .int .u64 0] 27)) (w.heap.size + 1 + 1 + 1 + 1) 27 #[.int .u64 0, .int .i64 0, .int .u64 0] := blk_at (by simp)
  have HE := Lib.hid (show Ext w (((((w.alloc (.cells #[.int .u64 (S : Int), .slice B L.length d] 25)).alloc (.cells #[.int .u64 (P : Int), .int .i64 (M : Int), .int .u64 (F : Int)] 27)).alloc (.cells (sptC SP) 34)).alloc (.cells #[.int .u64 0, .slice none 0 0] 25)).alloc (.cells #[.int .u64 0, .int .i64 0, .int .u64 0] 27)) from (((((Ext.refl w).alloc _).alloc _).alloc _).alloc _).alloc _)
  go_enter Tryd.func28, Tryd.ntmps28
  go_wp2_with (first | (refine wpList_load_blk (by rfl) 25 _ rfl rfl h1 Tryd.underlying25 rfl (by kernel_rfl) ?_) | (refine wpList_load_blk (by rfl) 27 _ rfl rfl h2 Tryd.underlying27 rfl (by kernel_rfl) ?_))
  generalize (((((w.alloc (.cells #[.int .u64 (S : Int), .slice B L.length d] 25)).alloc (.cells #[.int .u64 (P : Int), .int .i64 (M : Int), .int .u64 (F : Int)] 27)).alloc (.cells (sptC SP) 34)).alloc (.cells #[.int .u64 0, .slice none 0 0] 25)).alloc (.cells #[.int .u64 0, .int .i64 0, .int .u64 0] 27)) = W1 at *
  refine (cfr _ (hMo _ HE.out) (Tab.below hT HE.out)).mono ?_
  rintro e w7 ⟨B2, d2, rfl, r0, -, hE⟩
  (try replace h1 := h1.ext hE); (try replace h2 := h2.ext hE); (try replace h3 := h3.ext hE); (try replace h6 := h6.ext hE); (try replace h7 := h7.ext hE); (try replace k3 := k3.ext hE); (try replace k4 := k4.ext hE); (try replace hM := hM.ext hE); (try replace HE := Lib.hid (HE.out.trans hE)); (try replace r0 := r0.ext hE); (try replace r1 := r1.ext hE); (try replace r2 := r2.ext hE); (try replace r3 := r3.ext hE); (try replace r4 := r4.ext hE); (try replace r5 := r5.ext hE); (try replace r6 := r6.ext hE)
  clear hE cfr hM hMo
  have l4 := k4.lt
  have h6 : Blk (((w7.alloc (.cells #[.int .u64 (S : Int), .slice B2 K.length d2] 25)).alloc (.cells #[.int .u64 (P : Int), .int .i64 (M : Int), .int .u64 (G : Int)] 27)).drew) w7.heap.size 25 #[.int .u64 (S : Int), .slice B2 K.length d2] := ((Blk.new w7 _ _).alloc _).ext (Ext.refl _).drew
  have h7 : Blk (((w7.alloc (.cells #[.int .u64 (S : Int), .slice B2 K.length d2] 25)).alloc (.cells #[.int .u64 (P : Int), .int .i64 (M : Int), .int .u64 (G : Int)] 27)).drew) (w7.heap.size + 1) 27 #[.int .u64 (P : Int), .int .i64 (M : Int), .int .u64 (G : Int)] := (blk_at (by simp)).ext (Ext.refl _).drew
  go_wp2_with fail
  have h6b := h6
  have h7b := h7
  clear h6 h7
  have hE := ((((Ext.refl w7).alloc (.cells #[.int .u64 (S : Int), .slice B2 K.length d2] 25)).alloc (.cells #[.int .u64 (P : Int), .int .i64 (M : Int), .int .u64 (G : Int)] 27)).drew)
  (try replace h1 := h1.ext hE); (try replace h2 := h2.ext hE); (try replace h3 := h3.ext hE); (try replace h6 := h6.ext hE); (try replace h7 := h7.ext hE); (try replace k3 := k3.ext hE); (try replace k4 := k4.ext hE); (try replace hM := hM.ext hE); (try replace HE := Lib.hid (HE.out.trans hE)); (try replace r0 := r0.ext hE); (try replace r1 := r1.ext hE); (try replace r2 := r2.ext hE); (try replace r3 := r3.ext hE); (try replace r4 := r4.ext hE); (try replace r5 := r5.ext hE); (try replace r6 := r6.ext hE)
  clear hE
  refine wp_region_seq [(0, false), (1, false), (2, false), (3, false), (4, false), (7, false), (8, false), (5, true), (6, true), (9, true), (10, true), (11, false), (12, false)] (Gap (w.heap.size + 1 + 1 + 1) (w.heap.size + 1 + 1 + 1 + 1 + 1)) (by kernel_rfl) (by kernel_rfl) (Gap.refl _ _) (fun _ _ _ => Gap.trans) ?_; simp only [List.map, nth_z, nth_s]
  generalize ((w7.alloc (.cells #[.int .u64 (S : Int), .slice B2 K.length d2] 25)).alloc (.cells #[.int .u64 (P : Int), .int .i64 (M : Int), .int .u64 (G : Int)] 27)).drew = wz at *
  refine seq_load rfl rfl (fun x hx => Gap.blk hx (h6b) (by omega)) rfl Tryd.underlying25 (by kernel_rfl) (by rfl) ?_; intro K hK; simp only [Act.put, List.setIfInBounds_toArray, List.set_cons_zero, List.set_cons_succ]; refine hK _ ?_; clear hK K
  refine seq_load rfl rfl (fun x hx => Gap.blk hx (h3) (by omega)) rfl Tryd.underlying34 (spt_info _) (by rfl) ?_; intro K hK; simp only [Act.put, List.setIfInBounds_toArray, List.set_cons_zero, List.set_cons_succ]; refine hK _ ?_; clear hK K
  (repeat (first | (refine seq_skip (by rfl) ?_; intro K hK; simp only [Act.put, List.setIfInBounds_toArray, List.set_cons_zero, List.set_cons_succ]; refine hK _ ?_; clear hK K) | (refine seq_skipc (by rfl) ?_; intro K hK; simp only [Act.put, List.setIfInBounds_toArray, List.set_cons_zero, List.set_cons_succ]; refine hK _ ?_; clear hK K) | (refine seq_read (by rfl) (by rfl) ?_; intro K hK; go_big_quiet_op; first | go_big_quiet_on | (refine ⟨_, fun _ _ => rfl, ?_⟩; go_big_quiet_on))))
  refine seq_build_as rfl (pm0_built) (by rfl) ?_; intro K hK; simp only [Act.put, List.setIfInBounds_toArray, List.set_cons_zero, List.set_cons_succ]; refine hK _ ?_; clear hK K
  refine seq_load rfl rfl (fun x hx => Gap.blk hx (h7b) (by omega)) rfl Tryd.underlying27 (by kernel_rfl) (by rfl) ?_; intro K hK; simp only [Act.put, List.setIfInBounds_toArray, List.set_cons_zero, List.set_cons_succ]; refine hK _ ?_; clear hK K
  (repeat (first | (refine seq_skip (by rfl) ?_; intro K hK; simp only [Act.put, List.setIfInBounds_toArray, List.set_cons_zero, List.set_cons_succ]; refine hK _ ?_; clear hK K) | (refine seq_skipc (by rfl) ?_; intro K hK; simp only [Act.put, List.setIfInBounds_toArray, List.set_cons_zero, List.set_cons_succ]; refine hK _ ?_; clear hK K) | (refine seq_read (by rfl) (by rfl) ?_; intro K hK; go_big_quiet_op; first | go_big_quiet_on | (refine ⟨_, fun _ _ => rfl, ?_⟩; go_big_quiet_on))))
  refine seq_call ((cmk _)) rfl Tryd.func62 (by kernel_rfl) (by kernel_rfl) (by rfl) (by rfl) ?_; intro K hK; rintro e w' ⟨rfl, hE⟩; refine ⟨_, rfl, (Gap.ext hE), ?_⟩; simp only [Act.put, List.setIfInBounds_toArray, List.set_cons_zero, List.set_cons_succ]; refine hK _ _ ?_; clear hK K
  (try replace h1 := h1.ext hE); (try replace h2 := h2.ext hE); (try replace h3 := h3.ext hE); (try replace h6 := h6.ext hE); (try replace h7 := h7.ext hE); (try replace k3 := k3.ext hE); (try replace k4 := k4.ext hE); (try replace hM := hM.ext hE); (try replace HE := Lib.hid (HE.out.trans hE)); (try replace r0 := r0.ext hE); (try replace r1 := r1.ext hE); (try replace r2 := r2.ext hE); (try replace r3 := r3.ext hE); (try replace r4 := r4.ext hE); (try replace r5 := r5.ext hE); (try replace r6 := r6.ext hE)
  clear hE cmk
  have l5 := k4.lt
  refine seq_call ((cwi _ _ _ r0)) rfl Tryd.func35 (by kernel_rfl) (by kernel_rfl) (by rfl) (by rfl) ?_; intro K hK; rintro e w' ⟨B3, d3, rfl, hM3, hO3, hE⟩; refine ⟨_, rfl, (Gap.ext hE), ?_⟩; simp only [Act.put, List.setIfInBounds_toArray, List.set_cons_zero, List.set_cons_succ]; refine hK _ _ ?_; clear hK K
  have hO5 : ∀ lo, Out lo w.heap.size B3 K2.length := fun lo a hl ha => by
    have q1 := hO3 lo a hl ha
    have q2 := HE.out.size
    omega
  (try replace h1 := h1.ext hE); (try replace h2 := h2.ext hE); (try replace h3 := h3.ext hE); (try replace h6 := h6.ext hE); (try replace h7 := h7.ext hE); (try replace k3 := k3.ext hE); (try replace k4 := k4.ext hE); (try replace hM := hM.ext hE); (try replace HE := Lib.hid (HE.out.trans hE)); (try replace r0 := r0.ext hE); (try replace r1 := r1.ext hE); (try replace r2 := r2.ext hE); (try replace r3 := r3.ext hE); (try replace r4 := r4.ext hE); (try replace r5 := r5.ext hE); (try replace r6 := r6.ext hE)
  clear hE
  have hO4 := hO3 (w.heap.size + 1 + 1 + 1)
  clear hO3
  refine seq_store_row rfl rfl rfl (k3) (by kernel_rfl) (by rfl) (by simp [Value.oneCell']) (by rfl) (Gap.row _ (by omega) (by omega) _) ?_; intro K hK; simp only [Act.put, List.setIfInBounds_toArray, List.set_cons_zero, List.set_cons_succ]; refine hK _ _ ?_; clear hK K
  replace k4 := k4.apart (show w.heap.size + 1 + 1 + 1 + 1 ≠ w.heap.size + 1 + 1 + 1 by omega) #[.int .u64 (S : Int), .slice B3 K2.length d3]
  refine seq_store_row rfl rfl rfl (k4) (by kernel_rfl) (by rfl) (by simp [Value.oneCell']) (by rfl) (Gap.row _ (by omega) (by omega) _) ?_; intro K hK; simp only [Act.put, List.setIfInBounds_toArray, List.set_cons_zero, List.set_cons_succ]; refine hK _ _ ?_; clear hK K
  (repeat (first | (refine seq_skip (by rfl) ?_; intro K hK; simp only [Act.put, List.setIfInBounds_toArray, List.set_cons_zero, List.set_cons_succ]; refine hK _ ?_; clear hK K) | (refine seq_skipc (by rfl) ?_; intro K hK; simp only [Act.put, List.setIfInBounds_toArray, List.set_cons_zero, List.set_cons_succ]; refine hK _ ?_; clear hK K) | (refine seq_read (by rfl) (by rfl) ?_; intro K hK; go_big_quiet_op; first | go_big_quiet_on | (refine ⟨_, fun _ _ => rfl, ?_⟩; go_big_quiet_on))))
  refine seq_done ?_
  go_wp2
  (try simp only [Exit.inBlock, Exit.then]); (try rw [Exit.noGoto_ret]); refine bodyPost_ret (results_cctt rfl _ _ rfl rfl (((k3.row _).apart (by omega) _)) ((k4.row _)) Tryd.underlying25 rfl (by kernel_rfl) Tryd.underlying27 rfl (by kernel_rfl)) rfl ?_
  have hE2 := (HE.out.row (show w.heap.size ≤ w.heap.size + 1 + 1 + 1 by omega) #[.int .u64 (S : Int), .slice B3 K2.length d3]).row (show w.heap.size ≤ w.heap.size + 1 + 1 + 1 + 1 by omega) #[.int .u64 (P : Int), .int .i64 (M : Int), .int .u64 (G : Int)]
  exact ⟨B3, d3, rfl, (hM3.row' hO4 (by omega) (by omega) _).row' hO4 (by omega) (by omega) _, hO5, hE2⟩
end Go.Proofs.YticbjiddbjgikaaDoor
/- Package split: loose: a table that is empty is given back, the link to it gone. -/
namespace Go.Proofs.YticbjiddbjgikaaDoor
open Go.ChangeShapes Go.WideShapes Go.ChangeAt Go.RowKit
set_option linter.unusedVariables false
set_option linter.unusedSimpArgs false
set_option maxRecDepth 10000
attribute [local irreducible] World.setRow World.alloc Blk
theorem isB_small {P M F f : Nat} (hP : P ≤ 268435456) (hM : M ≤ 64) (h : isB P M F f = true) : f ≤ 268435600 := by
  unfold isB at h
  simp only [Bool.and_eq_true, decide_eq_true_eq] at h
  omega
theorem pz_built : Tryd.prog.built 32 [] = some (ptC (getP 0)) := by rw [ptC_eq]; unfold getP; simp; kernel_rfl
theorem pz_ok : (getP 0).ok := by unfold getP; exact ⟨by show (0 : Nat) < _; omega, by show (0 : Nat) < _; omega, by show (0 : Nat) < _; omega⟩
theorem st_clr {n : Nat} {L : List (Nat × Nat)} {s j f : Nat} (h : RL n L) (hj : j < 512) (hn : 512 * s + 512 ≤ n) (hf : 512 * f + 512 ≤ n) (hne : f ≠ s) : clrF (stS L s j 0) f = stS (clrF L f) s j 0 := by
  have h1 : RL n (clrF (stS L s j 0) f) := by
    unfold clrF stS
    exact clearL_is (storeL_is h (by omega) _ _) (by omega)
  have h2 : RL n (stS (clrF L f) s j 0) := by
    unfold clrF stS
    exact storeL_is (clearL_is h (by omega)) (by omega) _ _
  refine RL.ext h1 h2 fun r => ?_
  rw [clr_word, st_word hj (by decide), st_word hj (by decide), clr_word]
  by_cases c : r / 512 = f
  · rw [if_pos c, if_pos c, if_neg (by omega)]
  · rw [if_neg c, if_neg c]
set_option maxHeartbeats 8000000 in
theorem loose_no {S P M F : Nat} {L : List (Nat × Nat)} {B : Option Addr} {d a f : Nat} {SP : Spt} (hpp : SP.pt.pp = f) (hfS : f < S / 4096) (he : empB L f = false) (w : World) (hM : Mem w S B L d) :
    Calls Tryd.prog 40 #[.agg #[.int .u64 (S : Int), .slice B L.length d], .agg #[.int .u64 (P : Int), .int .i64 (M : Int), .int .u64 (F : Int)], .agg (sptC SP), .int .u64 (a : Int)] w fun r w' => r = .returned (.tuple #[.agg #[.int .u64 (S : Int), .slice B L.length d], .agg #[.int .u64 (P : Int), .int .i64 (M : Int), .int .u64 (F : Int)]]) ∧ Ext w w' := by
  have cem := fun W (m : Mem W S B L d) => tempty_c W m hfS
  rw [he] at cem
  have hMo := fun W (e : Ext w W) => hM.ext e
  have x9 := sptC_pp9 SP
  rw [hpp] at x9
  have h1 : Blk (((((w.alloc (.cells #[.int .u64 (S : Int), .slice B L.length d] 25)).alloc (.cells #[.int .u64 (P : Int), .int .i64 (M : Int), .int .u64 (F : Int)] 27)).alloc (.cells (sptC SP) 34)).alloc (.cells #[.int .u64 0, .slice none 0 0] 25)).alloc (.cells #[.int .u64 0, .int .i64 0, .int .u64 0] 27)) (w.heap.size) 25 #[.int .u64 (S : Int), .slice B L.length d] := ((((Blk.new w _ _).alloc _).alloc _).alloc _).alloc _
  have h2 : Blk (((((w.alloc (.cells #[.int .u64 (S : Int), .slice B L.length d] 25)).alloc (.cells #[.int .u64 (P : Int), .int .i64 (M : Int), .int .u64 (F : Int)] 27)).alloc (.cells (sptC SP) 34)).alloc (.cells #[.int .u64 0, .slice none 0 0] 25)).alloc (.cells #[.int .u64 0, .int .i64 0, .int .u64 0] 27)) (w.heap.size + 1) 27 #[.int .u64 (P : Int), .int .i64 (M : Int), .int .u64 (F : Int)] := (((blk_at (by simp)).alloc _).alloc _).alloc _
  have h3 : Blk (((((w.alloc (.cells #[.int .u64 (S : Int), .slice B L.length d] 25)).alloc (.cells #[.int .u64 (P : Int), .int .i64 (M : Int), .int .u64 (F : Int)] 27)).alloc (.cells (sptC SP) 34)).alloc (.cells #[.int .u64 0, .slice none 0 0] 25)).alloc (.cells #[.int .u64 0, .int .i64 0, .int .u64 0] 27)) (w.heap.size + 1 + 1) 34 (sptC SP) := ((blk_at (by simp)).alloc _).alloc _
  have k3 : Blk (((((w.alloc (.cells #[.int .u64 (S : Int), .slice B L.length d] 25)).alloc (.cells #[.int .u64 (P : Int), .int .i64 (M : Int), .int .u64 (F : Int)] 27)).alloc (.cells (sptC SP) 34)).alloc (.cells #[.int .u64 0, .slice none 0 0] 25)).alloc (.cells #[.int .u64 0, .int .i64 0, .int .u64 0] 27)) (w.heap.size + 1 + 1 + 1) 25 #[.int .u64 0, .slice none 0 0] := (blk_at (by simp)).alloc _
  have k4 : Blk (((((w.alloc (.cells #[.int .u64 (S : Int), .slice B L.length d] 25)).alloc (.cells #[.int .u64 (P : Int), .int .i64 (M : Int), .int .u64 (F : Int)] 27)).alloc (.cells (sptC SP) 34)).alloc (.cells #[.int .u64 0, .slice none 0 0] 25)).alloc (.cells #[.int .u64 0, .int .i64 0, .int .u64 0] 27)) (w.heap.size + 1 + 1 + 1 + 1) 27 #[.int .u64 0, .int .i64 0, .int .u64 0] := blk_at (by simp)
  have HE := Lib.hid (show Ext w (((((w.alloc (.cells #[.int .u64 (S : Int), .slice B L.length d] 25)).alloc (.cells #[.int .u64 (P : Int), .int .i64 (M : Int), .int .u64 (F : Int)] 27)).alloc (.cells (sptC SP) 34)).alloc (.cells #[.int .u64 0, .slice none 0 0] 25)).alloc (.cells #[.int .u64 0, .int .i64 0, .int .u64 0] 27)) from (((((Ext.refl w).alloc _).alloc _).alloc _).alloc _).alloc _)
  go_enter Tryd.func40, Tryd.ntmps40
  have y9 := (h3.cell 11).trans x9
  go_wp2_with (first | (refine wpList_load_blk (by rfl) 25 _ rfl rfl h1 Tryd.underlying25 rfl (by kernel_rfl) ?_) | (refine wpList_load_blk (by rfl) 27 _ rfl rfl h2 Tryd.underlying27 rfl (by kernel_rfl) ?_))
  generalize (((((w.alloc (.cells #[.int .u64 (S : Int), .slice B L.length d] 25)).alloc (.cells #[.int .u64 (P : Int), .int .i64 (M : Int), .int .u64 (F : Int)] 27)).alloc (.cells (sptC SP) 34)).alloc (.cells #[.int .u64 0, .slice none 0 0] 25)).alloc (.cells #[.int .u64 0, .int .i64 0, .int .u64 0] 27)) = W1 at *
  clear y9
  refine (cem _ (hMo _ HE.out)).mono ?_
  rintro e w7 ⟨rfl, hE⟩
  (try replace h1 := h1.ext hE); (try replace h2 := h2.ext hE); (try replace h3 := h3.ext hE); (try replace k3 := k3.ext hE); (try replace k4 := k4.ext hE); (try replace hM := hM.ext hE); (try replace HE := Lib.hid (HE.out.trans hE)); (try replace r0 := r0.ext hE); (try replace r1 := r1.ext hE); (try replace r2 := r2.ext hE); (try replace r3 := r3.ext hE); (try replace r4 := r4.ext hE); (try replace r5 := r5.ext hE); (try replace r6 := r6.ext hE)
  clear hE cem h3
  go_wp2_with fail
  have hE := (Ext.refl w7).drew
  (try replace h1 := h1.ext hE); (try replace h2 := h2.ext hE); (try replace h3 := h3.ext hE); (try replace k3 := k3.ext hE); (try replace k4 := k4.ext hE); (try replace hM := hM.ext hE); (try replace HE := Lib.hid (HE.out.trans hE)); (try replace r0 := r0.ext hE); (try replace r1 := r1.ext hE); (try replace r2 := r2.ext hE); (try replace r3 := r3.ext hE); (try replace r4 := r4.ext hE); (try replace r5 := r5.ext hE); (try replace r6 := r6.ext hE)
  clear hE
  refine wp_region_seq [(0, false), (1, false), (2, true), (3, true)] (Gap (w.heap.size + 1 + 1 + 1) (w.heap.size + 1 + 1 + 1 + 1 + 1)) (by kernel_rfl) (by kernel_rfl) (Gap.refl _ _) (fun _ _ _ => Gap.trans) ?_; simp only [List.map, nth_z, nth_s]
  generalize w7.drew = wz at *
  refine seq_load rfl rfl (fun x hx => Gap.blk hx (h1) (by omega)) rfl Tryd.underlying25 (by kernel_rfl) (by rfl) ?_; intro K hK; simp only [Act.put, List.setIfInBounds_toArray, List.set_cons_zero, List.set_cons_succ]; refine hK _ ?_; clear hK K
  refine seq_load rfl rfl (fun x hx => Gap.blk hx (h2) (by omega)) rfl Tryd.underlying27 (by kernel_rfl) (by rfl) ?_; intro K hK; simp only [Act.put, List.setIfInBounds_toArray, List.set_cons_zero, List.set_cons_succ]; refine hK _ ?_; clear hK K
  refine seq_store_row rfl rfl rfl (k3) (by kernel_rfl) (by rfl) (by simp [Value.oneCell']) (by rfl) (Gap.row _ (by omega) (by omega) _) ?_; intro K hK; simp only [Act.put, List.setIfInBounds_toArray, List.set_cons_zero, List.set_cons_succ]; refine hK _ _ ?_; clear hK K
  replace k4 := k4.apart (show w.heap.size + 1 + 1 + 1 + 1 ≠ w.heap.size + 1 + 1 + 1 by omega) #[.int .u64 (S : Int), .slice B L.length d]
  refine seq_store_row rfl rfl rfl (k4) (by kernel_rfl) (by rfl) (by simp [Value.oneCell']) (by rfl) (Gap.row _ (by omega) (by omega) _) ?_; intro K hK; simp only [Act.put, List.setIfInBounds_toArray, List.set_cons_zero, List.set_cons_succ]; refine hK _ _ ?_; clear hK K
  refine seq_done ?_
  go_wp2
  (try simp only [Exit.inBlock, Exit.then]); (try rw [Exit.noGoto_ret]); refine bodyPost_ret (results_cc rfl _ _ rfl rfl (((k3.row _).apart (by omega) _)) ((k4.row _)) Tryd.underlying25 rfl (by first | exact xx_info _ | kernel_rfl) Tryd.underlying27 rfl (by first | exact xx_info _ | kernel_rfl)) rfl ?_
  exact ⟨rfl, (HE.out.row (show w.heap.size ≤ w.heap.size + 1 + 1 + 1 by omega) #[.int .u64 (S : Int), .slice B L.length d]).row (show w.heap.size ≤ w.heap.size + 1 + 1 + 1 + 1 by omega) #[.int .u64 (P : Int), .int .i64 (M : Int), .int .u64 (F : Int)]⟩
set_option maxHeartbeats 8000000 in
theorem loose_yes {S P M F : Nat} {L : List (Nat × Nat)} {B : Option Addr} {d a s l f : Nat} {x : Pt} (hpk : PoolK S P M) (hF : F < 18446744073709551616) (hpp : x.pp = f) (hi : isB P M F f = true) (hne : f ≠ s) (ha : a < 18446744073709551616) (hs : s < S / 4096) (hfS : f < S / 4096) (hl : l ≤ 2) (hlen : L.length ≤ 35000) (he : empB L f = true) (w : World) (hM : Mem w S B L d) :
    Calls Tryd.prog 40 #[.agg #[.int .u64 (S : Int), .slice B L.length d], .agg #[.int .u64 (P : Int), .int .i64 (M : Int), .int .u64 (F : Int)], .agg (sptC ⟨s, (l : Int), x⟩), .int .u64 (a : Int)] w fun r w' => ∃ B' d', r = .returned (.tuple #[.agg #[.int .u64 (S : Int), .slice B' (stS (clrF L f) s (ixN a l) 0).length d'], (.agg #[.int .u64 (P : Int), .int .i64 (M : Int), .int .u64 (freedN P M F f : Int)])]) ∧
      Mem w' S B' (stS (clrF L f) s (ixN a l) 0) d' ∧ (∀ lo, Out lo w.heap.size B' (stS (clrF L f) s (ixN a l) 0).length) ∧ Ext w w' := by
  have hP := hpk.p
  have hM64 := hpk.m
  have h40 := hpk.s40
  have h8 := hpk.s8
  have hM0 := hM
  have hfew := isB_small hP hM64 hi
  have cem := fun W (m : Mem W S B L d) => tempty_c W m hfS
  rw [he] at cem
  have hMo := fun W (e : Ext w W) => hM.ext e
  have hst := st_clr hM.rl (ixN_lt a l) (by omega) (by omega) hne
  have hsl : (stS L s (ixN a l) 0).length ≤ L.length + 1 := by unfold stS; exact storeL_len _ _ _ _
  have cwi := fun W (m : Mem W S B L d) => twith_o (p := getP 0) (x := x) W m (by omega) ha hs hl rfl (may_get (by decide)) pz_ok
  rw [put_get (show 0 < 18446744073709551616 by decide)] at cwi
  unfold MdO at cwi
  have cbk := fun W B2 d2 (m : Mem W S B2 (stS L s (ixN a l) 0) d2) => tback_o hP hM64 hF hfew hi W m
  rw [hst] at cbk
  clear hst hsl hM0
  have x9 := sptC_pp9 ⟨s, (l : Int), x⟩
  simp only [hpp] at x9
  obtain ⟨SP, hSP⟩ : ∃ SP : Spt, (⟨s, (l : Int), x⟩ : Spt) = SP := ⟨_, rfl⟩
  rw [hSP] at cwi x9 ⊢
  generalize stS (clrF L f) s (ixN a l) 0 = K2 at *
  generalize stS L s (ixN a l) 0 = K at *
  generalize freedN P M F f = G at *
  have h1 : Blk (((((w.alloc (.cells #[.int .u64 (S : Int), .slice B L.length d] 25)).alloc (.cells #[.int .u64 (P : Int), .int .i64 (M : Int), .int .u64 (F : Int)] 27)).alloc (.cells (sptC SP) 34)).alloc (.cells #[.int .u64 0, .slice none 0 0] 25)).alloc (.cells #[.int .u64 0, .int .i64 0, .int .u64 0] 27)) (w.heap.size) 25 #[.int .u64 (S : Int), .slice B L.length d] := ((((Blk.new w _ _).alloc _).alloc _).alloc _).alloc _
  have h2 : Blk (((((w.alloc (.cells #[.int .u64 (S : Int), .slice B L.length d] 25)).alloc (.cells #[.int .u64 (P : Int), .int .i64 (M : Int), .int .u64 (F : Int)] 27)).alloc (.cells (sptC SP) 34)).alloc (.cells #[.int .u64 0, .slice none 0 0] 25)).alloc (.cells #[.int .u64 0, .int .i64 0, .int .u64 0] 27)) (w.heap.size + 1) 27 #[.int .u64 (P : Int), .int .i64 (M : Int), .int .u64 (F : Int)] := (((blk_at (by simp)).alloc _).alloc _).alloc _
  have h3 : Blk (((((w.alloc (.cells #[.int .u64 (S : Int), .slice B L.length d] 25)).alloc (.cells #[.int .u64 (P : Int), .int .i64 (M : Int), .int .u64 (F : Int)] 27)).alloc (.cells (sptC SP) 34)).alloc (.cells #[.int .u64 0, .slice none 0 0] 25)).alloc (.cells #[.int .u64 0, .int .i64 0, .int .u64 0] 27)) (w.heap.size + 1 + 1) 34 (sptC SP) := ((blk_at (by simp)).alloc _).alloc _
  have k3 : Blk (((((w.alloc (.cells #[.int .u64 (S : Int), .slice B L.length d] 25)).alloc (.cells #[.int .u64 (P : Int), .int .i64 (M : Int), .int .u64 (F : Int)] 27)).alloc (.cells (sptC SP) 34)).alloc (.cells #[.int .u64 0, .slice none 0 0] 25)).alloc (.cells #[.int .u64 0, .int .i64 0, .int .u64 0] 27)) (w.heap.size + 1 + 1 + 1) 25 #[.int .u64 0, .slice none 0 0] := (blk_at (by simp)).alloc _
  have k4 : Blk (((((w.alloc (.cells #[.int .u64 (S : Int), .slice B L.length d] 25)).alloc (.cells #[.int .u64 (P : Int), .int .i64 (M : Int), .int .u64 (F : Int)] 27)).alloc (.cells (sptC SP) 34)).alloc (.cells #[.int .u64 0, .slice none 0 0] 25)).alloc (.cells #[.int .u64 0, .int .i64 0, .int .u64 0] 27)) (w.heap.size + 1 + 1 + 1 + 1) 27 #[.int .u64 0, .int .i64 0, .int .u64 0] := blk_at (by simp)
  have HE := Lib.hid (show Ext w (((((w.alloc (.cells #[.int .u64 (S : Int), .slice B L.length d] 25)).alloc (.cells #[.int .u64 (P : Int), .int .i64 (M : Int), .int .u64 (F : Int)] 27)).alloc (.cells (sptC SP) 34)).alloc (.cells #[.int .u64 0, .slice none 0 0] 25)).alloc (.cells #[.int .u64 0, .int .i64 0, .int .u64 0] 27)) from (((((Ext.refl w).alloc _).alloc _).alloc _).alloc _).alloc _)
  go_enter Tryd.func40, Tryd.ntmps40
  have y9 := (h3.cell 11).trans x9
  go_wp2_with (first | (refine wpList_load_blk (by rfl) 25 _ rfl rfl h1 Tryd.underlying25 rfl (by kernel_rfl) ?_) | (refine wpList_load_blk (by rfl) 27 _ rfl rfl h2 Tryd.underlying27 rfl (by kernel_rfl) ?_))
  generalize (((((w.alloc (.cells #[.int .u64 (S : Int), .slice B L.length d] 25)).alloc (.cells #[.int .u64 (P : Int), .int .i64 (M : Int), .int .u64 (F : Int)] 27)).alloc (.cells (sptC SP) 34)).alloc (.cells #[.int .u64 0, .slice none 0 0] 25)).alloc (.cells #[.int .u64 0, .int .i64 0, .int .u64 0] 27)) = W1 at *
  clear y9
  refine (cem _ (hMo _ HE.out)).mono ?_
  rintro e w7 ⟨rfl, hE⟩
  (try replace h1 := h1.ext hE); (try replace h2 := h2.ext hE); (try replace h3 := h3.ext hE); (try replace h8 := h8.ext hE); (try replace k3 := k3.ext hE); (try replace k4 := k4.ext hE); (try replace hM := hM.ext hE); (try replace HE := Lib.hid (HE.out.trans hE)); (try replace r0 := r0.ext hE); (try replace r1 := r1.ext hE); (try replace r2 := r2.ext hE); (try replace r3 := r3.ext hE); (try replace r4 := r4.ext hE); (try replace r5 := r5.ext hE); (try replace r6 := r6.ext hE)
  clear hE cem
  go_wp2_with fail
  have hE := (Ext.refl w7).drew
  (try replace h1 := h1.ext hE); (try replace h2 := h2.ext hE); (try replace h3 := h3.ext hE); (try replace h8 := h8.ext hE); (try replace k3 := k3.ext hE); (try replace k4 := k4.ext hE); (try replace hM := hM.ext hE); (try replace HE := Lib.hid (HE.out.trans hE)); (try replace r0 := r0.ext hE); (try replace r1 := r1.ext hE); (try replace r2 := r2.ext hE); (try replace r3 := r3.ext hE); (try replace r4 := r4.ext hE); (try replace r5 := r5.ext hE); (try replace r6 := r6.ext hE)
  clear hE
  refine wp_region_seq [(0, false), (1, false), (2, false), (3, false), (5, false), (6, false), (7, false), (8, false), (4, true), (9, true), (10, false), (11, false), (12, true), (13, true)] (Gap (w.heap.size + 1 + 1 + 1) (w.heap.size + 1 + 1 + 1 + 1 + 1)) (by kernel_rfl) (by kernel_rfl) (Gap.refl _ _) (fun _ _ _ => Gap.trans) ?_; simp only [List.map, nth_z, nth_s]
  generalize w7.drew = wz at *
  refine seq_load rfl rfl (fun x hx => Gap.blk hx (h1) (by omega)) rfl Tryd.underlying25 (by kernel_rfl) (by rfl) ?_; intro K hK; simp only [Act.put, List.setIfInBounds_toArray, List.set_cons_zero, List.set_cons_succ]; refine hK _ ?_; clear hK K
  refine seq_load rfl rfl (fun x hx => Gap.blk hx (h3) (by omega)) rfl Tryd.underlying34 (spt_info _) (by rfl) ?_; intro K hK; simp only [Act.put, List.setIfInBounds_toArray, List.set_cons_zero, List.set_cons_succ]; refine hK _ ?_; clear hK K
  (repeat (first | (refine seq_skip (by rfl) ?_; intro K hK; simp only [Act.put, List.setIfInBounds_toArray, List.set_cons_zero, List.set_cons_succ]; refine hK _ ?_; clear hK K) | (refine seq_skipc (by rfl) ?_; intro K hK; simp only [Act.put, List.setIfInBounds_toArray, List.set_cons_zero, List.set_cons_succ]; refine hK _ ?_; clear hK K) | (refine seq_read (by rfl) (by rfl) ?_; intro K hK; go_big_quiet_op; first | go_big_quiet_on | (refine ⟨_, fun _ _ => rfl, ?_⟩; go_big_quiet_on))))
  refine seq_build_as rfl (pz_built) (by rfl) ?_; intro K hK; simp only [Act.put, List.setIfInBounds_toArray, List.set_cons_zero, List.set_cons_succ]; refine hK _ ?_; clear hK K
  refine seq_load rfl rfl (fun x hx => Gap.blk hx (h2) (by omega)) rfl Tryd.underlying27 (by kernel_rfl) (by rfl) ?_; intro K hK; simp only [Act.put, List.setIfInBounds_toArray, List.set_cons_zero, List.set_cons_succ]; refine hK _ ?_; clear hK K
  (repeat (first | (refine seq_skip (by rfl) ?_; intro K hK; simp only [Act.put, List.setIfInBounds_toArray, List.set_cons_zero, List.set_cons_succ]; refine hK _ ?_; clear hK K) | (refine seq_skipc (by rfl) ?_; intro K hK; simp only [Act.put, List.setIfInBounds_toArray, List.set_cons_zero, List.set_cons_succ]; refine hK _ ?_; clear hK K) | (refine seq_read (by rfl) (by rfl) ?_; intro K hK; go_big_quiet_op; first | go_big_quiet_on | (refine ⟨_, fun _ _ => rfl, ?_⟩; go_big_quiet_on))))
  refine seq_value (.int .u64 (f : Int)) (by rfl) (fun x hx => by have hq := ((Gap.blk hx (h3) (by omega)).cell 11).trans (x9); simp [go_sem, execOp, Act.eval, hq]) ?_; intro K hK; simp only [Act.put, List.setIfInBounds_toArray, List.set_cons_zero, List.set_cons_succ]; refine hK _ ?_; clear hK K
  have l5 := k4.lt
  refine seq_call ((cwi _ (hMo _ HE.out))) rfl Tryd.func35 (by kernel_rfl) (by kernel_rfl) (by rfl) (by rfl) ?_; intro K hK; rintro e w' ⟨B2, d2, rfl, hM2, -, hE⟩; refine ⟨_, rfl, (Gap.ext hE), ?_⟩; simp only [Act.put, List.setIfInBounds_toArray, List.set_cons_zero, List.set_cons_succ]; refine hK _ _ ?_; clear hK K
  (try replace h1 := h1.ext hE); (try replace h2 := h2.ext hE); (try replace h3 := h3.ext hE); (try replace h8 := h8.ext hE); (try replace k3 := k3.ext hE); (try replace k4 := k4.ext hE); (try replace hM := hM.ext hE); (try replace HE := Lib.hid (HE.out.trans hE)); (try replace r0 := r0.ext hE); (try replace r1 := r1.ext hE); (try replace r2 := r2.ext hE); (try replace r3 := r3.ext hE); (try replace r4 := r4.ext hE); (try replace r5 := r5.ext hE); (try replace r6 := r6.ext hE)
  clear hE cwi
  (repeat (first | (refine seq_skip (by rfl) ?_; intro K hK; simp only [Act.put, List.setIfInBounds_toArray, List.set_cons_zero, List.set_cons_succ]; refine hK _ ?_; clear hK K) | (refine seq_skipc (by rfl) ?_; intro K hK; simp only [Act.put, List.setIfInBounds_toArray, List.set_cons_zero, List.set_cons_succ]; refine hK _ ?_; clear hK K) | (refine seq_read (by rfl) (by rfl) ?_; intro K hK; go_big_quiet_op; first | go_big_quiet_on | (refine ⟨_, fun _ _ => rfl, ?_⟩; go_big_quiet_on))))
  have l6 := k4.lt
  refine seq_call ((cbk _ _ _ hM2)) rfl Tryd.func70 (by kernel_rfl) (by kernel_rfl) (by rfl) (by rfl) ?_; intro K hK; rintro e w' ⟨B3, d3, rfl, hM3, hO3, hE⟩; refine ⟨_, rfl, (Gap.ext hE), ?_⟩; simp only [Act.put, List.setIfInBounds_toArray, List.set_cons_zero, List.set_cons_succ]; refine hK _ _ ?_; clear hK K
  have hO5 : ∀ lo, Out lo w.heap.size B3 K2.length := fun lo a hl ha => by
    have q1 := hO3 lo a hl ha
    have q2 := HE.out.size
    omega
  (try replace h1 := h1.ext hE); (try replace h2 := h2.ext hE); (try replace h3 := h3.ext hE); (try replace h8 := h8.ext hE); (try replace k3 := k3.ext hE); (try replace k4 := k4.ext hE); (try replace hM := hM.ext hE); (try replace HE := Lib.hid (HE.out.trans hE)); (try replace r0 := r0.ext hE); (try replace r1 := r1.ext hE); (try replace r2 := r2.ext hE); (try replace r3 := r3.ext hE); (try replace r4 := r4.ext hE); (try replace r5 := r5.ext hE); (try replace r6 := r6.ext hE)
  clear hE
  have hO4 := hO3 (w.heap.size + 1 + 1 + 1)
  clear hO3
  (repeat (first | (refine seq_skip (by rfl) ?_; intro K hK; simp only [Act.put, List.setIfInBounds_toArray, List.set_cons_zero, List.set_cons_succ]; refine hK _ ?_; clear hK K) | (refine seq_skipc (by rfl) ?_; intro K hK; simp only [Act.put, List.setIfInBounds_toArray, List.set_cons_zero, List.set_cons_succ]; refine hK _ ?_; clear hK K) | (refine seq_read (by rfl) (by rfl) ?_; intro K hK; go_big_quiet_op; first | go_big_quiet_on | (refine ⟨_, fun _ _ => rfl, ?_⟩; go_big_quiet_on))))
  refine seq_store_row rfl rfl rfl (k3) (by kernel_rfl) (by rfl) (by simp [Value.oneCell']) (by rfl) (Gap.row _ (by omega) (by omega) _) ?_; intro K hK; simp only [Act.put, List.setIfInBounds_toArray, List.set_cons_zero, List.set_cons_succ]; refine hK _ _ ?_; clear hK K
  replace k4 := k4.apart (show w.heap.size + 1 + 1 + 1 + 1 ≠ w.heap.size + 1 + 1 + 1 by omega) #[.int .u64 (S : Int), .slice B3 K2.length d3]
  refine seq_store_row rfl rfl rfl (k4) (by kernel_rfl) (by rfl) (by simp [Value.oneCell']) (by rfl) (Gap.row _ (by omega) (by omega) _) ?_; intro K hK; simp only [Act.put, List.setIfInBounds_toArray, List.set_cons_zero, List.set_cons_succ]; refine hK _ _ ?_; clear hK K
  refine seq_done ?_
  go_wp2
  (try simp only [Exit.inBlock, Exit.then]); (try rw [Exit.noGoto_ret]); refine bodyPost_ret (results_cc rfl _ _ rfl rfl (((k3.row _).apart (by omega) _)) ((k4.row _)) Tryd.underlying25 rfl (by first | exact xx_info _ | kernel_rfl) Tryd.underlying27 rfl (by first | exact xx_info _ | kernel_rfl)) rfl ?_
  have hE2 := (HE.out.row (show w.heap.size ≤ w.heap.size + 1 + 1 + 1 by omega) #[.int .u64 (S : Int), .slice B3 K2.length d3]).row (show w.heap.size ≤ w.heap.size + 1 + 1 + 1 + 1 by omega) #[.int .u64 (P : Int), .int .i64 (M : Int), .int .u64 (G : Int)]
  exact ⟨B3, d3, rfl, (hM3.row' hO4 (by omega) (by omega) _).row' hO4 (by omega) (by omega) _, hO5, hE2⟩
end Go.Proofs.YticbjiddbjgikaaDoor
/- Package split: further, Leaf. -/
namespace Go.Proofs.YticbjiddbjgikaaDoor
open Go.ChangeShapes Go.WideShapes Go.ChangeAt Go.RowKit
set_option linter.unusedVariables false
set_option linter.unusedSimpArgs false
set_option maxRecDepth 10000
attribute [local irreducible] World.setRow World.alloc Blk
set_option maxHeartbeats 4000000 in
theorem further_c (p : Pt) (b q : Nat) (hb : b < 18446744073709551616) (hq : p.pp + b / 4096 = q) (h2 : q < 18446744073709551616) (w : World) :
    Calls Tryd.prog 36 #[.agg (ptC p), .int .u64 (b : Int)] w fun e w' => e = .returned (.agg (ptC { p with pp := q })) ∧ Ext w w' := by
  have hv : (p.pp : Int) + (b : Int) / 4096 = (q : Int) := by omega
  have HE := Lib.hid (((Ext.refl w).alloc (.cells (ptC { p with pp := q }) 32)).alloc (.cells (ptC { p with pp := q }) 32))
  simp only [ptC_eq] at HE ⊢
  go_enter Tryd.func36, Tryd.ntmps36
  go_wp2
  (try simp only [Exit.inBlock, Exit.then]); refine bodyPost_ret (results_cell_row rfl _ _ _ _ _ _ _ rfl ((Blk.mem19 (blk_at (by simp)))) Tryd.underlying32 rfl (by kernel_rfl)) rfl ?_
  exact ⟨rfl, HE.out⟩
theorem us_built (f l : Nat) : Tryd.prog.built 34 [(0, .int .u64 (f : Int)), (1, .int .i64 (l : Int))] = some (sptC ⟨f, (l : Int), getP 0⟩) := by rw [sptC_eq, ptC_eq]; unfold getP; simp; kernel_rfl
theorem ix_mul {l i : Nat} (hi : i < 512) : ixN (i * szN l) l = i := by
  unfold ixN
  rw [Nat.mul_div_cancel _ (szN_pos l)]
  omega
theorem mul_div {l i : Nat} (hl : l ≤ 1) : i * szN l / 4096 = i * (szN l / 4096) := by
  rcases (by omega : l = 0 ∨ l = 1) with rfl | rfl
  · rw [show szN 0 = 4096 from rfl]; omega
  · rw [show szN 1 = 2097152 from rfl]; omega
set_option maxHeartbeats 8000000 in
theorem leaf20_no {S P M : Nat} {L : List (Nat × Nat)} {B : Option Addr} {d a : Nat} {SP : Spt} (hM64 : M ≤ 64) (w : World) (hM : Mem w S B L d) (hT : Tab w ∧ Siz w) :
    Calls Tryd.prog 17 #[.agg #[.int .u64 (S : Int), .slice B L.length d], .agg #[.int .u64 (P : Int), .int .i64 (M : Int), .int .u64 0], .agg (sptC SP), .int .u64 (a : Int)] w fun r w' => r = .returned (.tuple #[.agg #[.int .u64 (S : Int), .slice B L.length d], .agg #[.int .u64 (P : Int), .int .i64 (M : Int), .int .u64 0], .int .i64 8]) ∧ Ext w w' := by
  have cfr := fun W (m : Mem W S B L d) (q : Tab W) => linked_no (P := P) (a := a) (SP := SP) hM64 W m q
  have hMo := fun W (e : Ext w W) => hM.ext e
  have h1 : Blk (((((w.alloc (.cells #[.int .u64 (S : Int), .slice B L.length d] 25)).alloc (.cells #[.int .u64 (P : Int), .int .i64 (M : Int), .int .u64 0] 27)).alloc (.cells (sptC SP) 34)).alloc (.cells #[.int .u64 0, .slice none 0 0] 25)).alloc (.cells #[.int .u64 0, .int .i64 0, .int .u64 0] 27)) (w.heap.size) 25 #[.int .u64 (S : Int), .slice B L.length d] := ((((Blk.new w _ _).alloc _).alloc _).alloc _).alloc _
  have h2 : Blk (((((w.alloc (.cells #[.int .u64 (S : Int), .slice B L.length d] 25)).alloc (.cells #[.int .u64 (P : Int), .int .i64 (M : Int), .int .u64 0] 27)).alloc (.cells (sptC SP) 34)).alloc (.cells #[.int .u64 0, .slice none 0 0] 25)).alloc (.cells #[.int .u64 0, .int .i64 0, .int .u64 0] 27)) (w.heap.size + 1) 27 #[.int .u64 (P : Int), .int .i64 (M : Int), .int .u64 0] := (((blk_at (by simp)).alloc _).alloc _).alloc _
  have h3 : Blk (((((w.alloc (.cells #[.int .u64 (S : Int), .slice B L.length d] 25)).alloc (.cells #[.int .u64 (P : Int), .int .i64 (M : Int), .int .u64 0] 27)).alloc (.cells (sptC SP) 34)).alloc (.cells #[.int .u64 0, .slice none 0 0] 25)).alloc (.cells #[.int .u64 0, .int .i64 0, .int .u64 0] 27)) (w.heap.size + 1 + 1) 34 (sptC SP) := ((blk_at (by simp)).alloc _).alloc _
  have k3 : Blk (((((w.alloc (.cells #[.int .u64 (S : Int), .slice B L.length d] 25)).alloc (.cells #[.int .u64 (P : Int), .int .i64 (M : Int), .int .u64 0] 27)).alloc (.cells (sptC SP) 34)).alloc (.cells #[.int .u64 0, .slice none 0 0] 25)).alloc (.cells #[.int .u64 0, .int .i64 0, .int .u64 0] 27)) (w.heap.size + 1 + 1 + 1) 25 #[.int .u64 0, .slice none 0 0] := (blk_at (by simp)).alloc _
  have k4 : Blk (((((w.alloc (.cells #[.int .u64 (S : Int), .slice B L.length d] 25)).alloc (.cells #[.int .u64 (P : Int), .int .i64 (M : Int), .int .u64 0] 27)).alloc (.cells (sptC SP) 34)).alloc (.cells #[.int .u64 0, .slice none 0 0] 25)).alloc (.cells #[.int .u64 0, .int .i64 0, .int .u64 0] 27)) (w.heap.size + 1 + 1 + 1 + 1) 27 #[.int .u64 0, .int .i64 0, .int .u64 0] := blk_at (by simp)
  have HE := Lib.hid (show Ext w (((((w.alloc (.cells #[.int .u64 (S : Int), .slice B L.length d] 25)).alloc (.cells #[.int .u64 (P : Int), .int .i64 (M : Int), .int .u64 0] 27)).alloc (.cells (sptC SP) 34)).alloc (.cells #[.int .u64 0, .slice none 0 0] 25)).alloc (.cells #[.int .u64 0, .int .i64 0, .int .u64 0] 27)) from (((((Ext.refl w).alloc _).alloc _).alloc _).alloc _).alloc _)
  go_enter Tryd.func17, Tryd.ntmps17
  go_wp2_with (first | (refine wpList_load_blk (by rfl) 25 _ rfl rfl h1 Tryd.underlying25 rfl (by kernel_rfl) ?_) | (refine wpList_load_blk (by rfl) 27 _ rfl rfl h2 Tryd.underlying27 rfl (by kernel_rfl) ?_) | (refine wpList_load_blk (by rfl) 34 _ rfl rfl h3 Tryd.underlying34 rfl (by kernel_rfl) ?_))
  generalize (((((w.alloc (.cells #[.int .u64 (S : Int), .slice B L.length d] 25)).alloc (.cells #[.int .u64 (P : Int), .int .i64 (M : Int), .int .u64 0] 27)).alloc (.cells (sptC SP) 34)).alloc (.cells #[.int .u64 0, .slice none 0 0] 25)).alloc (.cells #[.int .u64 0, .int .i64 0, .int .u64 0] 27)) = W1 at *
  refine (cfr _ (hMo _ HE.out) (Tab.below hT.1 HE.out)).mono ?_
  rintro e w7 ⟨rfl, hE⟩
  (try replace h1 := h1.ext hE); (try replace h2 := h2.ext hE); (try replace h3 := h3.ext hE); (try replace k3 := k3.ext hE); (try replace k4 := k4.ext hE); (try replace hM := hM.ext hE); (try replace HE := Lib.hid (HE.out.trans hE)); (try replace r0 := r0.ext hE); (try replace r1 := r1.ext hE); (try replace r2 := r2.ext hE); (try replace r3 := r3.ext hE); (try replace r4 := r4.ext hE); (try replace r5 := r5.ext hE); (try replace r6 := r6.ext hE)
  clear hE cfr h3
  go_wp2_with fail
  have hE := ((((Ext.refl w7).alloc (.cells #[.int .u64 (S : Int), .slice B L.length d] 25)).alloc (.cells #[.int .u64 (P : Int), .int .i64 (M : Int), .int .u64 0] 27)).drew)
  (try replace h1 := h1.ext hE); (try replace h2 := h2.ext hE); (try replace h3 := h3.ext hE); (try replace k3 := k3.ext hE); (try replace k4 := k4.ext hE); (try replace hM := hM.ext hE); (try replace HE := Lib.hid (HE.out.trans hE)); (try replace r0 := r0.ext hE); (try replace r1 := r1.ext hE); (try replace r2 := r2.ext hE); (try replace r3 := r3.ext hE); (try replace r4 := r4.ext hE); (try replace r5 := r5.ext hE); (try replace r6 := r6.ext hE)
  clear hE
  refine wp_region_seq [(0, false), (1, false), (2, false), (3, true), (4, true), (5, false)] (Gap (w.heap.size + 1 + 1 + 1) (w.heap.size + 1 + 1 + 1 + 1 + 1)) (by kernel_rfl) (by kernel_rfl) (Gap.refl _ _) (fun _ _ _ => Gap.trans) ?_; simp only [List.map, nth_z, nth_s]
  generalize ((w7.alloc (.cells #[.int .u64 (S : Int), .slice B L.length d] 25)).alloc (.cells #[.int .u64 (P : Int), .int .i64 (M : Int), .int .u64 0] 27)).drew = wz at *
  refine seq_load rfl rfl (fun x hx => Gap.blk hx (h1) (by omega)) rfl Tryd.underlying25 (by kernel_rfl) (by rfl) ?_; intro K hK; simp only [Act.put, List.setIfInBounds_toArray, List.set_cons_zero, List.set_cons_succ]; refine hK _ ?_; clear hK K
  refine seq_load rfl rfl (fun x hx => Gap.blk hx (h2) (by omega)) rfl Tryd.underlying27 (by kernel_rfl) (by rfl) ?_; intro K hK; simp only [Act.put, List.setIfInBounds_toArray, List.set_cons_zero, List.set_cons_succ]; refine hK _ ?_; clear hK K
  (repeat (first | (refine seq_skip (by rfl) ?_; intro K hK; simp only [Act.put, List.setIfInBounds_toArray, List.set_cons_zero, List.set_cons_succ]; refine hK _ ?_; clear hK K) | (refine seq_skipc (by rfl) ?_; intro K hK; simp only [Act.put, List.setIfInBounds_toArray, List.set_cons_zero, List.set_cons_succ]; refine hK _ ?_; clear hK K) | (refine seq_read (by rfl) (by rfl) ?_; intro K hK; go_big_quiet_op; first | go_big_quiet_on | (refine ⟨_, fun _ _ => rfl, ?_⟩; go_big_quiet_on))))
  refine seq_store_row rfl rfl rfl (k3) (by kernel_rfl) (by rfl) (by simp [Value.oneCell']) (by rfl) (Gap.row _ (by omega) (by omega) _) ?_; intro K hK; simp only [Act.put, List.setIfInBounds_toArray, List.set_cons_zero, List.set_cons_succ]; refine hK _ _ ?_; clear hK K
  replace k4 := k4.apart (show w.heap.size + 1 + 1 + 1 + 1 ≠ w.heap.size + 1 + 1 + 1 by omega) #[.int .u64 (S : Int), .slice B L.length d]
  refine seq_store_row rfl rfl rfl (k4) (by kernel_rfl) (by rfl) (by simp [Value.oneCell']) (by rfl) (Gap.row _ (by omega) (by omega) _) ?_; intro K hK; simp only [Act.put, List.setIfInBounds_toArray, List.set_cons_zero, List.set_cons_succ]; refine hK _ _ ?_; clear hK K
  (repeat (first | (refine seq_skip (by rfl) ?_; intro K hK; simp only [Act.put, List.setIfInBounds_toArray, List.set_cons_zero, List.set_cons_succ]; refine hK _ ?_; clear hK K) | (refine seq_skipc (by rfl) ?_; intro K hK; simp only [Act.put, List.setIfInBounds_toArray, List.set_cons_zero, List.set_cons_succ]; refine hK _ ?_; clear hK K) | (refine seq_read (by rfl) (by rfl) ?_; intro K hK; go_big_quiet_op; first | go_big_quiet_on | (refine ⟨_, fun _ _ => rfl, ?_⟩; go_big_quiet_on))))
  refine seq_done ?_
  go_wp2
  (try simp only [Exit.inBlock, Exit.then])
  (try rw [Exit.noGoto_ret])
  refine bodyPost_ret (results_cct rfl _ _ rfl rfl ((k3.row #[.int .u64 (S : Int), .slice B L.length d]).apart (by omega) #[.int .u64 (P : Int), .int .i64 (M : Int), .int .u64 0]) (k4.row #[.int .u64 (P : Int), .int .i64 (M : Int), .int .u64 0]) Tryd.underlying25 rfl (by kernel_rfl) Tryd.underlying27 rfl (by kernel_rfl)) rfl ?_
  exact ⟨rfl, (HE.out.row (show w.heap.size ≤ w.heap.size + 1 + 1 + 1 by omega) #[.int .u64 (S : Int), .slice B L.length d]).row (show w.heap.size ≤ w.heap.size + 1 + 1 + 1 + 1 by omega) #[.int .u64 (P : Int), .int .i64 (M : Int), .int .u64 0]⟩
set_option maxHeartbeats 16000000 in
theorem leaf20_yes {S P M F n t : Nat} {L : List (Nat × Nat)} {B : Option Addr} {d a s l : Nat} (hpk : PoolK S P M) (hfit : Fit S P M F n t L) (hF : F < 2 ^ M) (h0 : F ≠ 0) (hn : n ≤ 2) (hm : (s, l + 1) ∈ tabs L n t) (hlf : leafB (tE L s (ixN a (l + 1))) = true) (ha : a < 18446744073709551616) (hlen : L.length ≤ 35000) (w : World) (hM : Mem w S B L d) (hT : Tab w ∧ Siz w) :
    Calls Tryd.prog 17 #[.agg #[.int .u64 (S : Int), .slice B L.length d], .agg #[.int .u64 (P : Int), .int .i64 (M : Int), .int .u64 (F : Int)], .agg (sptC ⟨s, ((l + 1 : Nat) : Int), tE L s (ixN a (l + 1))⟩), .int .u64 (a : Int)] w fun r w' => ∃ B' d', r = .returned (.tuple #[.agg #[.int .u64 (S : Int), .slice B' (splS L (P + lowN' F) s (ixN a (l + 1)) (l + 1)).length d'], .agg #[.int .u64 (P : Int), .int .i64 (M : Int), .int .u64 ((takeF F : Nat) : Int)], .int .i64 0]) ∧
      Mem w' S B' (splS L (P + lowN' F) s (ixN a (l + 1)) (l + 1)) d' ∧ (∀ lo, Out lo w.heap.size B' (splS L (P + lowN' F) s (ixN a (l + 1)) (l + 1)).length) ∧ Ext w w' := by
  have hP := hpk.p
  have hM64 := hpk.m
  have h8 := hpk.s8
  have h40 := hpk.s40
  have hlo := low_top h0 hM64 hF
  have hj := ixN_lt a (l + 1)
  have hl2 : l + 1 ≤ 2 := Nat.le_trans (tabs_le hm) hn
  have hs := hfit.tree.lt _ hm
  simp only at hs
  obtain ⟨hTF, hlt⟩ := hfit.fresh hM64 hF h0 hpk.sz
  have hne : P + lowN' F ≠ s := fun e => hTF.nf _ hm e.symm
  have hw0 : wordL L (512 * s + ixN a (l + 1)) ≠ 0 := fun e => by
    have : leafB (tE L s (ixN a (l + 1))) = false := by unfold tE; rw [e]; unfold leafB getP; rfl
    rw [hlf] at this; cases this
  have hbd := hfit.cl _ hm _ hj hw0
  have hvl := wordL_lt hfit.rl (512 * s + ixN a (l + 1))
  have hmy1 := may_get hvl
  rw [may_iff] at hmy1
  have hpt : Parts (tE L s (ixN a (l + 1))) l := parts_of hl2 hbd hlf hmy1.2.1
  have hmay := hpt.may hmy1.1 hmy1.2.2
  have hspl : RL (S / 8) (splS L (P + lowN' F) s (ixN a (l + 1)) (l + 1)) := by
    unfold splS lnkS stS
    exact storeL_is (ins_is hfit.rl hlf hmay (by omega)) (by omega) _ _
  have hrow0 : RowK S L (frS L (P + lowN' F) s (ixN a (l + 1))) s (ixN a (l + 1)) (P + lowN' F) (l + 1) 0 := RowK.start hfit.rl h8 hs hlt hj
  have hnext := fun K i (hi : i < 512) => RowK.next (L := L) (K := K) (s := s) (j := ixN a (l + 1)) (l := l + 1) (i := i) h8 hlt hi (hmay i hi)
  have hdone := fun K (h : RowK S L K s (ixN a (l + 1)) (P + lowN' F) (l + 1) 512) => RowK.done h hspl hj (by omega) hne
  have cli := fun W (m : Mem W S B L d) (q : Tab W) => linked_yes (x := tE L s (ixN a (l + 1))) hpk hF h0 ha hs hl2 hlen W m q
  have hpr : ∀ k, prt (tE L s (ixN a (l + 1))) (l + 1) k = { tE L s (ixN a (l + 1)) with pp := (tE L s (ixN a (l + 1))).pp + k * (szN l / 4096) } := fun k => by unfold prt; rfl
  have hppk : ∀ k, k < 512 → (tE L s (ixN a (l + 1))).pp + k * (szN l / 4096) < 17592186044416 := fun k hk => hpt.pp k hk
  have hok : ∀ k, k < 512 → (prt (tE L s (ixN a (l + 1))) (l + 1) k).ok := fun k hk => by
    have o1 := hmy1.1
    have o2 := hpt.pp k hk
    have o3 := hmy1.2.2
    refine ⟨?_, ?_, ?_⟩
    · show (tE L s (ixN a (l + 1))).rs < _
      unfold tE; omega
    · omega
    · show (tE L s (ixN a (l + 1))).hi < _
      unfold tE; omega
  obtain ⟨f, hf⟩ : ∃ f, P + lowN' F = f := ⟨_, rfl⟩
  rw [hf] at cli hlt hrow0 hnext hdone ⊢
  have hx1 : (sptC (⟨s, ((l + 1 : Nat) : Int), tE L s (ixN a (l + 1))⟩ : Spt))[1]? = some (.int .i64 ((l + 1 : Nat) : Int)) := sptC_lv _
  have hxp : (sptC (⟨s, ((l + 1 : Nat) : Int), tE L s (ixN a (l + 1))⟩ : Spt)).extract 2 (2 + (ptC (tE L s (ixN a (l + 1)))).size) = ptC (tE L s (ixN a (l + 1))) := sptC_pt _
  obtain ⟨SP, hSP⟩ : ∃ SP : Spt, (⟨s, ((l + 1 : Nat) : Int), tE L s (ixN a (l + 1))⟩ : Spt) = SP := ⟨_, rfl⟩
  rw [hSP] at cli hx1 hxp ⊢
  obtain ⟨p, hp⟩ : ∃ p, tE L s (ixN a (l + 1)) = p := ⟨_, rfl⟩
  rw [hp] at hxp hpr hppk hok hmay
  simp only [hp] at hnext
  obtain ⟨z, hz⟩ : ∃ z, szN l / 4096 = z := ⟨_, rfl⟩
  rw [hz] at hppk
  simp only [hz] at hpr
  have hsz : sizI (l : Int) = (szN l : Int) := siz_szN l
  have hsl : szN l ≤ 1073741824 := by
    rcases (by omega : l = 0 ∨ l = 1) with rfl | rfl
    · rw [show szN 0 = 4096 from rfl]; omega
    · rw [show szN 1 = 2097152 from rfl]; omega
  have hmd : ∀ k, k * szN l / 4096 = k * z := fun k => by rw [mul_div (by omega), hz]
  have hix : ∀ k, k < 512 → ixN (k * szN l) l = k := fun k hk => ix_mul hk
  have csz := fun W (q : Siz W) => size5_c (l : Int) (by omega) (by omega) W q
  rw [hsz] at csz
  have HH := Lib.hid (And.intro hrow0 hdone)
  have Hnx := Lib.hid hnext
  have Hix := Lib.hid hix
  have Hpr := Lib.hid hpr
  have hMo := fun W (e : Ext w W) => hM.ext e
  clear hnext hdone hrow0 hpt hmy1 hvl hbd hw0 hTF hne hspl hpr hix hlf hm hfit hlo hSP hp hz hsz
  generalize splS L f s (ixN a (l + 1)) (l + 1) = KK at *
  generalize frS L f s (ixN a (l + 1)) = K at *
  generalize takeF F = G at *
  have h1 : Blk (((((w.alloc (.cells #[.int .u64 (S : Int), .slice B L.length d] 25)).alloc (.cells #[.int .u64 (P : Int), .int .i64 (M : Int), .int .u64 (F : Int)] 27)).alloc (.cells (sptC SP) 34)).alloc (.cells #[.int .u64 0, .slice none 0 0] 25)).alloc (.cells #[.int .u64 0, .int .i64 0, .int .u64 0] 27)) (w.heap.size) 25 #[.int .u64 (S : Int), .slice B L.length d] := ((((Blk.new w _ _).alloc _).alloc _).alloc _).alloc _
  have h2 : Blk (((((w.alloc (.cells #[.int .u64 (S : Int), .slice B L.length d] 25)).alloc (.cells #[.int .u64 (P : Int), .int .i64 (M : Int), .int .u64 (F : Int)] 27)).alloc (.cells (sptC SP) 34)).alloc (.cells #[.int .u64 0, .slice none 0 0] 25)).alloc (.cells #[.int .u64 0, .int .i64 0, .int .u64 0] 27)) (w.heap.size + 1) 27 #[.int .u64 (P : Int), .int .i64 (M : Int), .int .u64 (F : Int)] := (((blk_at (by simp)).alloc _).alloc _).alloc _
  have h3 : Blk (((((w.alloc (.cells #[.int .u64 (S : Int), .slice B L.length d] 25)).alloc (.cells #[.int .u64 (P : Int), .int .i64 (M : Int), .int .u64 (F : Int)] 27)).alloc (.cells (sptC SP) 34)).alloc (.cells #[.int .u64 0, .slice none 0 0] 25)).alloc (.cells #[.int .u64 0, .int .i64 0, .int .u64 0] 27)) (w.heap.size + 1 + 1) 34 (sptC SP) := ((blk_at (by simp)).alloc _).alloc _
  have k3 : Blk (((((w.alloc (.cells #[.int .u64 (S : Int), .slice B L.length d] 25)).alloc (.cells #[.int .u64 (P : Int), .int .i64 (M : Int), .int .u64 (F : Int)] 27)).alloc (.cells (sptC SP) 34)).alloc (.cells #[.int .u64 0, .slice none 0 0] 25)).alloc (.cells #[.int .u64 0, .int .i64 0, .int .u64 0] 27)) (w.heap.size + 1 + 1 + 1) 25 #[.int .u64 0, .slice none 0 0] := (blk_at (by simp)).alloc _
  have k4 : Blk (((((w.alloc (.cells #[.int .u64 (S : Int), .slice B L.length d] 25)).alloc (.cells #[.int .u64 (P : Int), .int .i64 (M : Int), .int .u64 (F : Int)] 27)).alloc (.cells (sptC SP) 34)).alloc (.cells #[.int .u64 0, .slice none 0 0] 25)).alloc (.cells #[.int .u64 0, .int .i64 0, .int .u64 0] 27)) (w.heap.size + 1 + 1 + 1 + 1) 27 #[.int .u64 0, .int .i64 0, .int .u64 0] := blk_at (by simp)
  have HE := Lib.hid (show Ext w (((((w.alloc (.cells #[.int .u64 (S : Int), .slice B L.length d] 25)).alloc (.cells #[.int .u64 (P : Int), .int .i64 (M : Int), .int .u64 (F : Int)] 27)).alloc (.cells (sptC SP) 34)).alloc (.cells #[.int .u64 0, .slice none 0 0] 25)).alloc (.cells #[.int .u64 0, .int .i64 0, .int .u64 0] 27)) from (((((Ext.refl w).alloc _).alloc _).alloc _).alloc _).alloc _)
  have x1 : (sptC SP)[1]? = some (.int .i64 ((l : Int) + 1)) := hx1
  go_enter Tryd.func17, Tryd.ntmps17
  go_wp2_with (first | (refine wpList_load_blk (by rfl) 25 _ rfl rfl h1 Tryd.underlying25 rfl (by kernel_rfl) ?_) | (refine wpList_load_blk (by rfl) 27 _ rfl rfl h2 Tryd.underlying27 rfl (by kernel_rfl) ?_) | (refine wpList_load_blk (by rfl) 34 _ rfl rfl h3 Tryd.underlying34 rfl (by kernel_rfl) ?_))
  generalize (((((w.alloc (.cells #[.int .u64 (S : Int), .slice B L.length d] 25)).alloc (.cells #[.int .u64 (P : Int), .int .i64 (M : Int), .int .u64 (F : Int)] 27)).alloc (.cells (sptC SP) 34)).alloc (.cells #[.int .u64 0, .slice none 0 0] 25)).alloc (.cells #[.int .u64 0, .int .i64 0, .int .u64 0] 27)) = W1 at *
  have hw1s := k4.lt
  refine (cli _ (hMo _ HE.out) (Tab.below hT.1 HE.out)).mono ?_
  rintro e w7 ⟨B2, d2, rfl, r0, hO2, hE⟩
  have hOA : ∀ lo, Out lo (w.heap.size + 1 + 1 + 1 + 1 + 1) B2 K.length := fun lo => (hO2 lo).mono (by omega)
  (try replace hz := hz.ext hE); (try replace hm := hm.ext hE); (try replace h1 := h1.ext hE); (try replace h2 := h2.ext hE); (try replace h3 := h3.ext hE); (try replace h6 := h6.ext hE); (try replace h7 := h7.ext hE); (try replace h8 := h8.ext hE); (try replace k3 := k3.ext hE); (try replace k4 := k4.ext hE); (try replace hM := hM.ext hE); (try replace HE := Lib.hid (HE.out.trans hE)); (try replace r0 := r0.ext hE); (try replace r1 := r1.ext hE); (try replace r2 := r2.ext hE); (try replace r3 := r3.ext hE); (try replace r4 := r4.ext hE); (try replace r5 := r5.ext hE); (try replace r6 := r6.ext hE)
  clear hE cli hM hMo h1 h2 hO2
  have l4 := k4.lt
  have hOB := r0.out (w7.heap.size + 1 + 1 + 1)
  have z6 : Blk (((w7.alloc (.cells #[.int .u64 (S : Int), .slice B2 K.length d2] 25)).alloc (.cells #[.int .u64 (P : Int), .int .i64 (M : Int), .int .u64 (G : Int)] 27)).alloc (.cells #[.int .u64 0, .int .i64 0, .bool false, .bool false, .bool false, .bool false, .bool false, .bool false, .bool false, .bool false, .int .u64 0, .int .u64 0, .int .u64 0] 34)) w7.heap.size 25 #[.int .u64 (S : Int), .slice B2 K.length d2] := ((Blk.new w7 _ _).alloc _).alloc _
  have z7 : Blk (((w7.alloc (.cells #[.int .u64 (S : Int), .slice B2 K.length d2] 25)).alloc (.cells #[.int .u64 (P : Int), .int .i64 (M : Int), .int .u64 (G : Int)] 27)).alloc (.cells #[.int .u64 0, .int .i64 0, .bool false, .bool false, .bool false, .bool false, .bool false, .bool false, .bool false, .bool false, .int .u64 0, .int .u64 0, .int .u64 0] 34)) (w7.heap.size + 1) 27 #[.int .u64 (P : Int), .int .i64 (M : Int), .int .u64 (G : Int)] := (blk_at (by simp)).alloc _
  have z8 : Blk (((w7.alloc (.cells #[.int .u64 (S : Int), .slice B2 K.length d2] 25)).alloc (.cells #[.int .u64 (P : Int), .int .i64 (M : Int), .int .u64 (G : Int)] 27)).alloc (.cells #[.int .u64 0, .int .i64 0, .bool false, .bool false, .bool false, .bool false, .bool false, .bool false, .bool false, .bool false, .int .u64 0, .int .u64 0, .int .u64 0] 34)) (w7.heap.size + 1 + 1) 34 #[.int .u64 0, .int .i64 0, .bool false, .bool false, .bool false, .bool false, .bool false, .bool false, .bool false, .bool false, .int .u64 0, .int .u64 0, .int .u64 0] := blk_at (by simp)
  have hE : Ext w7 (((w7.alloc (.cells #[.int .u64 (S : Int), .slice B2 K.length d2] 25)).alloc (.cells #[.int .u64 (P : Int), .int .i64 (M : Int), .int .u64 (G : Int)] 27)).alloc (.cells #[.int .u64 0, .int .i64 0, .bool false, .bool false, .bool false, .bool false, .bool false, .bool false, .bool false, .bool false, .int .u64 0, .int .u64 0, .int .u64 0] 34)) := ((((Ext.refl w7).alloc _).alloc _).alloc _)
  have y1 := ((h3.ext (((Ext.refl w7).alloc (.cells #[.int .u64 (S : Int), .slice B2 K.length d2] 25)).alloc (.cells #[.int .u64 (P : Int), .int .i64 (M : Int), .int .u64 (G : Int)] 27))).cell 1).trans x1
  (try replace hz := hz.ext hE); (try replace hm := hm.ext hE); (try replace h1 := h1.ext hE); (try replace h2 := h2.ext hE); (try replace h3 := h3.ext hE); (try replace h6 := h6.ext hE); (try replace h7 := h7.ext hE); (try replace h8 := h8.ext hE); (try replace k3 := k3.ext hE); (try replace k4 := k4.ext hE); (try replace hM := hM.ext hE); (try replace HE := Lib.hid (HE.out.trans hE)); (try replace r0 := r0.ext hE); (try replace r1 := r1.ext hE); (try replace r2 := r2.ext hE); (try replace r3 := r3.ext hE); (try replace r4 := r4.ext hE); (try replace r5 := r5.ext hE); (try replace r6 := r6.ext hE)
  clear hE
  have hlm : ((l : Int) + 1 - 1) = (l : Int) := by omega
  have f3 := h3.apart (show w.heap.size + 1 + 1 ≠ w7.heap.size + 1 + 1 by omega) (sptC ⟨f, (l : Int), getP 0⟩)
  have j3 := k3.apart (show w.heap.size + 1 + 1 + 1 ≠ w7.heap.size + 1 + 1 by omega) (sptC ⟨f, (l : Int), getP 0⟩)
  have j4 := k4.apart (show w.heap.size + 1 + 1 + 1 + 1 ≠ w7.heap.size + 1 + 1 by omega) (sptC ⟨f, (l : Int), getP 0⟩)
  have f6 := z6.apart (show w7.heap.size ≠ w7.heap.size + 1 + 1 by omega) (sptC ⟨f, (l : Int), getP 0⟩)
  have f7 := z7.apart (show w7.heap.size + 1 ≠ w7.heap.size + 1 + 1 by omega) (sptC ⟨f, (l : Int), getP 0⟩)
  have f8 := z8.row (sptC ⟨f, (l : Int), getP 0⟩)
  have rf := r0.row' hOB (show w7.heap.size ≤ w7.heap.size + 1 + 1 by omega) (by omega) (sptC ⟨f, (l : Int), getP 0⟩)
  have HEf := Lib.hid (HE.out.row (show w.heap.size ≤ w7.heap.size + 1 + 1 by omega) (sptC ⟨f, (l : Int), getP 0⟩))
  have y2 := (f8.cell 1).trans (sptC_lv _)
  have u8 := f8.lt
  simp only at y2
  clear h3 k3 k4 z6 z7 r0 HE
  go_wp2_with (first | (refine wpList_build_as (by rfl) rfl (us_built f l) ?_) | (refine wpList_store_blk rfl 34 _ _ rfl rfl rfl z8 (spt_info _) (by simp [sptC_size]) (sptC_one _) ?_))
  clear y1 y2 z8 hlm x1 hx1
  generalize ((((w7.alloc (.cells #[.int .u64 (S : Int), .slice B2 K.length d2] 25)).alloc (.cells #[.int .u64 (P : Int), .int .i64 (M : Int), .int .u64 (G : Int)] 27)).alloc (.cells #[.int .u64 0, .int .i64 0, .bool false, .bool false, .bool false, .bool false, .bool false, .bool false, .bool false, .bool false, .int .u64 0, .int .u64 0, .int .u64 0] 34))).setRow (w7.heap.size + 1 + 1) (sptC ⟨f, (l : Int), getP 0⟩) = W8 at *
  generalize w7.heap.size = g6 at *
  have h3 := f3
  have k3 := j3
  have k4 := j4
  have h6 := f6
  have h7 := f7
  have h8 := f8
  have r0 := rf
  have HE := HEf
  clear f3 j3 j4 f6 f7 f8 rf HEf
  refine (csz _ (hT.2.ext HE.out)).mono ?_
  rintro e w5 ⟨rfl, rfl⟩
  clear csz
  go_wp2_with fail
  go_loopw [41] (fun i wr => ∃ (k : Nat) (K1 : List (Nat × Nat)) (B1 : Option Addr) (d1 : Nat), k ≤ 512 ∧ i = .int .u64 k ∧ Hid (RowK S L K1 s (ixN a (l + 1)) f (l + 1) k) ∧ Blk wr (w.heap.size + 1 + 1) 34 (sptC SP) ∧ Blk wr (w.heap.size + 1 + 1 + 1) 25 #[.int .u64 0, .slice none 0 0] ∧ Blk wr (w.heap.size + 1 + 1 + 1 + 1) 27 #[.int .u64 0, .int .i64 0, .int .u64 0] ∧
    Blk wr g6 25 #[.int .u64 (S : Int), .slice B1 K1.length d1] ∧ Blk wr (g6 + 1) 27 #[.int .u64 (P : Int), .int .i64 (M : Int), .int .u64 (G : Int)] ∧ Blk wr (g6 + 1 + 1) 34 (sptC ⟨f, (l : Int), getP 0⟩) ∧ Mem wr S B1 K1 d1 ∧ (∀ lo, Out lo (w.heap.size + 1 + 1 + 1 + 1 + 1) B1 K1.length) ∧ Out g6 (g6 + 1 + 1 + 1) B1 K1.length ∧ Ext w wr) (fun i _ => (512 - intOf i).toNat)
  case atStart => exact ⟨0, K, B2, d2, by omega, rfl, Lib.hid HH.out.1, h3, k3, k4, h6, h7, h8, r0, hOA, hOB, HE.out⟩
  case round =>
    clear h3 k3 k4 h6 h7 h8 r0 hOA hOB HE u8
    obtain ⟨k, K1, B1, d1, hk, rfl, HR, h3, k3, k4, h6, h7, h8, r0, hOA, hOB, hE⟩ := hrel
    have HE := Lib.hid hE
    clear hE
    by_cases hlt5 : k < 512
    case neg =>
      obtain rfl : k = 512 := by omega
      have hKK := HH.out.2 K1 HR.out
      subst hKK
      clear HR HH Hnx Hix Hpr h3 h8 hmay hok hppk hmd hxp
      go_wp2_with fail
      have hE := (Ext.refl wr).drew
      (try replace hz := hz.ext hE); (try replace hm := hm.ext hE); (try replace h1 := h1.ext hE); (try replace h2 := h2.ext hE); (try replace h3 := h3.ext hE); (try replace h6 := h6.ext hE); (try replace h7 := h7.ext hE); (try replace h8 := h8.ext hE); (try replace k3 := k3.ext hE); (try replace k4 := k4.ext hE); (try replace hM := hM.ext hE); (try replace HE := Lib.hid (HE.out.trans hE)); (try replace r0 := r0.ext hE); (try replace r1 := r1.ext hE); (try replace r2 := r2.ext hE); (try replace r3 := r3.ext hE); (try replace r4 := r4.ext hE); (try replace r5 := r5.ext hE); (try replace r6 := r6.ext hE)
      clear hE
      refine wp_region_seq [(0, false), (1, false), (2, true), (3, true), (4, false)] (Gap (w.heap.size + 1 + 1 + 1) (w.heap.size + 1 + 1 + 1 + 1 + 1)) (by kernel_rfl) (by kernel_rfl) (Gap.refl _ _) (fun _ _ _ => Gap.trans) ?_; simp only [List.map, nth_z, nth_s]
      generalize wr.drew = wz at *
      refine seq_load rfl rfl (fun x hx => Gap.blk hx (h6) (by omega)) rfl Tryd.underlying25 (by kernel_rfl) (by rfl) ?_; intro K hK; simp only [Act.put, List.setIfInBounds_toArray, List.set_cons_zero, List.set_cons_succ]; refine hK _ ?_; clear hK K
      refine seq_load rfl rfl (fun x hx => Gap.blk hx (h7) (by omega)) rfl Tryd.underlying27 (by kernel_rfl) (by rfl) ?_; intro K hK; simp only [Act.put, List.setIfInBounds_toArray, List.set_cons_zero, List.set_cons_succ]; refine hK _ ?_; clear hK K
      (repeat (first | (refine seq_skip (by rfl) ?_; intro K hK; simp only [Act.put, List.setIfInBounds_toArray, List.set_cons_zero, List.set_cons_succ]; refine hK _ ?_; clear hK K) | (refine seq_skipc (by rfl) ?_; intro K hK; simp only [Act.put, List.setIfInBounds_toArray, List.set_cons_zero, List.set_cons_succ]; refine hK _ ?_; clear hK K) | (refine seq_read (by rfl) (by rfl) ?_; intro K hK; go_big_quiet_op; first | go_big_quiet_on | (refine ⟨_, fun _ _ => rfl, ?_⟩; go_big_quiet_on))))
      refine seq_store_row rfl rfl rfl (k3) (by kernel_rfl) (by rfl) (by simp [Value.oneCell']) (by rfl) (Gap.row _ (by omega) (by omega) _) ?_; intro K hK; simp only [Act.put, List.setIfInBounds_toArray, List.set_cons_zero, List.set_cons_succ]; refine hK _ _ ?_; clear hK K
      replace k4 := k4.apart (show w.heap.size + 1 + 1 + 1 + 1 ≠ w.heap.size + 1 + 1 + 1 by omega) #[.int .u64 (S : Int), .slice B1 K1.length d1]
      refine seq_store_row rfl rfl rfl (k4) (by kernel_rfl) (by rfl) (by simp [Value.oneCell']) (by rfl) (Gap.row _ (by omega) (by omega) _) ?_; intro K hK; simp only [Act.put, List.setIfInBounds_toArray, List.set_cons_zero, List.set_cons_succ]; refine hK _ _ ?_; clear hK K
      (repeat (first | (refine seq_skip (by rfl) ?_; intro K hK; simp only [Act.put, List.setIfInBounds_toArray, List.set_cons_zero, List.set_cons_succ]; refine hK _ ?_; clear hK K) | (refine seq_skipc (by rfl) ?_; intro K hK; simp only [Act.put, List.setIfInBounds_toArray, List.set_cons_zero, List.set_cons_succ]; refine hK _ ?_; clear hK K) | (refine seq_read (by rfl) (by rfl) ?_; intro K hK; go_big_quiet_op; first | go_big_quiet_on | (refine ⟨_, fun _ _ => rfl, ?_⟩; go_big_quiet_on))))
      refine seq_done ?_
      go_wp2
      (try simp only [Exit.inBlock, Exit.then])
      (try rw [Exit.noGoto_ret])
      refine bodyPost_ret (results_cct rfl _ _ rfl rfl ((k3.row #[.int .u64 (S : Int), .slice B1 K1.length d1]).apart (by omega) #[.int .u64 (P : Int), .int .i64 (M : Int), .int .u64 (G : Int)]) (k4.row #[.int .u64 (P : Int), .int .i64 (M : Int), .int .u64 (G : Int)]) Tryd.underlying25 rfl (by kernel_rfl) Tryd.underlying27 rfl (by kernel_rfl)) rfl ?_
      have hE2 := (HE.out.row (show w.heap.size ≤ w.heap.size + 1 + 1 + 1 by omega) #[.int .u64 (S : Int), .slice B1 K1.length d1]).row (show w.heap.size ≤ w.heap.size + 1 + 1 + 1 + 1 by omega) #[.int .u64 (P : Int), .int .i64 (M : Int), .int .u64 (G : Int)]
      exact ⟨B1, d1, rfl, (r0.row' (hOA w.heap.size) (show w.heap.size ≤ w.heap.size + 1 + 1 + 1 by omega) (by omega) _).row' (hOA w.heap.size) (show w.heap.size ≤ w.heap.size + 1 + 1 + 1 + 1 by omega) (by omega) _, fun lo => (hOA lo).mono (by omega), hE2⟩
    have Hn1 := Lib.hid (Hnx.out K1 k hlt5 HR.out)
    have hmy := hmay k hlt5
    have hok1 := hok k hlt5
    have hpk := hppk k hlt5
    have hmk := hmd k
    have hixk := Hix.out k hlt5
    have hlenK := HR.out.len
    have hkz : k * szN l < 18446744073709551616 := by
      have h1 : k * szN l ≤ 512 * szN l := Nat.mul_le_mul_right _ (by omega)
      omega
    have hw1 : IntKind.u64.wrap ((k : Int) * (szN l : Int)) = ((k * szN l : Nat) : Int) := by rw [IntKind.wrap_u64, ← Int.natCast_mul]; omega
    have cfu := fun W => further_c p (k * szN l) (p.pp + k * z) hkz (by rw [hmk]) (by omega) W
    rw [← Hpr.out k] at cfu
    have cwi := fun W (m : Mem W S B1 K1 d1) => twith_o (x := getP 0) W m (by omega) hkz hlt (show l ≤ 2 by omega) hixk hmy hok1
    unfold MdO at cwi
    clear hmay hok hppk hmd hmk hixk hlenK Hnx Hix Hpr hmy hok1 hpk HR
    generalize prt p (l + 1) k = px at *
    generalize stS K1 f k (putN px) = K3 at *
    generalize k * szN l = kz at *
    go_wp2_with fail
    refine wp_region_load (Gap g6 (g6 + 1)) (fun a' W => a'.tmps[11]? = some (.pointer (some ⟨g6, 0, none⟩)) ∧ Blk W g6 25 #[.int .u64 (S : Int), .slice B1 K1.length d1]) 44 (.agg #[.int .u64 (S : Int), .slice B1 K1.length d1]) 0 [([(1, false), (2, false), (3, false), (4, false), (5, false), (6, false), (7, false), (8, false), (9, false)], 10)] [] [(11, true), (12, true)] (by kernel_rfl) (by kernel_rfl) (Gap.refl _ _) (fun _ _ _ => Gap.trans) ?_ (fun _ => rfl) rfl ?_
    · intro a' W h
      have e : a'.tmps.getD 11 undef = .pointer (some ⟨g6, 0, none⟩) := by simp [h.1]
      have hq0 : W.cell? _ = _ := h.2.cell 0
      have hq1 : W.cell? _ = _ := h.2.cell 1
      simp [nth, go_sem, execOp, Act.eval, h.1, hq0, hq1]
    simp only [loadB, List.map, nth_z, nth_s]
    have hE := (Ext.refl wr).drew
    (try replace hz := hz.ext hE); (try replace hm := hm.ext hE); (try replace h1 := h1.ext hE); (try replace h2 := h2.ext hE); (try replace h3 := h3.ext hE); (try replace h6 := h6.ext hE); (try replace h7 := h7.ext hE); (try replace h8 := h8.ext hE); (try replace k3 := k3.ext hE); (try replace k4 := k4.ext hE); (try replace hM := hM.ext hE); (try replace HE := Lib.hid (HE.out.trans hE)); (try replace r0 := r0.ext hE); (try replace r1 := r1.ext hE); (try replace r2 := r2.ext hE); (try replace r3 := r3.ext hE); (try replace r4 := r4.ext hE); (try replace r5 := r5.ext hE); (try replace r6 := r6.ext hE)
    clear hE
    generalize wr.drew = w2 at *
    intro y
    (try simp only [Act.put, List.setIfInBounds_toArray, List.set_cons_zero, List.set_cons_succ])
    refine seq_load rfl rfl (fun x hx => Gap.blk hx (h8) (by omega)) rfl Tryd.underlying34 (spt_info _) (by rfl) ?_; intro K hK; simp only [Act.put, List.setIfInBounds_toArray, List.set_cons_zero, List.set_cons_succ]; refine hK _ ?_; clear hK K
    (repeat (first | (refine seq_skip (by rfl) ?_; intro K hK; simp only [Act.put, List.setIfInBounds_toArray, List.set_cons_zero, List.set_cons_succ]; refine hK _ ?_; clear hK K) | (refine seq_skipc (by rfl) ?_; intro K hK; simp only [Act.put, List.setIfInBounds_toArray, List.set_cons_zero, List.set_cons_succ]; refine hK _ ?_; clear hK K) | (refine seq_read (by rfl) (by rfl) ?_; intro K hK; go_big_quiet_op; first | go_big_quiet_on | (refine ⟨_, fun _ _ => rfl, ?_⟩; go_big_quiet_on))))
    refine seq_load_part rfl rfl ((fun x hx => Gap.blk hx h3 (by omega))) (hxp) rfl Tryd.underlying32 (pt_info _) (by rfl) ?_; intro K hK; simp only [Act.put, List.setIfInBounds_toArray, List.set_cons_zero, List.set_cons_succ]; refine hK _ ?_; clear hK K
    (repeat (first | (refine seq_skip (by rfl) ?_; intro K hK; simp only [Act.put, List.setIfInBounds_toArray, List.set_cons_zero, List.set_cons_succ]; refine hK _ ?_; clear hK K) | (refine seq_skipc (by rfl) ?_; intro K hK; simp only [Act.put, List.setIfInBounds_toArray, List.set_cons_zero, List.set_cons_succ]; refine hK _ ?_; clear hK K) | (refine seq_read (by rfl) (by rfl) ?_; intro K hK; go_big_quiet_op; first | go_big_quiet_on | (refine ⟨_, fun _ _ => rfl, ?_⟩; go_big_quiet_on))))
    refine seq_done ⟨⟨rfl, h6⟩, rfl, ?_⟩
    intro y
    (try simp only [Act.put, List.setIfInBounds_toArray, List.set_cons_zero, List.set_cons_succ])
    refine seq_call ((cfu _)) rfl Tryd.func36 (by kernel_rfl) (by kernel_rfl) (by rfl) (by rfl) ?_; intro K hK; rintro e w' ⟨rfl, hE⟩; refine ⟨_, rfl, (Gap.ext hE), ?_⟩; simp only [Act.put, List.setIfInBounds_toArray, List.set_cons_zero, List.set_cons_succ]; refine hK _ _ ?_; clear hK K
    (try replace hz := hz.ext hE); (try replace hm := hm.ext hE); (try replace h1 := h1.ext hE); (try replace h2 := h2.ext hE); (try replace h3 := h3.ext hE); (try replace h6 := h6.ext hE); (try replace h7 := h7.ext hE); (try replace h8 := h8.ext hE); (try replace k3 := k3.ext hE); (try replace k4 := k4.ext hE); (try replace hM := hM.ext hE); (try replace HE := Lib.hid (HE.out.trans hE)); (try replace r0 := r0.ext hE); (try replace r1 := r1.ext hE); (try replace r2 := r2.ext hE); (try replace r3 := r3.ext hE); (try replace r4 := r4.ext hE); (try replace r5 := r5.ext hE); (try replace r6 := r6.ext hE)
    clear hE
    refine seq_done ⟨⟨rfl, h6⟩, rfl, ?_⟩
    intro y
    (try simp only [Act.put, List.setIfInBounds_toArray, List.set_cons_zero, List.set_cons_succ])
    refine seq_done ⟨⟨rfl, h6⟩, rfl, ?_⟩
    (try simp only [Act.put, List.setIfInBounds_toArray, List.set_cons_zero, List.set_cons_succ])
    have u8 := h8.lt
    have u4 := k4.lt
    refine seq_call ((cwi _ r0)) rfl Tryd.func35 (by kernel_rfl) (by kernel_rfl) (by rfl) (by rfl) ?_; intro K hK; rintro e w' ⟨B3, d3, rfl, hM3, hO3, hE⟩; refine ⟨_, rfl, (Gap.ext hE), ?_⟩; simp only [Act.put, List.setIfInBounds_toArray, List.set_cons_zero, List.set_cons_succ]; refine hK _ _ ?_; clear hK K
    have hOA3 : ∀ lo, Out lo (w.heap.size + 1 + 1 + 1 + 1 + 1) B3 K3.length := fun lo => (hO3 lo).mono (by omega)
    have hOB3 : Out g6 (g6 + 1 + 1 + 1) B3 K3.length := (hO3 g6).mono (by omega)
    (try replace hz := hz.ext hE); (try replace hm := hm.ext hE); (try replace h1 := h1.ext hE); (try replace h2 := h2.ext hE); (try replace h3 := h3.ext hE); (try replace h6 := h6.ext hE); (try replace h7 := h7.ext hE); (try replace h8 := h8.ext hE); (try replace k3 := k3.ext hE); (try replace k4 := k4.ext hE); (try replace hM := hM.ext hE); (try replace HE := Lib.hid (HE.out.trans hE)); (try replace r0 := r0.ext hE); (try replace r1 := r1.ext hE); (try replace r2 := r2.ext hE); (try replace r3 := r3.ext hE); (try replace r4 := r4.ext hE); (try replace r5 := r5.ext hE); (try replace r6 := r6.ext hE)
    clear hE hO3 r0 hOA hOB
    refine seq_store_row rfl rfl rfl (h6) (by kernel_rfl) (by rfl) (by simp [Value.oneCell']) (by rfl) (Gap.row _ (by omega) (by omega) _) ?_; intro K hK; simp only [Act.put, List.setIfInBounds_toArray, List.set_cons_zero, List.set_cons_succ]; refine hK _ _ ?_; clear hK K
    refine seq_done ?_
    have f3 := h3.apart (show w.heap.size + 1 + 1 ≠ g6 by omega) #[.int .u64 (S : Int), .slice B3 K3.length d3]
    have j3 := k3.apart (show w.heap.size + 1 + 1 + 1 ≠ g6 by omega) #[.int .u64 (S : Int), .slice B3 K3.length d3]
    have j4 := k4.apart (show w.heap.size + 1 + 1 + 1 + 1 ≠ g6 by omega) #[.int .u64 (S : Int), .slice B3 K3.length d3]
    have f7 := h7.apart (show g6 + 1 ≠ g6 by omega) #[.int .u64 (S : Int), .slice B3 K3.length d3]
    have f8 := h8.apart (show g6 + 1 + 1 ≠ g6 by omega) #[.int .u64 (S : Int), .slice B3 K3.length d3]
    have f6 := h6.row #[.int .u64 (S : Int), .slice B3 K3.length d3]
    have rf := hM3.row' hOB3 (Nat.le_refl g6) (by omega) #[.int .u64 (S : Int), .slice B3 K3.length d3]
    have HEf := Lib.hid (HE.out.row (show w.heap.size ≤ g6 by omega) #[.int .u64 (S : Int), .slice B3 K3.length d3])
    clear h3 k3 k4 h6 h7 h8 HE hM3 cfu cwi
    go_wp2_with fail
    go_roundw
    case rel =>
      first
        | exact ⟨k + 1, K3, B3, d3, by omega, by simp, Hn1, f3, j3, j4, f6, f7, f8, rf, hOA3, hOB3, HEf.out⟩
        | exact ⟨_, ⟨k + 1, K3, B3, d3, by omega, by simp, Hn1, f3, j3, j4, f6, f7, f8, rf, hOA3, hOB3, HEf.out⟩, rfl⟩
    case measure =>
      simp [intOf]; omega
end Go.Proofs.YticbjiddbjgikaaDoor
