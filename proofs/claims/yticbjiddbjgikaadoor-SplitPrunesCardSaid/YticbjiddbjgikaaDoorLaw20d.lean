/- SplitPrunes. -/
import Derived.Test.YticbjiddbjgikaaDoorGlaw
import Derived.Test.YticbjiddbjgikaaDoorGrspm
import Derived.Test.YticbjiddbjgikaaDoorLaw19a
namespace Go.Proofs.YticbjiddbjgikaaDoor
open Go.ChangeShapes Go.WideShapes Go.ChangeAt Go.RowKit
set_option linter.unusedVariables false
set_option linter.unusedSimpArgs false
set_option maxRecDepth 10000
attribute [local irreducible] World.setRow World.alloc Blk
set_option maxRecDepth 100000 in
set_option maxHeartbeats 16000000 in
theorem SplitPrunes_w (caw : Awk20) (S : Nat) (B : Option Addr) (L : List (Nat × Nat)) (d P : Nat) (M : Int) (F t : Nat) (l : Int) (a : Nat) (hS : S < 18446744073709551616) (hL : IsCells L) (hP : P < 18446744073709551616) (hM0 : -9223372036854775808 ≤ M) (hM1 : M ≤ 9223372036854775807) (hF : F < 18446744073709551616) (ht : t < 18446744073709551616) (hl : -9223372036854775808 ≤ l ∧ l ≤ 9223372036854775807) (ha : a < 18446744073709551616) (w : World) (hm : RowL w B L d) (hT : Tab w ∧ Siz w) :
    Calls Tryd.prog 4 #[.agg #[.int .u64 (S : Int), .slice B L.length d], .agg #[.int .u64 (P : Int), .int .i64 M, .int .u64 (F : Int)], .int .u64 (t : Int), .int .i64 l, .int .u64 (a : Int)] w fun r w' => r = .returned (.bool true) ∧ Ext w w' := by
  obtain ⟨h1, h2⟩ := blk_two (Ext.refl ((w.alloc (.cells #[.int .u64 (S : Int), .slice B L.length d] 25)).alloc (.cells #[.int .u64 (P : Int), .int .i64 M, .int .u64 (F : Int)] 27)))
  have HE := Lib.hid (((Ext.refl w).alloc (.cells #[.int .u64 (S : Int), .slice B L.length d] 25)).alloc (.cells #[.int .u64 (P : Int), .int .i64 M, .int .u64 (F : Int)] 27))
  generalize hW1 : (w.alloc (.cells #[.int .u64 (S : Int), .slice B L.length d] 25)).alloc (.cells #[.int .u64 (P : Int), .int .i64 M, .int .u64 (F : Int)] 27) = W1 at h1 h2 HE
  have HW1 := Lib.hid hW1
  clear hW1
  have hTE : ∀ W : World, Ext w W → Tab W ∧ Siz W := fun W e => ⟨Tab.below hT.1 e, hT.2.ext e⟩
  have hmr : ∀ W : World, Ext w W → RowL W B L d := fun W e => hm.ext e
  have cfw := fun W (r : RowL W B L d) => few20_c S P M F B L d t l hS hL ht hP hF hM0 hM1 W r
  have cia := fun W => ris5_c (a : Int) (by omega) (by omega) W
  unfold Awk20 at caw
  go_enter Tryd.func4, Tryd.ntmps4
  go_upto_region 1 with fail
  rw [HW1.out]
  clear HW1
  go_wp2_with (fail); refine (caw _ (hTE _ HE.out)).mono ?_; rintro e w' ⟨rfl, hE⟩; (try replace hb := hb.ext hE); (try replace hm := hm.ext hE); (try replace h1 := h1.ext hE); (try replace h2 := h2.ext hE); (try replace h3 := h3.ext hE); (try replace h4 := h4.ext hE); (try replace h5 := h5.ext hE); (try replace h6 := h6.ext hE); (try replace HE := Lib.hid (HE.out.trans hE)); (try replace r0 := r0.ext hE); (try replace r1 := r1.ext hE); (try replace r2 := r2.ext hE); (try replace r3 := r3.ext hE); (try replace r4 := r4.ext hE); (try replace r5 := r5.ext hE); (try replace r6 := r6.ext hE); clear hE
  go_wp2_with (first | (refine wpList_load_blk (by rfl) 25 _ rfl rfl h1 Tryd.underlying25 rfl (by kernel_rfl) ?_) | (refine wpList_load_blk (by rfl) 27 _ rfl rfl h2 Tryd.underlying27 rfl (by kernel_rfl) ?_))
  refine (cfw _ (hmr _ HE.out)).mono ?_
  rintro e w1 ⟨b, rfl, hb, hE⟩
  (try replace hb := hb.ext hE); (try replace hm := hm.ext hE); (try replace h1 := h1.ext hE); (try replace h2 := h2.ext hE); (try replace h3 := h3.ext hE); (try replace h4 := h4.ext hE); (try replace h5 := h5.ext hE); (try replace h6 := h6.ext hE); (try replace HE := Lib.hid (HE.out.trans hE)); (try replace r0 := r0.ext hE); (try replace r1 := r1.ext hE); (try replace r2 := r2.ext hE); (try replace r3 := r3.ext hE); (try replace r4 := r4.ext hE); (try replace r5 := r5.ext hE); (try replace r6 := r6.ext hE)
  clear hE cfw
  cases b
  case false =>
    clear hb h1 h2 cia
    go_wp2_with fail
    refine (caw _ (hTE _ HE.out)).mono ?_
    rintro e wz ⟨rfl, hE⟩
    replace HE := Lib.hid (HE.out.trans hE)
    clear hE
    go_wp2
    go_ret
    exact ⟨rfl, HE.out⟩
  obtain ⟨m, n, hfw⟩ := hb rfl
  clear hb
  cases hva : vaB (a : Int)
  case false =>
    rw [hva] at cia
    clear hva hfw h1 h2
    go_wp2_with (go_at_call 9; (with_reducible refine (cia _).mono ?_); rintro e wq ⟨rfl, rfl⟩)
    refine (caw _ (hTE _ HE.out)).mono ?_
    rintro e wz ⟨rfl, hE⟩
    replace HE := Lib.hid (HE.out.trans hE)
    clear hE
    go_wp2
    go_ret
    exact ⟨rfl, HE.out⟩
  rw [hva] at cia
  clear hva
  obtain ⟨⟨hem, hel, hn2, hso, hpk, hbits, hfit⟩, hlen, htab⟩ := hfw
  subst hem
  subst hel
  have hMm : ∀ W : World, Ext w W → Mem W S B L d := fun W e => ⟨hm.ext e, hfit.rl, hso, by omega⟩
  have cpr := fun W (k : Mem W S B L d) q => prune20_c (a := a) hfit hpk hbits (by omega) hn2 ha W k q
  have crp := fun W (k : Mem W S B L d) => rprune_c (a := a) hfit hpk hbits (by omega) hn2 ha W k
  generalize prS P m a n t n L F = q at *
  have csa := fun W A c A' c' (k : Mem W S A q.1 c) (k' : Mem W S A' q.1 c') => same_xx k k'
  rw [decide_eq_true rfl] at csa
  go_wp2_with (first | (go_at_call 9; (with_reducible refine (cia _).mono ?_); rintro e wq ⟨rfl, rfl⟩) | (refine wpList_load_blk (by rfl) 25 _ rfl rfl h1 Tryd.underlying25 rfl (by kernel_rfl) ?_) | (refine wpList_load_blk (by rfl) 27 _ rfl rfl h2 Tryd.underlying27 rfl (by kernel_rfl) ?_))
  refine (cpr _ (hMm _ HE.out) (hTE _ HE.out)).mono ?_
  rintro e w2 ⟨B2, d2, rfl, r1, hE⟩
  (try replace hb := hb.ext hE); (try replace hm := hm.ext hE); (try replace h1 := h1.ext hE); (try replace h2 := h2.ext hE); (try replace h3 := h3.ext hE); (try replace h4 := h4.ext hE); (try replace h5 := h5.ext hE); (try replace h6 := h6.ext hE); (try replace HE := Lib.hid (HE.out.trans hE)); (try replace r0 := r0.ext hE); (try replace r1 := r1.ext hE); (try replace r2 := r2.ext hE); (try replace r3 := r3.ext hE); (try replace r4 := r4.ext hE); (try replace r5 := r5.ext hE); (try replace r6 := r6.ext hE)
  clear hE cpr
  obtain ⟨zz1, zz2, hE, h3, h4⟩ := nmp w2 #[.int .u64 (S : Int), .slice B2 q.1.length d2] #[.int .u64 (P : Int), .int .i64 (m : Int), .int .u64 (q.2 : Int)]; (try replace hb := hb.ext hE); (try replace hm := hm.ext hE); (try replace h1 := h1.ext hE); (try replace h2 := h2.ext hE); (try replace h3 := h3.ext hE); (try replace h4 := h4.ext hE); (try replace h5 := h5.ext hE); (try replace h6 := h6.ext hE); (try replace HE := Lib.hid (HE.out.trans hE)); (try replace r0 := r0.ext hE); (try replace r1 := r1.ext hE); (try replace r2 := r2.ext hE); (try replace r3 := r3.ext hE); (try replace r4 := r4.ext hE); (try replace r5 := r5.ext hE); (try replace r6 := r6.ext hE)
  clear hE
  go_wp2_with (first | (first | (refine wpList_store_blk rfl 25 _ _ rfl rfl rfl zz1 (by kernel_rfl) (by rfl) (by simp [Value.oneCell']) ?_) | ((refine wpList_store_blk rfl 27 _ _ rfl rfl rfl zz2 (by kernel_rfl) (by rfl) (by simp [Value.oneCell']) ?_); clear zz1 zz2; generalize (((w2.alloc (.cells #[.int .u64 0, .slice none 0 0] 25)).alloc (.cells #[.int .u64 0, .int .i64 0, .int .u64 0] 27)).setRow w2.heap.size #[.int .u64 (S : Int), .slice B2 q.1.length d2]).setRow (w2.heap.size + 1) #[.int .u64 (P : Int), .int .i64 (m : Int), .int .u64 (q.2 : Int)] = X2 at *)) | (refine wpList_load_blk (by rfl) 25 _ rfl rfl h1 Tryd.underlying25 rfl (by kernel_rfl) ?_) | (refine wpList_load_blk (by rfl) 27 _ rfl rfl h2 Tryd.underlying27 rfl (by kernel_rfl) ?_))
  refine (crp _ (hMm _ HE.out)).mono ?_
  rintro e w3 ⟨B3, d3, rfl, r2, hE⟩
  (try replace hb := hb.ext hE); (try replace hm := hm.ext hE); (try replace h1 := h1.ext hE); (try replace h2 := h2.ext hE); (try replace h3 := h3.ext hE); (try replace h4 := h4.ext hE); (try replace h5 := h5.ext hE); (try replace h6 := h6.ext hE); (try replace HE := Lib.hid (HE.out.trans hE)); (try replace r0 := r0.ext hE); (try replace r1 := r1.ext hE); (try replace r2 := r2.ext hE); (try replace r3 := r3.ext hE); (try replace r4 := r4.ext hE); (try replace r5 := r5.ext hE); (try replace r6 := r6.ext hE)
  clear hE crp
  obtain ⟨zz1, zz2, hE, h5, h6⟩ := nmp w3 #[.int .u64 (S : Int), .slice B3 q.1.length d3] #[.int .u64 (P : Int), .int .i64 (m : Int), .int .u64 (q.2 : Int)]; (try replace hb := hb.ext hE); (try replace hm := hm.ext hE); (try replace h1 := h1.ext hE); (try replace h2 := h2.ext hE); (try replace h3 := h3.ext hE); (try replace h4 := h4.ext hE); (try replace h5 := h5.ext hE); (try replace h6 := h6.ext hE); (try replace HE := Lib.hid (HE.out.trans hE)); (try replace r0 := r0.ext hE); (try replace r1 := r1.ext hE); (try replace r2 := r2.ext hE); (try replace r3 := r3.ext hE); (try replace r4 := r4.ext hE); (try replace r5 := r5.ext hE); (try replace r6 := r6.ext hE)
  clear hE
  go_wp2_with (first | (first | (refine wpList_store_blk rfl 25 _ _ rfl rfl rfl zz1 (by kernel_rfl) (by rfl) (by simp [Value.oneCell']) ?_) | ((refine wpList_store_blk rfl 27 _ _ rfl rfl rfl zz2 (by kernel_rfl) (by rfl) (by simp [Value.oneCell']) ?_); clear zz1 zz2; generalize (((w3.alloc (.cells #[.int .u64 0, .slice none 0 0] 25)).alloc (.cells #[.int .u64 0, .int .i64 0, .int .u64 0] 27)).setRow w3.heap.size #[.int .u64 (S : Int), .slice B3 q.1.length d3]).setRow (w3.heap.size + 1) #[.int .u64 (P : Int), .int .i64 (m : Int), .int .u64 (q.2 : Int)] = X3 at *)) | (refine wpList_load_blk (by rfl) 25 _ rfl rfl h3 Tryd.underlying25 rfl (by kernel_rfl) ?_) | (refine wpList_load_blk (by rfl) 25 _ rfl rfl h5 Tryd.underlying25 rfl (by kernel_rfl) ?_))
  refine (csa _ _ _ _ _ r1 r2).mono ?_
  rintro e w4 ⟨rfl, hE⟩
  (try replace hb := hb.ext hE); (try replace hm := hm.ext hE); (try replace h1 := h1.ext hE); (try replace h2 := h2.ext hE); (try replace h3 := h3.ext hE); (try replace h4 := h4.ext hE); (try replace h5 := h5.ext hE); (try replace h6 := h6.ext hE); (try replace HE := Lib.hid (HE.out.trans hE)); (try replace r0 := r0.ext hE); (try replace r1 := r1.ext hE); (try replace r2 := r2.ext hE); (try replace r3 := r3.ext hE); (try replace r4 := r4.ext hE); (try replace r5 := r5.ext hE); (try replace r6 := r6.ext hE)
  clear hE csa
  have hq : ∀ w, (binOp .eql 27 (.agg #[.int .u64 (P : Int), .int .i64 (m : Int), .int .u64 (q.2 : Int)]) (.agg #[.int .u64 (P : Int), .int .i64 (m : Int), .int .u64 (q.2 : Int)])).run Tryd.prog w = .ok (.bool true) w := fun w => by rw [eqlP]; simp
  have hpg := pool_guard
  go_wp2_with (first | (refine wpList_load_blk (by rfl) 27 _ rfl rfl h4 Tryd.underlying27 rfl (by kernel_rfl) ?_) | (refine wpList_load_blk (by rfl) 27 _ rfl rfl h6 Tryd.underlying27 rfl (by kernel_rfl) ?_))
  go_ret
  exact ⟨rfl, HE.out⟩
end Go.Proofs.YticbjiddbjgikaaDoor
