/- SplitTwice. -/
import Derived.Test.YticbjiddbjgikaaDoorGlaw
import Derived.Test.YticbjiddbjgikaaDoorLaw19a
namespace Go.Proofs.YticbjiddbjgikaaDoor
open Go.ChangeShapes Go.WideShapes Go.ChangeAt Go.RowKit
set_option linter.unusedVariables false
set_option linter.unusedSimpArgs false
set_option maxRecDepth 10000
attribute [local irreducible] World.setRow World.alloc Blk
set_option maxRecDepth 100000 in
set_option maxHeartbeats 16000000 in
theorem SplitTwice_w (caw : Awk20) (S : Nat) (B : Option Addr) (L : List (Nat × Nat)) (d P : Nat) (M : Int) (F t : Nat) (a : Nat) (z : Nat) (hS : S < 18446744073709551616) (hL : IsCells L) (hP : P < 18446744073709551616) (hM0 : -9223372036854775808 ≤ M) (hM1 : M ≤ 9223372036854775807) (hF : F < 18446744073709551616) (ht : t < 18446744073709551616) (ha : a < 18446744073709551616) (hz : z < 256) (w : World) (hm : RowL w B L d) (hT : Tab w ∧ Siz w) :
    Calls Tryd.prog 6 #[.agg #[.int .u64 (S : Int), .slice B L.length d], .agg #[.int .u64 (P : Int), .int .i64 M, .int .u64 (F : Int)], .int .u64 (t : Int), .int .u64 (a : Int), .int .u8 (z : Int)] w fun r w' => r = .returned (.bool true) ∧ Ext w w' := by
  obtain ⟨h1, h2⟩ := blk_two (Ext.refl ((w.alloc (.cells #[.int .u64 (S : Int), .slice B L.length d] 25)).alloc (.cells #[.int .u64 (P : Int), .int .i64 M, .int .u64 (F : Int)] 27)))
  have HE := Lib.hid (((Ext.refl w).alloc (.cells #[.int .u64 (S : Int), .slice B L.length d] 25)).alloc (.cells #[.int .u64 (P : Int), .int .i64 M, .int .u64 (F : Int)] 27))
  generalize hW1 : (w.alloc (.cells #[.int .u64 (S : Int), .slice B L.length d] 25)).alloc (.cells #[.int .u64 (P : Int), .int .i64 M, .int .u64 (F : Int)] 27) = W1 at h1 h2 HE
  have HW1 := Lib.hid hW1
  clear hW1
  have hTE : ∀ W : World, Ext w W → Tab W ∧ Siz W := fun W e => ⟨Tab.below hT.1 e, hT.2.ext e⟩
  have hmr : ∀ W : World, Ext w W → RowL W B L d := fun W e => hm.ext e
  have cfw := fun W (r : RowL W B L d) => few20_c S P M F B L d t 2 hS hL ht hP hF hM0 hM1 W r
  have cia := fun W => ris5_c (a : Int) (by omega) (by omega) W
  unfold Awk20 at caw
  go_enter Tryd.func6, Tryd.ntmps6
  go_upto_region 1 with fail
  rw [HW1.out]
  clear HW1
  go_wp2_with (fail); refine (caw _ (hTE _ HE.out)).mono ?_; rintro e w' ⟨rfl, hE⟩; (try replace hb := hb.ext hE); (try replace hz := hz.ext hE); (try replace hm := hm.ext hE); (try replace h1 := h1.ext hE); (try replace h2 := h2.ext hE); (try replace h3 := h3.ext hE); (try replace h4 := h4.ext hE); (try replace h5 := h5.ext hE); (try replace h6 := h6.ext hE); (try replace h7 := h7.ext hE); (try replace h8 := h8.ext hE); (try replace h9 := h9.ext hE); (try replace k1 := k1.ext hE); (try replace k2 := k2.ext hE); (try replace k3 := k3.ext hE); (try replace k4 := k4.ext hE); (try replace k5 := k5.ext hE); (try replace k6 := k6.ext hE); (try replace HE := Lib.hid (HE.out.trans hE)); (try replace r0 := r0.ext hE); (try replace r1 := r1.ext hE); (try replace r2 := r2.ext hE); (try replace r3 := r3.ext hE); (try replace r4 := r4.ext hE); (try replace r5 := r5.ext hE); (try replace r6 := r6.ext hE); clear hE
  go_wp2_with (first | (refine wpList_load_blk (by rfl) 25 _ rfl rfl h1 Tryd.underlying25 rfl (by kernel_rfl) ?_) | (refine wpList_load_blk (by rfl) 27 _ rfl rfl h2 Tryd.underlying27 rfl (by kernel_rfl) ?_))
  refine (cfw _ (hmr _ HE.out)).mono ?_
  rintro e w1 ⟨b, rfl, hb, hE⟩
  (try replace hb := hb.ext hE); (try replace hz := hz.ext hE); (try replace hm := hm.ext hE); (try replace h1 := h1.ext hE); (try replace h2 := h2.ext hE); (try replace h3 := h3.ext hE); (try replace h4 := h4.ext hE); (try replace h5 := h5.ext hE); (try replace h6 := h6.ext hE); (try replace h7 := h7.ext hE); (try replace h8 := h8.ext hE); (try replace h9 := h9.ext hE); (try replace k1 := k1.ext hE); (try replace k2 := k2.ext hE); (try replace k3 := k3.ext hE); (try replace k4 := k4.ext hE); (try replace k5 := k5.ext hE); (try replace k6 := k6.ext hE); (try replace HE := Lib.hid (HE.out.trans hE)); (try replace r0 := r0.ext hE); (try replace r1 := r1.ext hE); (try replace r2 := r2.ext hE); (try replace r3 := r3.ext hE); (try replace r4 := r4.ext hE); (try replace r5 := r5.ext hE); (try replace r6 := r6.ext hE)
  clear hE cfw
  cases b
  case false =>
    clear hb h1 h2 cia
    go_wp2_with fail
    refine (caw _ (hTE _ HE.out)).mono ?_
    rintro e wz ⟨rfl, hE⟩
    replace HE := Lib.hid (HE.out.trans hE)
    clear hE
    go_wp2
    go_ret
    exact ⟨rfl, HE.out⟩
  obtain ⟨m, n, hfw⟩ := hb rfl
  clear hb
  cases hva : vaB (a : Int)
  case false =>
    rw [hva] at cia
    clear hva hfw h1 h2
    go_wp2_with (go_at_call 9; (with_reducible refine (cia _).mono ?_); rintro e wq ⟨rfl, rfl⟩)
    refine (caw _ (hTE _ HE.out)).mono ?_
    rintro e wz ⟨rfl, hE⟩
    replace HE := Lib.hid (HE.out.trans hE)
    clear hE
    go_wp2
    go_ret
    exact ⟨rfl, HE.out⟩
  rw [hva] at cia
  clear hva
  obtain ⟨⟨hem, hel, hn2, hso, hpk, hbits, hfit⟩, hlen, htab⟩ := hfw
  subst hem
  obtain rfl : n = 2 := by omega
  clear hel
  have hMm : ∀ W : World, Ext w W → Mem W S B L d := fun W e => ⟨hm.ext e, hfit.rl, hso, by omega⟩
  obtain ⟨k, hk⟩ : ∃ k, z % 3 = k := ⟨_, rfl⟩
  have hkn : k ≤ 2 := by omega
  have hz2 : (z : Int) % 3 = (k : Int) := by omega
  clear hk
  have hlv0 := tabs_le (reach_mem L a 0 2 t)
  have hlvk := tabs_le (reach_mem L a k 2 t)
  have hti := to_is (a := a) hpk hn2 hkn 3 L F hfit hbits (by omega)
  have hrk := to_room (a := a) hpk hn2 hkn (Nat.le_refl k) 3 L F hfit hbits (by omega)
  have hr0 := to_room (a := a) hpk hn2 hkn (Nat.zero_le k) 3 L F hfit hbits (by omega)
  have htw := fun L' F' (e : toS P a k 2 t 3 L F = (0, L', F')) => to_twice (a := a) hpk hn2 hkn hfit hbits (by omega) e
  have hlw := fun L' F' (e : toS P a k 2 t 3 L F = (0, L', F')) => to_low2 (a := a) hpk hn2 hkn 3 L F hfit hbits (by omega) e
  have cto := fun W (q : Mem W S B L d) y => to20_c (k := k) (a := a) hfit hpk hbits (by omega) (by omega) hn2 hkn ha W q y
  have ct0 := fun W (q : Mem W S B L d) y => to20_c (k := 0) (a := a) hfit hpk hbits (by omega) (by omega) hn2 (Nat.zero_le 2) ha W q y
  obtain ⟨D, hD⟩ : ∃ D, toS P a k 2 t 3 L F = D := ⟨_, rfl⟩
  have hf1 := hti.fit
  have hb1 := hti.bits
  have hl1 := hti.len
  rw [hD] at cto hf1 hb1 hl1 hrk hr0
  simp only [hD] at htw hlw
  clear hti
  obtain ⟨e0, L1, F1⟩ := D
  simp only at hf1 hb1 hl1 hrk hr0
  go_wp2_with (first | (go_at_call 9; (with_reducible refine (cia _).mono ?_); rintro e wq ⟨rfl, rfl⟩) | (refine wpList_load_blk (by rfl) 25 _ rfl rfl h1 Tryd.underlying25 rfl (by kernel_rfl) ?_) | (refine wpList_load_blk (by rfl) 27 _ rfl rfl h2 Tryd.underlying27 rfl (by kernel_rfl) ?_))
  refine (cto _ (hMm _ HE.out) (hTE _ HE.out)).mono ?_
  intro r w2 hTo
  by_cases h0 : e0 = 0
  case neg =>
    have dn : ((e0 : Int) == 0) = false := by simp; exact h0
    obtain ⟨B2, d2, rfl, -, hE⟩ := to_er h0 hTo
    clear hTo h0 hf1 hb1 hl1 hrk hr0 htw hlw hD cto ct0
    (try replace hb := hb.ext hE); (try replace hz := hz.ext hE); (try replace hm := hm.ext hE); (try replace h1 := h1.ext hE); (try replace h2 := h2.ext hE); (try replace h3 := h3.ext hE); (try replace h4 := h4.ext hE); (try replace h5 := h5.ext hE); (try replace h6 := h6.ext hE); (try replace h7 := h7.ext hE); (try replace h8 := h8.ext hE); (try replace h9 := h9.ext hE); (try replace k1 := k1.ext hE); (try replace k2 := k2.ext hE); (try replace k3 := k3.ext hE); (try replace k4 := k4.ext hE); (try replace k5 := k5.ext hE); (try replace k6 := k6.ext hE); (try replace HE := Lib.hid (HE.out.trans hE)); (try replace r0 := r0.ext hE); (try replace r1 := r1.ext hE); (try replace r2 := r2.ext hE); (try replace r3 := r3.ext hE); (try replace r4 := r4.ext hE); (try replace r5 := r5.ext hE); (try replace r6 := r6.ext hE)
    clear hE
    obtain ⟨zz1, zz2, zz3, hE, h3, h4, h5⟩ := nmps w2 (#[.int .u64 (S : Int), .slice B2 L.length d2]) (#[.int .u64 (P : Int), .int .i64 (m : Int), .int .u64 (F : Int)]) ((sptC ⟨0, 0, getP 0⟩)); (try replace hb := hb.ext hE); (try replace hz := hz.ext hE); (try replace hm := hm.ext hE); (try replace h1 := h1.ext hE); (try replace h2 := h2.ext hE); (try replace h3 := h3.ext hE); (try replace h4 := h4.ext hE); (try replace h5 := h5.ext hE); (try replace h6 := h6.ext hE); (try replace h7 := h7.ext hE); (try replace h8 := h8.ext hE); (try replace h9 := h9.ext hE); (try replace k1 := k1.ext hE); (try replace k2 := k2.ext hE); (try replace k3 := k3.ext hE); (try replace k4 := k4.ext hE); (try replace k5 := k5.ext hE); (try replace k6 := k6.ext hE); (try replace HE := Lib.hid (HE.out.trans hE)); (try replace r0 := r0.ext hE); (try replace r1 := r1.ext hE); (try replace r2 := r2.ext hE); (try replace r3 := r3.ext hE); (try replace r4 := r4.ext hE); (try replace r5 := r5.ext hE); (try replace r6 := r6.ext hE)
    clear hE
    go_wp2_with (first | (first | (refine wpList_store_blk rfl 25 _ _ rfl rfl rfl zz1 (by kernel_rfl) (by rfl) (by simp [Value.oneCell']) ?_) | (refine wpList_store_blk rfl 27 _ _ rfl rfl rfl zz2 (by kernel_rfl) (by rfl) (by simp [Value.oneCell']) ?_) | ((refine wpList_store_blk rfl 34 _ _ rfl rfl rfl zz3 (spt_info _) (by simp [sptC_size]) (sptC_one _) ?_); clear zz1 zz2 zz3; generalize (((((w2.alloc (.cells #[.int .u64 0, .slice none 0 0] 25)).alloc (.cells #[.int .u64 0, .int .i64 0, .int .u64 0] 27)).alloc (.cells #[.int .u64 0, .int .i64 0, .bool false, .bool false, .bool false, .bool false, .bool false, .bool false, .bool false, .bool false, .int .u64 0, .int .u64 0, .int .u64 0] 34)).setRow w2.heap.size (#[.int .u64 (S : Int), .slice B2 L.length d2])).setRow (w2.heap.size + 1) (#[.int .u64 (P : Int), .int .i64 (m : Int), .int .u64 (F : Int)])).setRow (w2.heap.size + 1 + 1) ((sptC ⟨0, 0, getP 0⟩)) = X2 at *)))
    go_ret
    exact ⟨rfl, HE.out⟩
  subst h0
  obtain ⟨B2, d2, rfl, r1, hE⟩ := to_ok hTo
  clear hTo cto
  (try replace hb := hb.ext hE); (try replace hz := hz.ext hE); (try replace hm := hm.ext hE); (try replace h1 := h1.ext hE); (try replace h2 := h2.ext hE); (try replace h3 := h3.ext hE); (try replace h4 := h4.ext hE); (try replace h5 := h5.ext hE); (try replace h6 := h6.ext hE); (try replace h7 := h7.ext hE); (try replace h8 := h8.ext hE); (try replace h9 := h9.ext hE); (try replace k1 := k1.ext hE); (try replace k2 := k2.ext hE); (try replace k3 := k3.ext hE); (try replace k4 := k4.ext hE); (try replace k5 := k5.ext hE); (try replace k6 := k6.ext hE); (try replace HE := Lib.hid (HE.out.trans hE)); (try replace r0 := r0.ext hE); (try replace r1 := r1.ext hE); (try replace r2 := r2.ext hE); (try replace r3 := r3.ext hE); (try replace r4 := r4.ext hE); (try replace r5 := r5.ext hE); (try replace r6 := r6.ext hE)
  clear hE
  have htw1 := htw L1 F1 rfl
  have hlw1 := hlw L1 F1 rfl
  clear htw hlw hD
  have ct2 := fun W (q : Mem W S B2 L1 d2) y => to20_c (k := k) (a := a) hf1 hpk hb1 (by omega) (by omega) hn2 hkn ha W q y
  rw [htw1] at ct2
  have ct3 := fun W (q : Mem W S B2 L1 d2) y => to20_c (k := 0) (a := a) hf1 hpk hb1 (by omega) (by omega) hn2 (Nat.zero_le 2) ha W q y
  rw [hlw1] at ct3
  have hi0 := to_is (a := a) hpk hn2 (Nat.zero_le 2) 3 L F hfit hbits (by omega)
  clear htw1 hlw1 hrk hr0
  obtain ⟨E, hE0⟩ : ∃ E, toS P a 0 2 t 3 L F = E := ⟨_, rfl⟩
  have hT9 := hi0.fit.tree
  have hl9 := hi0.len
  rw [hE0] at ct3 ct0 hT9 hl9
  clear hE0 hi0
  obtain ⟨e9, L9, F9⟩ := E
  simp only at hT9 hl9
  obtain ⟨SP, hSP⟩ : ∃ SP, spotW L1 k 2 t a = SP := ⟨_, rfl⟩
  rw [hSP]
  obtain ⟨zz1, zz2, zz3, hE, h3, h4, h5⟩ := nmps w2 (#[.int .u64 (S : Int), .slice B2 L1.length d2]) (#[.int .u64 (P : Int), .int .i64 (m : Int), .int .u64 (F1 : Int)]) ((sptC SP)); (try replace hb := hb.ext hE); (try replace hz := hz.ext hE); (try replace hm := hm.ext hE); (try replace h1 := h1.ext hE); (try replace h2 := h2.ext hE); (try replace h3 := h3.ext hE); (try replace h4 := h4.ext hE); (try replace h5 := h5.ext hE); (try replace h6 := h6.ext hE); (try replace h7 := h7.ext hE); (try replace h8 := h8.ext hE); (try replace h9 := h9.ext hE); (try replace k1 := k1.ext hE); (try replace k2 := k2.ext hE); (try replace k3 := k3.ext hE); (try replace k4 := k4.ext hE); (try replace k5 := k5.ext hE); (try replace k6 := k6.ext hE); (try replace HE := Lib.hid (HE.out.trans hE)); (try replace r0 := r0.ext hE); (try replace r1 := r1.ext hE); (try replace r2 := r2.ext hE); (try replace r3 := r3.ext hE); (try replace r4 := r4.ext hE); (try replace r5 := r5.ext hE); (try replace r6 := r6.ext hE)
  clear hE
  go_wp2_with (first | (first | (refine wpList_store_blk rfl 25 _ _ rfl rfl rfl zz1 (by kernel_rfl) (by rfl) (by simp [Value.oneCell']) ?_) | (refine wpList_store_blk rfl 27 _ _ rfl rfl rfl zz2 (by kernel_rfl) (by rfl) (by simp [Value.oneCell']) ?_) | ((refine wpList_store_blk rfl 34 _ _ rfl rfl rfl zz3 (spt_info _) (by simp [sptC_size]) (sptC_one _) ?_); clear zz1 zz2 zz3; generalize (((((w2.alloc (.cells #[.int .u64 0, .slice none 0 0] 25)).alloc (.cells #[.int .u64 0, .int .i64 0, .int .u64 0] 27)).alloc (.cells #[.int .u64 0, .int .i64 0, .bool false, .bool false, .bool false, .bool false, .bool false, .bool false, .bool false, .bool false, .int .u64 0, .int .u64 0, .int .u64 0] 34)).setRow w2.heap.size (#[.int .u64 (S : Int), .slice B2 L1.length d2])).setRow (w2.heap.size + 1) (#[.int .u64 (P : Int), .int .i64 (m : Int), .int .u64 (F1 : Int)])).setRow (w2.heap.size + 1 + 1) ((sptC SP)) = X2 at *)) | (refine wpList_load_blk (by rfl) 25 _ rfl rfl h3 Tryd.underlying25 rfl (by kernel_rfl) ?_) | (refine wpList_load_blk (by rfl) 27 _ rfl rfl h4 Tryd.underlying27 rfl (by kernel_rfl) ?_))
  refine (ct2 _ r1 (hTE _ HE.out)).mono ?_
  intro r w3 hTo
  obtain ⟨B3, d3, rfl, r2, hE⟩ := to_ok hTo
  clear hTo ct2
  (try replace hb := hb.ext hE); (try replace hz := hz.ext hE); (try replace hm := hm.ext hE); (try replace h1 := h1.ext hE); (try replace h2 := h2.ext hE); (try replace h3 := h3.ext hE); (try replace h4 := h4.ext hE); (try replace h5 := h5.ext hE); (try replace h6 := h6.ext hE); (try replace h7 := h7.ext hE); (try replace h8 := h8.ext hE); (try replace h9 := h9.ext hE); (try replace k1 := k1.ext hE); (try replace k2 := k2.ext hE); (try replace k3 := k3.ext hE); (try replace k4 := k4.ext hE); (try replace k5 := k5.ext hE); (try replace k6 := k6.ext hE); (try replace HE := Lib.hid (HE.out.trans hE)); (try replace r0 := r0.ext hE); (try replace r1 := r1.ext hE); (try replace r2 := r2.ext hE); (try replace r3 := r3.ext hE); (try replace r4 := r4.ext hE); (try replace r5 := r5.ext hE); (try replace r6 := r6.ext hE)
  clear hE
  rw [hSP]
  have csa := fun W A c A' c' (k : Mem W S A L1 c) (k' : Mem W S A' L1 c') => same_xx k k'
  rw [decide_eq_true rfl] at csa
  obtain ⟨zz1, zz2, zz3, hE, h6, h7, h8⟩ := nmps w3 (#[.int .u64 (S : Int), .slice B3 L1.length d3]) (#[.int .u64 (P : Int), .int .i64 (m : Int), .int .u64 (F1 : Int)]) ((sptC SP)); (try replace hb := hb.ext hE); (try replace hz := hz.ext hE); (try replace hm := hm.ext hE); (try replace h1 := h1.ext hE); (try replace h2 := h2.ext hE); (try replace h3 := h3.ext hE); (try replace h4 := h4.ext hE); (try replace h5 := h5.ext hE); (try replace h6 := h6.ext hE); (try replace h7 := h7.ext hE); (try replace h8 := h8.ext hE); (try replace h9 := h9.ext hE); (try replace k1 := k1.ext hE); (try replace k2 := k2.ext hE); (try replace k3 := k3.ext hE); (try replace k4 := k4.ext hE); (try replace k5 := k5.ext hE); (try replace k6 := k6.ext hE); (try replace HE := Lib.hid (HE.out.trans hE)); (try replace r0 := r0.ext hE); (try replace r1 := r1.ext hE); (try replace r2 := r2.ext hE); (try replace r3 := r3.ext hE); (try replace r4 := r4.ext hE); (try replace r5 := r5.ext hE); (try replace r6 := r6.ext hE)
  clear hE
  go_wp2_with (first | (first | (refine wpList_store_blk rfl 25 _ _ rfl rfl rfl zz1 (by kernel_rfl) (by rfl) (by simp [Value.oneCell']) ?_) | (refine wpList_store_blk rfl 27 _ _ rfl rfl rfl zz2 (by kernel_rfl) (by rfl) (by simp [Value.oneCell']) ?_) | ((refine wpList_store_blk rfl 34 _ _ rfl rfl rfl zz3 (spt_info _) (by simp [sptC_size]) (sptC_one _) ?_); clear zz1 zz2 zz3; generalize (((((w3.alloc (.cells #[.int .u64 0, .slice none 0 0] 25)).alloc (.cells #[.int .u64 0, .int .i64 0, .int .u64 0] 27)).alloc (.cells #[.int .u64 0, .int .i64 0, .bool false, .bool false, .bool false, .bool false, .bool false, .bool false, .bool false, .bool false, .int .u64 0, .int .u64 0, .int .u64 0] 34)).setRow w3.heap.size (#[.int .u64 (S : Int), .slice B3 L1.length d3])).setRow (w3.heap.size + 1) (#[.int .u64 (P : Int), .int .i64 (m : Int), .int .u64 (F1 : Int)])).setRow (w3.heap.size + 1 + 1) ((sptC SP)) = X3 at *)) | (refine wpList_load_blk (by rfl) 25 _ rfl rfl h3 Tryd.underlying25 rfl (by kernel_rfl) ?_) | (refine wpList_load_blk (by rfl) 25 _ rfl rfl h6 Tryd.underlying25 rfl (by kernel_rfl) ?_))
  refine (csa _ _ _ _ _ r1 r2).mono ?_
  rintro e w4 ⟨rfl, hE⟩
  (try replace hb := hb.ext hE); (try replace hz := hz.ext hE); (try replace hm := hm.ext hE); (try replace h1 := h1.ext hE); (try replace h2 := h2.ext hE); (try replace h3 := h3.ext hE); (try replace h4 := h4.ext hE); (try replace h5 := h5.ext hE); (try replace h6 := h6.ext hE); (try replace h7 := h7.ext hE); (try replace h8 := h8.ext hE); (try replace h9 := h9.ext hE); (try replace k1 := k1.ext hE); (try replace k2 := k2.ext hE); (try replace k3 := k3.ext hE); (try replace k4 := k4.ext hE); (try replace k5 := k5.ext hE); (try replace k6 := k6.ext hE); (try replace HE := Lib.hid (HE.out.trans hE)); (try replace r0 := r0.ext hE); (try replace r1 := r1.ext hE); (try replace r2 := r2.ext hE); (try replace r3 := r3.ext hE); (try replace r4 := r4.ext hE); (try replace r5 := r5.ext hE); (try replace r6 := r6.ext hE)
  clear hE csa
  have hq : ∀ w, (binOp .neq 27 (.agg #[.int .u64 (P : Int), .int .i64 (m : Int), .int .u64 (F1 : Int)]) (.agg #[.int .u64 (P : Int), .int .i64 (m : Int), .int .u64 (F1 : Int)])).run Tryd.prog w = .ok (.bool false) w := fun w => by rw [neqP]; simp
  have hpg := pool_guard
  clear r2
  go_wp2_with (first | (refine wpList_load_blk (by rfl) 27 _ rfl rfl h4 Tryd.underlying27 rfl (by kernel_rfl) ?_) | (refine wpList_load_blk (by rfl) 27 _ rfl rfl h7 Tryd.underlying27 rfl (by kernel_rfl) ?_) | (refine wpList_load_blk (by rfl) 34 _ rfl rfl h5 Tryd.underlying34 rfl (by kernel_rfl) ?_) | (refine wpList_load_blk (by rfl) 34 _ rfl rfl h8 Tryd.underlying34 rfl (by kernel_rfl) ?_) | (refine wpList_cmp (op := .neq) (by rfl) 34 rfl rfl rfl (spt_guard) ((fun w => run_b (neq_spt w _ _) (dec_nots _))) ?_) | (refine wpList_load_blk (by rfl) 25 _ rfl rfl h3 Tryd.underlying25 rfl (by kernel_rfl) ?_))
  refine (ct3 _ r1 (hTE _ HE.out)).mono ?_
  intro r w5 hTo
  clear ct3 hq
  by_cases h9 : e9 = 0
  case neg =>
    have dn : ((e9 : Int) == 0) = false := by simp; exact h9
    obtain ⟨B5, d5, rfl, -, hE⟩ := to_er h9 hTo
    clear hTo r1
    (try replace hb := hb.ext hE); (try replace hz := hz.ext hE); (try replace hm := hm.ext hE); (try replace h1 := h1.ext hE); (try replace h2 := h2.ext hE); (try replace h3 := h3.ext hE); (try replace h4 := h4.ext hE); (try replace h5 := h5.ext hE); (try replace h6 := h6.ext hE); (try replace h7 := h7.ext hE); (try replace h8 := h8.ext hE); (try replace h9 := h9.ext hE); (try replace k1 := k1.ext hE); (try replace k2 := k2.ext hE); (try replace k3 := k3.ext hE); (try replace k4 := k4.ext hE); (try replace k5 := k5.ext hE); (try replace k6 := k6.ext hE); (try replace HE := Lib.hid (HE.out.trans hE)); (try replace r0 := r0.ext hE); (try replace r1 := r1.ext hE); (try replace r2 := r2.ext hE); (try replace r3 := r3.ext hE); (try replace r4 := r4.ext hE); (try replace r5 := r5.ext hE); (try replace r6 := r6.ext hE)
    clear hE
    obtain ⟨zz1, zz2, zz3, hE, k1, k2, k3⟩ := nmps w5 (#[.int .u64 (S : Int), .slice B5 L1.length d5]) (#[.int .u64 (P : Int), .int .i64 (m : Int), .int .u64 (F1 : Int)]) ((sptC ⟨0, 0, getP 0⟩)); (try replace hb := hb.ext hE); (try replace hz := hz.ext hE); (try replace hm := hm.ext hE); (try replace h1 := h1.ext hE); (try replace h2 := h2.ext hE); (try replace h3 := h3.ext hE); (try replace h4 := h4.ext hE); (try replace h5 := h5.ext hE); (try replace h6 := h6.ext hE); (try replace h7 := h7.ext hE); (try replace h8 := h8.ext hE); (try replace h9 := h9.ext hE); (try replace k1 := k1.ext hE); (try replace k2 := k2.ext hE); (try replace k3 := k3.ext hE); (try replace k4 := k4.ext hE); (try replace k5 := k5.ext hE); (try replace k6 := k6.ext hE); (try replace HE := Lib.hid (HE.out.trans hE)); (try replace r0 := r0.ext hE); (try replace r1 := r1.ext hE); (try replace r2 := r2.ext hE); (try replace r3 := r3.ext hE); (try replace r4 := r4.ext hE); (try replace r5 := r5.ext hE); (try replace r6 := r6.ext hE)
    clear hE
    go_wp2_with (first | (first | (refine wpList_store_blk rfl 25 _ _ rfl rfl rfl zz1 (by kernel_rfl) (by rfl) (by simp [Value.oneCell']) ?_) | (refine wpList_store_blk rfl 27 _ _ rfl rfl rfl zz2 (by kernel_rfl) (by rfl) (by simp [Value.oneCell']) ?_) | ((refine wpList_store_blk rfl 34 _ _ rfl rfl rfl zz3 (spt_info _) (by simp [sptC_size]) (sptC_one _) ?_); clear zz1 zz2 zz3; generalize (((((w5.alloc (.cells #[.int .u64 0, .slice none 0 0] 25)).alloc (.cells #[.int .u64 0, .int .i64 0, .int .u64 0] 27)).alloc (.cells #[.int .u64 0, .int .i64 0, .bool false, .bool false, .bool false, .bool false, .bool false, .bool false, .bool false, .bool false, .int .u64 0, .int .u64 0, .int .u64 0] 34)).setRow w5.heap.size (#[.int .u64 (S : Int), .slice B5 L1.length d5])).setRow (w5.heap.size + 1) (#[.int .u64 (P : Int), .int .i64 (m : Int), .int .u64 (F1 : Int)])).setRow (w5.heap.size + 1 + 1) ((sptC ⟨0, 0, getP 0⟩)) = X5 at *)) | (refine wpList_load_blk (by rfl) 25 _ rfl rfl h1 Tryd.underlying25 rfl (by kernel_rfl) ?_) | (refine wpList_load_blk (by rfl) 27 _ rfl rfl h2 Tryd.underlying27 rfl (by kernel_rfl) ?_))
    refine (ct0 _ (hMm _ HE.out) (hTE _ HE.out)).mono ?_
    intro r w6 hTo
    obtain ⟨B6, d6, rfl, -, hE⟩ := to_er h9 hTo
    clear hTo ct0
    (try replace hb := hb.ext hE); (try replace hz := hz.ext hE); (try replace hm := hm.ext hE); (try replace h1 := h1.ext hE); (try replace h2 := h2.ext hE); (try replace h3 := h3.ext hE); (try replace h4 := h4.ext hE); (try replace h5 := h5.ext hE); (try replace h6 := h6.ext hE); (try replace h7 := h7.ext hE); (try replace h8 := h8.ext hE); (try replace h9 := h9.ext hE); (try replace k1 := k1.ext hE); (try replace k2 := k2.ext hE); (try replace k3 := k3.ext hE); (try replace k4 := k4.ext hE); (try replace k5 := k5.ext hE); (try replace k6 := k6.ext hE); (try replace HE := Lib.hid (HE.out.trans hE)); (try replace r0 := r0.ext hE); (try replace r1 := r1.ext hE); (try replace r2 := r2.ext hE); (try replace r3 := r3.ext hE); (try replace r4 := r4.ext hE); (try replace r5 := r5.ext hE); (try replace r6 := r6.ext hE)
    clear hE
    obtain ⟨zz1, zz2, zz3, hE, k4, k5, k6⟩ := nmps w6 (#[.int .u64 (S : Int), .slice B6 L.length d6]) (#[.int .u64 (P : Int), .int .i64 (m : Int), .int .u64 (F : Int)]) ((sptC ⟨0, 0, getP 0⟩)); (try replace hb := hb.ext hE); (try replace hz := hz.ext hE); (try replace hm := hm.ext hE); (try replace h1 := h1.ext hE); (try replace h2 := h2.ext hE); (try replace h3 := h3.ext hE); (try replace h4 := h4.ext hE); (try replace h5 := h5.ext hE); (try replace h6 := h6.ext hE); (try replace h7 := h7.ext hE); (try replace h8 := h8.ext hE); (try replace h9 := h9.ext hE); (try replace k1 := k1.ext hE); (try replace k2 := k2.ext hE); (try replace k3 := k3.ext hE); (try replace k4 := k4.ext hE); (try replace k5 := k5.ext hE); (try replace k6 := k6.ext hE); (try replace HE := Lib.hid (HE.out.trans hE)); (try replace r0 := r0.ext hE); (try replace r1 := r1.ext hE); (try replace r2 := r2.ext hE); (try replace r3 := r3.ext hE); (try replace r4 := r4.ext hE); (try replace r5 := r5.ext hE); (try replace r6 := r6.ext hE)
    clear hE
    go_wp2_with (first | (first | (refine wpList_store_blk rfl 25 _ _ rfl rfl rfl zz1 (by kernel_rfl) (by rfl) (by simp [Value.oneCell']) ?_) | (refine wpList_store_blk rfl 27 _ _ rfl rfl rfl zz2 (by kernel_rfl) (by rfl) (by simp [Value.oneCell']) ?_) | ((refine wpList_store_blk rfl 34 _ _ rfl rfl rfl zz3 (spt_info _) (by simp [sptC_size]) (sptC_one _) ?_); clear zz1 zz2 zz3; generalize (((((w6.alloc (.cells #[.int .u64 0, .slice none 0 0] 25)).alloc (.cells #[.int .u64 0, .int .i64 0, .int .u64 0] 27)).alloc (.cells #[.int .u64 0, .int .i64 0, .bool false, .bool false, .bool false, .bool false, .bool false, .bool false, .bool false, .bool false, .int .u64 0, .int .u64 0, .int .u64 0] 34)).setRow w6.heap.size (#[.int .u64 (S : Int), .slice B6 L.length d6])).setRow (w6.heap.size + 1) (#[.int .u64 (P : Int), .int .i64 (m : Int), .int .u64 (F : Int)])).setRow (w6.heap.size + 1 + 1) ((sptC ⟨0, 0, getP 0⟩)) = X6 at *)))
    (try replace hb := Blk.drew hb); (try replace hz := Blk.drew hz); (try replace hm := Blk.drew hm); (try replace h1 := Blk.drew h1); (try replace h2 := Blk.drew h2); (try replace h3 := Blk.drew h3); (try replace h4 := Blk.drew h4); (try replace h5 := Blk.drew h5); (try replace h6 := Blk.drew h6); (try replace h7 := Blk.drew h7); (try replace h8 := Blk.drew h8); (try replace h9 := Blk.drew h9); (try replace k1 := Blk.drew k1); (try replace k2 := Blk.drew k2); (try replace k3 := Blk.drew k3); (try replace k4 := Blk.drew k4); (try replace k5 := Blk.drew k5); (try replace k6 := Blk.drew k6); replace HE := Lib.hid HE.out.drew
    refine wp_region_seq [(0, false), (1, false), (2, false), (3, false), (4, false), (5, false), (6, false), (7, false), (8, false), (9, false), (10, false), (11, false), (12, false), (13, false), (14, false), (15, false), (16, false), (17, false), (18, false), (19, false), (20, true), (21, false), (22, false), (23, false), (24, false), (26, false), (27, false), (25, true), (28, true), (29, true), (30, false), (31, false), (32, false), (33, false)] Ext (by kernel_rfl) (by kernel_rfl) Ext.refl (fun _ _ _ => Ext.trans) ?_; simp only [List.map, nth_z, nth_s]
    (try simp only [Act.put, List.setIfInBounds_toArray, List.set_cons_zero, List.set_cons_succ])
    have dn2 : (e9 == 0) = false := by simp; exact h9
    have dn3 : ((e9 : Int) != 0) = true := by simp; exact h9
    (repeat (first | (refine seq_skip (by rfl) ?_; intro K hK; simp only [Act.put, List.setIfInBounds_toArray, List.set_cons_zero, List.set_cons_succ]; refine hK _ ?_; clear hK K) | (refine seq_skipc (by rfl) ?_; intro K hK; simp only [Act.put, List.setIfInBounds_toArray, List.set_cons_zero, List.set_cons_succ]; refine hK _ ?_; clear hK K) | (refine seq_read (by rfl) (by rfl) ?_; intro K hK; go_big_quiet_op; first | go_big_quiet_on | (refine ⟨_, fun _ _ => rfl, ?_⟩; go_big_quiet_on))))
    refine seq_done ?_
    go_wp2
    go_ret
    exact ⟨rfl, HE.out⟩
  subst h9
  obtain ⟨B5, d5, rfl, r3, hE⟩ := to_ok hTo
  clear hTo r1
  (try replace hb := hb.ext hE); (try replace hz := hz.ext hE); (try replace hm := hm.ext hE); (try replace h1 := h1.ext hE); (try replace h2 := h2.ext hE); (try replace h3 := h3.ext hE); (try replace h4 := h4.ext hE); (try replace h5 := h5.ext hE); (try replace h6 := h6.ext hE); (try replace h7 := h7.ext hE); (try replace h8 := h8.ext hE); (try replace h9 := h9.ext hE); (try replace k1 := k1.ext hE); (try replace k2 := k2.ext hE); (try replace k3 := k3.ext hE); (try replace k4 := k4.ext hE); (try replace k5 := k5.ext hE); (try replace k6 := k6.ext hE); (try replace HE := Lib.hid (HE.out.trans hE)); (try replace r0 := r0.ext hE); (try replace r1 := r1.ext hE); (try replace r2 := r2.ext hE); (try replace r3 := r3.ext hE); (try replace r4 := r4.ext hE); (try replace r5 := r5.ext hE); (try replace r6 := r6.ext hE)
  clear hE
  obtain ⟨S9, hS9⟩ : ∃ S9, spotW L9 0 2 t a = S9 := ⟨_, rfl⟩
  rw [hS9]
  obtain ⟨zz1, zz2, zz3, hE, k1, k2, k3⟩ := nmps w5 (#[.int .u64 (S : Int), .slice B5 L9.length d5]) (#[.int .u64 (P : Int), .int .i64 (m : Int), .int .u64 (F9 : Int)]) ((sptC S9)); (try replace hb := hb.ext hE); (try replace hz := hz.ext hE); (try replace hm := hm.ext hE); (try replace h1 := h1.ext hE); (try replace h2 := h2.ext hE); (try replace h3 := h3.ext hE); (try replace h4 := h4.ext hE); (try replace h5 := h5.ext hE); (try replace h6 := h6.ext hE); (try replace h7 := h7.ext hE); (try replace h8 := h8.ext hE); (try replace h9 := h9.ext hE); (try replace k1 := k1.ext hE); (try replace k2 := k2.ext hE); (try replace k3 := k3.ext hE); (try replace k4 := k4.ext hE); (try replace k5 := k5.ext hE); (try replace k6 := k6.ext hE); (try replace HE := Lib.hid (HE.out.trans hE)); (try replace r0 := r0.ext hE); (try replace r1 := r1.ext hE); (try replace r2 := r2.ext hE); (try replace r3 := r3.ext hE); (try replace r4 := r4.ext hE); (try replace r5 := r5.ext hE); (try replace r6 := r6.ext hE)
  clear hE
  go_wp2_with (first | (first | (refine wpList_store_blk rfl 25 _ _ rfl rfl rfl zz1 (by kernel_rfl) (by rfl) (by simp [Value.oneCell']) ?_) | (refine wpList_store_blk rfl 27 _ _ rfl rfl rfl zz2 (by kernel_rfl) (by rfl) (by simp [Value.oneCell']) ?_) | ((refine wpList_store_blk rfl 34 _ _ rfl rfl rfl zz3 (spt_info _) (by simp [sptC_size]) (sptC_one _) ?_); clear zz1 zz2 zz3; generalize (((((w5.alloc (.cells #[.int .u64 0, .slice none 0 0] 25)).alloc (.cells #[.int .u64 0, .int .i64 0, .int .u64 0] 27)).alloc (.cells #[.int .u64 0, .int .i64 0, .bool false, .bool false, .bool false, .bool false, .bool false, .bool false, .bool false, .bool false, .int .u64 0, .int .u64 0, .int .u64 0] 34)).setRow w5.heap.size (#[.int .u64 (S : Int), .slice B5 L9.length d5])).setRow (w5.heap.size + 1) (#[.int .u64 (P : Int), .int .i64 (m : Int), .int .u64 (F9 : Int)])).setRow (w5.heap.size + 1 + 1) ((sptC S9)) = X5 at *)) | (refine wpList_load_blk (by rfl) 25 _ rfl rfl h1 Tryd.underlying25 rfl (by kernel_rfl) ?_) | (refine wpList_load_blk (by rfl) 27 _ rfl rfl h2 Tryd.underlying27 rfl (by kernel_rfl) ?_))
  refine (ct0 _ (hMm _ HE.out) (hTE _ HE.out)).mono ?_
  intro r w6 hTo
  obtain ⟨B6, d6, rfl, r4, hE⟩ := to_ok hTo
  clear hTo ct0
  (try replace hb := hb.ext hE); (try replace hz := hz.ext hE); (try replace hm := hm.ext hE); (try replace h1 := h1.ext hE); (try replace h2 := h2.ext hE); (try replace h3 := h3.ext hE); (try replace h4 := h4.ext hE); (try replace h5 := h5.ext hE); (try replace h6 := h6.ext hE); (try replace h7 := h7.ext hE); (try replace h8 := h8.ext hE); (try replace h9 := h9.ext hE); (try replace k1 := k1.ext hE); (try replace k2 := k2.ext hE); (try replace k3 := k3.ext hE); (try replace k4 := k4.ext hE); (try replace k5 := k5.ext hE); (try replace k6 := k6.ext hE); (try replace HE := Lib.hid (HE.out.trans hE)); (try replace r0 := r0.ext hE); (try replace r1 := r1.ext hE); (try replace r2 := r2.ext hE); (try replace r3 := r3.ext hE); (try replace r4 := r4.ext hE); (try replace r5 := r5.ext hE); (try replace r6 := r6.ext hE)
  clear hE
  rw [hS9]
  clear hS9
  obtain ⟨zz1, zz2, zz3, hE, k4, k5, k6⟩ := nmps w6 (#[.int .u64 (S : Int), .slice B6 L9.length d6]) (#[.int .u64 (P : Int), .int .i64 (m : Int), .int .u64 (F9 : Int)]) ((sptC S9)); (try replace hb := hb.ext hE); (try replace hz := hz.ext hE); (try replace hm := hm.ext hE); (try replace h1 := h1.ext hE); (try replace h2 := h2.ext hE); (try replace h3 := h3.ext hE); (try replace h4 := h4.ext hE); (try replace h5 := h5.ext hE); (try replace h6 := h6.ext hE); (try replace h7 := h7.ext hE); (try replace h8 := h8.ext hE); (try replace h9 := h9.ext hE); (try replace k1 := k1.ext hE); (try replace k2 := k2.ext hE); (try replace k3 := k3.ext hE); (try replace k4 := k4.ext hE); (try replace k5 := k5.ext hE); (try replace k6 := k6.ext hE); (try replace HE := Lib.hid (HE.out.trans hE)); (try replace r0 := r0.ext hE); (try replace r1 := r1.ext hE); (try replace r2 := r2.ext hE); (try replace r3 := r3.ext hE); (try replace r4 := r4.ext hE); (try replace r5 := r5.ext hE); (try replace r6 := r6.ext hE)
  clear hE
  go_wp2_with (first | (first | (refine wpList_store_blk rfl 25 _ _ rfl rfl rfl zz1 (by kernel_rfl) (by rfl) (by simp [Value.oneCell']) ?_) | (refine wpList_store_blk rfl 27 _ _ rfl rfl rfl zz2 (by kernel_rfl) (by rfl) (by simp [Value.oneCell']) ?_) | ((refine wpList_store_blk rfl 34 _ _ rfl rfl rfl zz3 (spt_info _) (by simp [sptC_size]) (sptC_one _) ?_); clear zz1 zz2 zz3; generalize (((((w6.alloc (.cells #[.int .u64 0, .slice none 0 0] 25)).alloc (.cells #[.int .u64 0, .int .i64 0, .int .u64 0] 27)).alloc (.cells #[.int .u64 0, .int .i64 0, .bool false, .bool false, .bool false, .bool false, .bool false, .bool false, .bool false, .bool false, .int .u64 0, .int .u64 0, .int .u64 0] 34)).setRow w6.heap.size (#[.int .u64 (S : Int), .slice B6 L9.length d6])).setRow (w6.heap.size + 1) (#[.int .u64 (P : Int), .int .i64 (m : Int), .int .u64 (F9 : Int)])).setRow (w6.heap.size + 1 + 1) ((sptC S9)) = X6 at *)))
  have csb := fun W A c A' c' (k : Mem W S A L9 c) (k' : Mem W S A' L9 c') => same_xx k k'
  rw [decide_eq_true rfl] at csb
  have crp := fun W B d (k : Mem W S B L9 d) => rpages19_c hso.le 2 hn2 t 0 W hT9 (base_0 hn2).1 (base_0 hn2).2 k
  have hfew9 := pgK_few hT9 0
  unfold MadeK at crp
  have crs := fun A c A' c' W (r1 : RowV KG W A (pgK L9 2 t 0) c) (r2 : RowV KG W A' (pgK L9 2 t 0) c') => rsame19_c A (pgK L9 2 t 0) c A' (pgK L9 2 t 0) c' W r1 r2
  rw [decide_eq_true rfl] at crs
  generalize pgK L9 2 t 0 = PG at *
  have x1 := sptC_lv S9
  generalize S9.lv = lv at *
  clear hT9
  (try replace hb := Blk.drew hb); (try replace hz := Blk.drew hz); (try replace hm := Blk.drew hm); (try replace h1 := Blk.drew h1); (try replace h2 := Blk.drew h2); (try replace h3 := Blk.drew h3); (try replace h4 := Blk.drew h4); (try replace h5 := Blk.drew h5); (try replace h6 := Blk.drew h6); (try replace h7 := Blk.drew h7); (try replace h8 := Blk.drew h8); (try replace h9 := Blk.drew h9); (try replace k1 := Blk.drew k1); (try replace k2 := Blk.drew k2); (try replace k3 := Blk.drew k3); (try replace k4 := Blk.drew k4); (try replace k5 := Blk.drew k5); (try replace k6 := Blk.drew k6); replace HE := Lib.hid HE.out.drew
  replace r3 := r3.ext (Ext.refl _).drew
  replace r4 := r4.ext (Ext.refl _).drew
  refine wp_region_seq [(0, false), (1, false), (2, false), (3, false), (4, false), (5, false), (6, false), (7, false), (8, false), (9, false), (10, false), (11, false), (12, false), (13, false), (14, false), (15, false), (16, false), (17, false), (18, false), (19, false), (20, true), (21, false), (22, false), (23, false), (24, false), (26, false), (27, false), (25, true), (28, true), (29, true), (30, false), (31, false), (32, false), (33, false)] Ext (by kernel_rfl) (by kernel_rfl) Ext.refl (fun _ _ _ => Ext.trans) ?_; simp only [List.map, nth_z, nth_s]
  (try simp only [Act.put, List.setIfInBounds_toArray, List.set_cons_zero, List.set_cons_succ])
  (repeat (first | (refine seq_skip (by rfl) ?_; intro K hK; simp only [Act.put, List.setIfInBounds_toArray, List.set_cons_zero, List.set_cons_succ]; refine hK _ ?_; clear hK K) | (refine seq_skipc (by rfl) ?_; intro K hK; simp only [Act.put, List.setIfInBounds_toArray, List.set_cons_zero, List.set_cons_succ]; refine hK _ ?_; clear hK K) | (refine seq_read (by rfl) (by rfl) ?_; intro K hK; go_big_quiet_op; first | go_big_quiet_on | (refine ⟨_, fun _ _ => rfl, ?_⟩; go_big_quiet_on))))
  refine seq_load rfl rfl (fun x hx => Blk.ext (k2) hx) rfl Tryd.underlying27 (by kernel_rfl) (by rfl) ?_; intro K hK; simp only [Act.put, List.setIfInBounds_toArray, List.set_cons_zero, List.set_cons_succ]; refine hK _ ?_; clear hK K
  refine seq_load rfl rfl (fun x hx => Blk.ext (k5) hx) rfl Tryd.underlying27 (by kernel_rfl) (by rfl) ?_; intro K hK; simp only [Act.put, List.setIfInBounds_toArray, List.set_cons_zero, List.set_cons_succ]; refine hK _ ?_; clear hK K
  refine seq_value (.bool true) (by rfl) (fun x hx => by simp [go_sem, execOp, Act.eval, eqlP, neqP, run_eqGuard_agg _ _ _ _ _ _ _ pool_guard]) ?_; intro K hK; simp only [Act.put, List.setIfInBounds_toArray, List.set_cons_zero, List.set_cons_succ]; refine hK _ ?_; clear hK K
  (repeat (first | (refine seq_skip (by rfl) ?_; intro K hK; simp only [Act.put, List.setIfInBounds_toArray, List.set_cons_zero, List.set_cons_succ]; refine hK _ ?_; clear hK K) | (refine seq_skipc (by rfl) ?_; intro K hK; simp only [Act.put, List.setIfInBounds_toArray, List.set_cons_zero, List.set_cons_succ]; refine hK _ ?_; clear hK K) | (refine seq_read (by rfl) (by rfl) ?_; intro K hK; go_big_quiet_op; first | go_big_quiet_on | (refine ⟨_, fun _ _ => rfl, ?_⟩; go_big_quiet_on))))
  refine seq_value (.int .i64 lv) (by rfl) (fun x hx => by have hq := ext_cell hx ((k3.cell 1).trans x1); simp [go_sem, execOp, Act.eval, hq]) ?_; intro K hK; simp only [Act.put, List.setIfInBounds_toArray, List.set_cons_zero, List.set_cons_succ]; refine hK _ ?_; clear hK K
  (repeat (first | (refine seq_skip (by rfl) ?_; intro K hK; simp only [Act.put, List.setIfInBounds_toArray, List.set_cons_zero, List.set_cons_succ]; refine hK _ ?_; clear hK K) | (refine seq_skipc (by rfl) ?_; intro K hK; simp only [Act.put, List.setIfInBounds_toArray, List.set_cons_zero, List.set_cons_succ]; refine hK _ ?_; clear hK K) | (refine seq_read (by rfl) (by rfl) ?_; intro K hK; go_big_quiet_op; first | go_big_quiet_on | (refine ⟨_, fun _ _ => rfl, ?_⟩; go_big_quiet_on))))
  refine seq_value (.int .i64 lv) (by rfl) (fun x hx => by have hq := ext_cell hx ((k6.cell 1).trans x1); simp [go_sem, execOp, Act.eval, hq]) ?_; intro K hK; simp only [Act.put, List.setIfInBounds_toArray, List.set_cons_zero, List.set_cons_succ]; refine hK _ ?_; clear hK K
  (repeat (first | (refine seq_skip (by rfl) ?_; intro K hK; simp only [Act.put, List.setIfInBounds_toArray, List.set_cons_zero, List.set_cons_succ]; refine hK _ ?_; clear hK K) | (refine seq_skipc (by rfl) ?_; intro K hK; simp only [Act.put, List.setIfInBounds_toArray, List.set_cons_zero, List.set_cons_succ]; refine hK _ ?_; clear hK K) | (refine seq_read (by rfl) (by rfl) ?_; intro K hK; go_big_quiet_op; first | go_big_quiet_on | (refine ⟨_, fun _ _ => rfl, ?_⟩; go_big_quiet_on))))
  refine seq_load rfl rfl (fun x hx => Blk.ext (k1) hx) rfl Tryd.underlying25 (by kernel_rfl) (by rfl) ?_; intro K hK; simp only [Act.put, List.setIfInBounds_toArray, List.set_cons_zero, List.set_cons_succ]; refine hK _ ?_; clear hK K
  refine seq_load rfl rfl (fun x hx => Blk.ext (k4) hx) rfl Tryd.underlying25 (by kernel_rfl) (by rfl) ?_; intro K hK; simp only [Act.put, List.setIfInBounds_toArray, List.set_cons_zero, List.set_cons_succ]; refine hK _ ?_; clear hK K
  refine seq_call (csb _ _ _ _ _ r3 r4) rfl Tryd.func12 (by kernel_rfl) (by kernel_rfl) (by rfl) (by rfl) ?_; intro K hK; rintro e w' ⟨rfl, hE⟩; refine ⟨_, rfl, hE, ?_⟩; simp only [Act.put, List.setIfInBounds_toArray, List.set_cons_zero, List.set_cons_succ]; refine hK _ _ ?_; clear hK K
  (try replace hb := hb.ext hE); (try replace hz := hz.ext hE); (try replace hm := hm.ext hE); (try replace h1 := h1.ext hE); (try replace h2 := h2.ext hE); (try replace h3 := h3.ext hE); (try replace h4 := h4.ext hE); (try replace h5 := h5.ext hE); (try replace h6 := h6.ext hE); (try replace h7 := h7.ext hE); (try replace h8 := h8.ext hE); (try replace h9 := h9.ext hE); (try replace k1 := k1.ext hE); (try replace k2 := k2.ext hE); (try replace k3 := k3.ext hE); (try replace k4 := k4.ext hE); (try replace k5 := k5.ext hE); (try replace k6 := k6.ext hE); (try replace HE := Lib.hid (HE.out.trans hE)); (try replace r0 := r0.ext hE); (try replace r1 := r1.ext hE); (try replace r2 := r2.ext hE); (try replace r3 := r3.ext hE); (try replace r4 := r4.ext hE); (try replace r5 := r5.ext hE); (try replace r6 := r6.ext hE)
  clear hE csb
  (repeat (first | (refine seq_skip (by rfl) ?_; intro K hK; simp only [Act.put, List.setIfInBounds_toArray, List.set_cons_zero, List.set_cons_succ]; refine hK _ ?_; clear hK K) | (refine seq_skipc (by rfl) ?_; intro K hK; simp only [Act.put, List.setIfInBounds_toArray, List.set_cons_zero, List.set_cons_succ]; refine hK _ ?_; clear hK K) | (refine seq_read (by rfl) (by rfl) ?_; intro K hK; go_big_quiet_op; first | go_big_quiet_on | (refine ⟨_, fun _ _ => rfl, ?_⟩; go_big_quiet_on))))
  refine seq_load rfl rfl (fun x hx => Blk.ext (k1) hx) rfl Tryd.underlying25 (by kernel_rfl) (by rfl) ?_; intro K hK; simp only [Act.put, List.setIfInBounds_toArray, List.set_cons_zero, List.set_cons_succ]; refine hK _ ?_; clear hK K
  (repeat (first | (refine seq_skip (by rfl) ?_; intro K hK; simp only [Act.put, List.setIfInBounds_toArray, List.set_cons_zero, List.set_cons_succ]; refine hK _ ?_; clear hK K) | (refine seq_skipc (by rfl) ?_; intro K hK; simp only [Act.put, List.setIfInBounds_toArray, List.set_cons_zero, List.set_cons_succ]; refine hK _ ?_; clear hK K) | (refine seq_read (by rfl) (by rfl) ?_; intro K hK; go_big_quiet_op; first | go_big_quiet_on | (refine ⟨_, fun _ _ => rfl, ?_⟩; go_big_quiet_on))))
  refine seq_load rfl rfl (fun x hx => Blk.ext (k4) hx) rfl Tryd.underlying25 (by kernel_rfl) (by rfl) ?_; intro K hK; simp only [Act.put, List.setIfInBounds_toArray, List.set_cons_zero, List.set_cons_succ]; refine hK _ ?_; clear hK K
  (repeat (first | (refine seq_skip (by rfl) ?_; intro K hK; simp only [Act.put, List.setIfInBounds_toArray, List.set_cons_zero, List.set_cons_succ]; refine hK _ ?_; clear hK K) | (refine seq_skipc (by rfl) ?_; intro K hK; simp only [Act.put, List.setIfInBounds_toArray, List.set_cons_zero, List.set_cons_succ]; refine hK _ ?_; clear hK K) | (refine seq_read (by rfl) (by rfl) ?_; intro K hK; go_big_quiet_op; first | go_big_quiet_on | (refine ⟨_, fun _ _ => rfl, ?_⟩; go_big_quiet_on))))
  refine seq_call (crp _ _ _ r3) rfl Tryd.func22 (by kernel_rfl) (by kernel_rfl) (by rfl) (by rfl) ?_; intro K hK; rintro e w' ⟨v6, rfl, hown6, hE⟩; refine ⟨_, rfl, hE, ?_⟩; simp only [Act.put, List.setIfInBounds_toArray, List.set_cons_zero, List.set_cons_succ]; refine hK _ _ ?_; clear hK K
  obtain ⟨A6, c6, rfl, q6, -⟩ := own_rowv kg_ok hown6
  (try replace hb := hb.ext hE); (try replace hz := hz.ext hE); (try replace hm := hm.ext hE); (try replace h1 := h1.ext hE); (try replace h2 := h2.ext hE); (try replace h3 := h3.ext hE); (try replace h4 := h4.ext hE); (try replace h5 := h5.ext hE); (try replace h6 := h6.ext hE); (try replace h7 := h7.ext hE); (try replace h8 := h8.ext hE); (try replace h9 := h9.ext hE); (try replace k1 := k1.ext hE); (try replace k2 := k2.ext hE); (try replace k3 := k3.ext hE); (try replace k4 := k4.ext hE); (try replace k5 := k5.ext hE); (try replace k6 := k6.ext hE); (try replace HE := Lib.hid (HE.out.trans hE)); (try replace r0 := r0.ext hE); (try replace r1 := r1.ext hE); (try replace r2 := r2.ext hE); (try replace r3 := r3.ext hE); (try replace r4 := r4.ext hE); (try replace r5 := r5.ext hE); (try replace r6 := r6.ext hE)
  clear hE hown6
  refine seq_call (crp _ _ _ r4) rfl Tryd.func22 (by kernel_rfl) (by kernel_rfl) (by rfl) (by rfl) ?_; intro K hK; rintro e w' ⟨v7, rfl, hown7, hE⟩; refine ⟨_, rfl, hE, ?_⟩; simp only [Act.put, List.setIfInBounds_toArray, List.set_cons_zero, List.set_cons_succ]; refine hK _ _ ?_; clear hK K
  obtain ⟨A7, c7, rfl, q7, -⟩ := own_rowv kg_ok hown7
  replace q6 := q6.ext hE
  (try replace hb := hb.ext hE); (try replace hz := hz.ext hE); (try replace hm := hm.ext hE); (try replace h1 := h1.ext hE); (try replace h2 := h2.ext hE); (try replace h3 := h3.ext hE); (try replace h4 := h4.ext hE); (try replace h5 := h5.ext hE); (try replace h6 := h6.ext hE); (try replace h7 := h7.ext hE); (try replace h8 := h8.ext hE); (try replace h9 := h9.ext hE); (try replace k1 := k1.ext hE); (try replace k2 := k2.ext hE); (try replace k3 := k3.ext hE); (try replace k4 := k4.ext hE); (try replace k5 := k5.ext hE); (try replace k6 := k6.ext hE); (try replace HE := Lib.hid (HE.out.trans hE)); (try replace r0 := r0.ext hE); (try replace r1 := r1.ext hE); (try replace r2 := r2.ext hE); (try replace r3 := r3.ext hE); (try replace r4 := r4.ext hE); (try replace r5 := r5.ext hE); (try replace r6 := r6.ext hE)
  clear hE crp hown7
  refine seq_call (crs _ _ _ _ _ q6 q7) rfl Tryd.func21 (by kernel_rfl) (by kernel_rfl) (by rfl) (by rfl) ?_; intro K hK; rintro e w' ⟨rfl, hE⟩; refine ⟨_, rfl, hE, ?_⟩; simp only [Act.put, List.setIfInBounds_toArray, List.set_cons_zero, List.set_cons_succ]; refine hK _ _ ?_; clear hK K
  (try replace hb := hb.ext hE); (try replace hz := hz.ext hE); (try replace hm := hm.ext hE); (try replace h1 := h1.ext hE); (try replace h2 := h2.ext hE); (try replace h3 := h3.ext hE); (try replace h4 := h4.ext hE); (try replace h5 := h5.ext hE); (try replace h6 := h6.ext hE); (try replace h7 := h7.ext hE); (try replace h8 := h8.ext hE); (try replace h9 := h9.ext hE); (try replace k1 := k1.ext hE); (try replace k2 := k2.ext hE); (try replace k3 := k3.ext hE); (try replace k4 := k4.ext hE); (try replace k5 := k5.ext hE); (try replace k6 := k6.ext hE); (try replace HE := Lib.hid (HE.out.trans hE)); (try replace r0 := r0.ext hE); (try replace r1 := r1.ext hE); (try replace r2 := r2.ext hE); (try replace r3 := r3.ext hE); (try replace r4 := r4.ext hE); (try replace r5 := r5.ext hE); (try replace r6 := r6.ext hE)
  clear hE crs
  (repeat (first | (refine seq_skip (by rfl) ?_; intro K hK; simp only [Act.put, List.setIfInBounds_toArray, List.set_cons_zero, List.set_cons_succ]; refine hK _ ?_; clear hK K) | (refine seq_skipc (by rfl) ?_; intro K hK; simp only [Act.put, List.setIfInBounds_toArray, List.set_cons_zero, List.set_cons_succ]; refine hK _ ?_; clear hK K) | (refine seq_read (by rfl) (by rfl) ?_; intro K hK; go_big_quiet_op; first | go_big_quiet_on | (refine ⟨_, fun _ _ => rfl, ?_⟩; go_big_quiet_on))))
  refine seq_done ?_
  go_wp2
  go_ret
  exact ⟨rfl, HE.out⟩
end Go.Proofs.YticbjiddbjgikaaDoor
