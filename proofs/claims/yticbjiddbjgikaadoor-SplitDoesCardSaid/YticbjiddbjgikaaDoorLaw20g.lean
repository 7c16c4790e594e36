/- SplitDoes. -/
import Derived.Test.YticbjiddbjgikaaDoorGlaw
import Derived.Test.YticbjiddbjgikaaDoorLaw19a
import Derived.Test.YticbjiddbjgikaaDoorRsplz
import Derived.Test.YticbjiddbjgikaaDoorGrspf
namespace Go.Proofs.YticbjiddbjgikaaDoor
open Go.ChangeShapes Go.WideShapes Go.ChangeAt Go.RowKit
set_option linter.unusedVariables false
set_option linter.unusedSimpArgs false
set_option maxRecDepth 10000
attribute [local irreducible] World.setRow World.alloc Blk
theorem dn_all {S P M a k F : Nat} {L : List (Nat × Nat)} {D : Nat × List (Nat × Nat) × Nat × Nat} {w w' : World} {r : Ending} (h : DnP S P M a k L F D w r w') :
    ∃ B d, r = .returned (.tuple #[.agg #[.int .u64 (S : Int), .slice B (if D.1 = 0 then D.2.1 else L).length d], .agg #[.int .u64 (P : Int), .int .i64 (M : Int), .int .u64 ((if D.1 = 0 then D.2.2.1 else F : Nat) : Int)], .agg (sptC (if D.1 = 0 then ⟨D.2.2.2, (k : Int), tE D.2.1 D.2.2.2 (ixN a k)⟩ else ⟨0, 0, getP 0⟩)), .int .i64 (D.1 : Int)]) ∧ Mem w' S B (if D.1 = 0 then D.2.1 else L) d ∧ Ext w w' := by
  obtain ⟨B, d, hE, h | h⟩ := h
  · exact ⟨B, d, by rw [if_pos h.1, if_pos h.1, if_pos h.1, h.1]; exact h.2.1, by rw [if_pos h.1]; exact h.2.2, hE⟩
  · exact ⟨B, d, by rw [if_neg h.1, if_neg h.1, if_neg h.1]; exact h.2.1, by rw [if_neg h.1]; exact h.2.2, hE⟩
theorem dnt_all {S P M a k F : Nat} {L : List (Nat × Nat)} {D : Nat × List (Nat × Nat) × Nat × Nat} {w w' : World} {r : Ending} (h : DnT S P M a k L F D w r w') :
    ∃ B d, r = .returned (.tuple #[.agg #[.int .u64 (S : Int), .slice B (if D.1 = 0 then D.2.1 else L).length d], .agg #[.int .u64 (P : Int), .int .i64 (M : Int), .int .u64 ((if D.1 = 0 then D.2.2.1 else F : Nat) : Int)], .agg (sptC (if D.1 = 0 then ⟨D.2.2.2, (k : Int), tE D.2.1 D.2.2.2 (ixN a k)⟩ else ⟨0, 0, getP 0⟩)), .int .i64 (D.1 : Int)]) ∧ Mem w' S B (if D.1 = 0 then D.2.1 else L) d ∧ Ext w w' := by
  obtain ⟨B, d, hE, h | h⟩ := h
  · exact ⟨B, d, by rw [if_pos h.1, if_pos h.1, if_pos h.1, h.1]; exact h.2.1, by rw [if_pos h.1]; exact h.2.2, hE⟩
  · exact ⟨B, d, by rw [if_neg h.1, if_neg h.1, if_neg h.1]; exact h.2.1, by rw [if_neg h.1]; exact h.2.2, hE⟩
theorem to_all {S P M a k n t F : Nat} {L : List (Nat × Nat)} {D : Nat × List (Nat × Nat) × Nat} {w w' : World} {r : Ending} (h : ToP S P M a k n t L F D w r w') :
    ∃ B d, r = .returned (.tuple #[.agg #[.int .u64 (S : Int), .slice B (if D.1 = 0 then D.2.1 else L).length d], .agg #[.int .u64 (P : Int), .int .i64 (M : Int), .int .u64 ((if D.1 = 0 then D.2.2 else F : Nat) : Int)], .agg (sptC (if D.1 = 0 then spotW D.2.1 k n t a else ⟨0, 0, getP 0⟩)), .int .i64 (D.1 : Int)]) ∧ Mem w' S B (if D.1 = 0 then D.2.1 else L) d ∧ Ext w w' := by
  obtain ⟨B, d, hE, h | h⟩ := h
  · exact ⟨B, d, by rw [if_pos h.1, if_pos h.1, if_pos h.1, h.1]; exact h.2.1, by rw [if_pos h.1]; exact h.2.2, hE⟩
  · exact ⟨B, d, by rw [if_neg h.1, if_neg h.1, if_neg h.1]; exact h.2.1, by rw [if_neg h.1]; exact h.2.2, hE⟩
theorem tot_all {S P M a k n t F : Nat} {L : List (Nat × Nat)} {D : Nat × List (Nat × Nat) × Nat} {w w' : World} {r : Ending} (h : ToT S P M a k n t L F D w r w') :
    ∃ B d, r = .returned (.tuple #[.agg #[.int .u64 (S : Int), .slice B (if D.1 = 0 then D.2.1 else L).length d], .agg #[.int .u64 (P : Int), .int .i64 (M : Int), .int .u64 ((if D.1 = 0 then D.2.2 else F : Nat) : Int)], .agg (sptC (if D.1 = 0 then spotW D.2.1 k n t a else ⟨0, 0, getP 0⟩)), .int .i64 (D.1 : Int)]) ∧ Mem w' S B (if D.1 = 0 then D.2.1 else L) d ∧ Ext w w' := by
  obtain ⟨B, d, hE, h | h⟩ := h
  · exact ⟨B, d, by rw [if_pos h.1, if_pos h.1, if_pos h.1, h.1]; exact h.2.1, by rw [if_pos h.1]; exact h.2.2, hE⟩
  · exact ⟨B, d, by rw [if_neg h.1, if_neg h.1, if_neg h.1]; exact h.2.1, by rw [if_neg h.1]; exact h.2.2, hE⟩
/-- what a leaf's split answers: the error, the memory, the pool's bits -/
def lfS (P a n t : Nat) (L : List (Nat × Nat)) (F : Nat) : Nat × List (Nat × Nat) × Nat := if F = 0 then (8, L, 0) else (0, splS L (P + lowN' F) (reachT L a 0 n t).1 (ixN a (reachT L a 0 n t).2) (reachT L a 0 n t).2, takeF F)
def LfT (S P M : Nat) (D : Nat × List (Nat × Nat) × Nat) (w : World) (r : Ending) (w' : World) : Prop := ∃ B d, r = .returned (.tuple #[.agg #[.int .u64 (S : Int), .slice B D.2.1.length d], (.agg #[.int .u64 (P : Int), .int .i64 (M : Int), .int .u64 (D.2.2 : Int)]), .int .i64 (D.1 : Int)]) ∧ Mem w' S B D.2.1 d ∧ Ext w w'
theorem leaf_pk {S P M F n t a : Nat} {L : List (Nat × Nat)} {B : Option Addr} {d : Nat} (hpk : PoolK S P M) (hfit : Fit S P M F n t L) (hF : F < 2 ^ M) (hn : n ≤ 2) (ha : a < 18446744073709551616) (hlen : L.length ≤ 35000) (w : World) (hM : Mem w S B L d) (hT : Tab w ∧ Siz w) (h1 : (reachT L a 0 n t).2 ≠ 0) (h2 : leafB (tE L (reachT L a 0 n t).1 (ixN a (reachT L a 0 n t).2)) = true) :
    Calls Tryd.prog 17 #[.agg #[.int .u64 (S : Int), .slice B L.length d], (.agg #[.int .u64 (P : Int), .int .i64 (M : Int), .int .u64 (F : Int)]), .agg (sptC ⟨(reachT L a 0 n t).1, ((reachT L a 0 n t).2 : Int), tE L (reachT L a 0 n t).1 (ixN a (reachT L a 0 n t).2)⟩), .int .u64 (a : Int)] w (LfT S P M (lfS P a n t L F) w) := by
  have hm := reach_mem L a 0 n t
  unfold lfS
  generalize reachT L a 0 n t = r at *
  obtain ⟨r1, r2⟩ := r
  obtain ⟨l, rfl⟩ : ∃ l, r2 = l + 1 := ⟨r2 - 1, by simp only at h1; omega⟩
  simp only at h2 ⊢
  by_cases h0 : F = 0
  · subst h0
    refine (leaf20_no hpk.m w hM hT).mono ?_
    rintro r w' ⟨rfl, hE⟩
    exact ⟨B, d, by rw [if_pos rfl]; rfl, by rw [if_pos rfl]; exact hM.ext hE, hE⟩
  · refine (leaf20_yes hpk hfit hF h0 hn hm h2 ha hlen w hM hT).mono ?_
    rintro r w' ⟨B', d', rfl, hm', -, hE⟩
    exact ⟨B', d', by rw [if_neg h0]; rfl, by rw [if_neg h0]; exact hm', hE⟩
theorem leaf_rf {S P M F n t a : Nat} {L : List (Nat × Nat)} {B : Option Addr} {d : Nat} (hpk : PoolK S P M) (hfit : Fit S P M F n t L) (hF : F < 2 ^ M) (hn : n ≤ 2) (ha : a < 18446744073709551616) (hlen : L.length ≤ 35000) (w : World) (hM : Mem w S B L d) (h1 : (reachT L a 0 n t).2 ≠ 0) (h2 : leafB (tE L (reachT L a 0 n t).1 (ixN a (reachT L a 0 n t).2)) = true) :
    Calls Tryd.prog 18 #[.agg #[.int .u64 (S : Int), .slice B L.length d], (.agg #[.int .u64 (P : Int), .int .i64 (M : Int), .int .u64 (F : Int)]), .agg (sptC ⟨(reachT L a 0 n t).1, ((reachT L a 0 n t).2 : Int), tE L (reachT L a 0 n t).1 (ixN a (reachT L a 0 n t).2)⟩), .int .u64 (a : Int)] w (LfT S P M (lfS P a n t L F) w) := by
  have hm := reach_mem L a 0 n t
  unfold lfS
  generalize reachT L a 0 n t = r at *
  obtain ⟨r1, r2⟩ := r
  obtain ⟨l, rfl⟩ : ∃ l, r2 = l + 1 := ⟨r2 - 1, by simp only at h1; omega⟩
  simp only at h2 ⊢
  by_cases h0 : F = 0
  · subst h0
    refine (rleaf20_no hpk.m w hM).mono ?_
    rintro r w' ⟨rfl, hE⟩
    exact ⟨B, d, by rw [if_pos rfl]; rfl, by rw [if_pos rfl]; exact hM.ext hE, hE⟩
  · refine ((leafC20 hpk hn).yes w hM hlen hfit hF h0 hm h2 ha).mono ?_
    rintro r w' ⟨B', d', rfl, hm', -, hE⟩
    exact ⟨B', d', by rw [if_neg h0]; rfl, by rw [if_neg h0]; exact hm', hE⟩
set_option maxRecDepth 100000 in
set_option maxHeartbeats 16000000 in
theorem SplitDoes_w (caw : Awk20) (S : Nat) (B : Option Addr) (L : List (Nat × Nat)) (d P : Nat) (M : Int) (F t : Nat) (l : Int) (a : Nat) (z : Nat) (hS : S < 18446744073709551616) (hL : IsCells L) (hP : P < 18446744073709551616) (hM0 : -9223372036854775808 ≤ M) (hM1 : M ≤ 9223372036854775807) (hF : F < 18446744073709551616) (ht : t < 18446744073709551616) (hl : -9223372036854775808 ≤ l ∧ l ≤ 9223372036854775807) (ha : a < 18446744073709551616) (hz : z < 256) (w : World) (hm : RowL w B L d) (hT : Tab w ∧ Siz w) :
    Calls Tryd.prog 3 #[.agg #[.int .u64 (S : Int), .slice B L.length d], .agg #[.int .u64 (P : Int), .int .i64 M, .int .u64 (F : Int)], .int .u64 (t : Int), .int .i64 l, .int .u64 (a : Int), .int .u8 (z : Int)] w fun r w' => r = .returned (.bool true) ∧ Ext w w' := by
  obtain ⟨h1, h2⟩ := blk_two (Ext.refl ((w.alloc (.cells #[.int .u64 (S : Int), .slice B L.length d] 25)).alloc (.cells #[.int .u64 (P : Int), .int .i64 M, .int .u64 (F : Int)] 27)))
  have HE := Lib.hid (((Ext.refl w).alloc (.cells #[.int .u64 (S : Int), .slice B L.length d] 25)).alloc (.cells #[.int .u64 (P : Int), .int .i64 M, .int .u64 (F : Int)] 27))
  generalize hW1 : (w.alloc (.cells #[.int .u64 (S : Int), .slice B L.length d] 25)).alloc (.cells #[.int .u64 (P : Int), .int .i64 M, .int .u64 (F : Int)] 27) = W1 at h1 h2 HE
  have HW1 := Lib.hid hW1
  clear hW1
  have hTE : ∀ W : World, Ext w W → Tab W ∧ Siz W := fun W e => ⟨Tab.below hT.1 e, hT.2.ext e⟩
  have hmr : ∀ W : World, Ext w W → RowL W B L d := fun W e => hm.ext e
  have cfw := fun W (r : RowL W B L d) => few20_c S P M F B L d t l hS hL ht hP hF hM0 hM1 W r
  have cia := fun W => ris5_c (a : Int) (by omega) (by omega) W
  unfold Awk20 at caw
  go_enter Tryd.func3, Tryd.ntmps3
  go_upto_region 1 with fail
  rw [HW1.out]
  clear HW1
  go_wp2_with (fail); refine (caw _ (hTE _ HE.out)).mono ?_; rintro e w' ⟨rfl, hE⟩; (try replace hb := hb.ext hE); (try replace hz := hz.ext hE); (try replace hm := hm.ext hE); (try replace h1 := h1.ext hE); (try replace h2 := h2.ext hE); (try replace h3 := h3.ext hE); (try replace h4 := h4.ext hE); (try replace h5 := h5.ext hE); (try replace h6 := h6.ext hE); (try replace h7 := h7.ext hE); (try replace h8 := h8.ext hE); (try replace HE := Lib.hid (HE.out.trans hE)); (try replace r0 := r0.ext hE); (try replace r1 := r1.ext hE); (try replace r2 := r2.ext hE); (try replace r3 := r3.ext hE); (try replace r4 := r4.ext hE); (try replace r5 := r5.ext hE); (try replace r6 := r6.ext hE); clear hE
  go_wp2_with (first | (refine wpList_load_blk (by rfl) 25 _ rfl rfl h1 Tryd.underlying25 rfl (by kernel_rfl) ?_) | (refine wpList_load_blk (by rfl) 27 _ rfl rfl h2 Tryd.underlying27 rfl (by kernel_rfl) ?_))
  refine (cfw _ (hmr _ HE.out)).mono ?_
  rintro e w1 ⟨b, rfl, hb, hE⟩
  (try replace hb := hb.ext hE); (try replace hz := hz.ext hE); (try replace hm := hm.ext hE); (try replace h1 := h1.ext hE); (try replace h2 := h2.ext hE); (try replace h3 := h3.ext hE); (try replace h4 := h4.ext hE); (try replace h5 := h5.ext hE); (try replace h6 := h6.ext hE); (try replace h7 := h7.ext hE); (try replace h8 := h8.ext hE); (try replace HE := Lib.hid (HE.out.trans hE)); (try replace r0 := r0.ext hE); (try replace r1 := r1.ext hE); (try replace r2 := r2.ext hE); (try replace r3 := r3.ext hE); (try replace r4 := r4.ext hE); (try replace r5 := r5.ext hE); (try replace r6 := r6.ext hE)
  clear hE cfw
  cases b
  case false =>
    clear hb h1 h2 cia
    go_wp2_with fail
    refine (caw _ (hTE _ HE.out)).mono ?_
    rintro e wz ⟨rfl, hE⟩
    replace HE := Lib.hid (HE.out.trans hE)
    clear hE
    go_wp2
    go_ret
    exact ⟨rfl, HE.out⟩
  obtain ⟨m, n, hfw⟩ := hb rfl
  clear hb
  cases hva : vaB (a : Int)
  case false =>
    rw [hva] at cia
    clear hva hfw h1 h2
    go_wp2_with (go_at_call 9; (with_reducible refine (cia _).mono ?_); rintro e wq ⟨rfl, rfl⟩)
    refine (caw _ (hTE _ HE.out)).mono ?_
    rintro e wz ⟨rfl, hE⟩
    replace HE := Lib.hid (HE.out.trans hE)
    clear hE
    go_wp2
    go_ret
    exact ⟨rfl, HE.out⟩
  rw [hva] at cia
  clear hva
  obtain ⟨⟨hem, hel, hn2, hso, hpk, hbits, hfit⟩, hlen, htab⟩ := hfw
  subst hem
  subst hel
  have hMm : ∀ W : World, Ext w W → Mem W S B L d := fun W e => ⟨hm.ext e, hfit.rl, hso, by omega⟩
  obtain ⟨k, hk⟩ : ∃ k, z % (n + 1) = k := ⟨_, rfl⟩
  have hkn : k ≤ n := by rw [← hk]; have := Nat.mod_lt z (show 0 < n + 1 by omega); omega
  have hz1 : (z : Int).tmod ((n : Int) + 1) = (k : Int) := by rw [← hk, show ((n : Int) + 1) = ((n + 1 : Nat) : Int) from rfl, Int.tmod_eq_emod_of_nonneg (by omega)]; rfl
  have hz2 : (z : Int) % ((n : Int) + 1) = (k : Int) := by rw [← hk]; rfl
  clear hk
  have cdn := fun W (q : Mem W S B L d) y => (down20_c (k := k) (a := a) hfit hpk hbits (by omega) htab hn2 hkn ha W q y).mono (fun _ _ h => dn_all h)
  have crd := fun W (q : Mem W S B L d) => (rdown_c (k := k) (a := a) hfit hpk hbits (by omega) htab hn2 hkn ha W q).mono (fun _ _ h => dnt_all h)
  have cto := fun W (q : Mem W S B L d) y => (to20_c (k := k) (a := a) hfit hpk hbits (by omega) (by have := tabs_le (reach_mem L a k n t); omega) hn2 hkn ha W q y).mono (fun _ _ h => to_all h)
  have crt := fun W (q : Mem W S B L d) => (rto_c (k := k) (a := a) (leafC20 hpk hn2) hfit hpk hbits (by omega) htab hn2 hkn ha W q).mono (fun _ _ h => tot_all h)
  have cre := fun W (q : Mem W S B L d) => rreach19_c (k := 0) ha (by decide) n hn2 t W (by have := hfit.tree.top; have := hpk.s40; omega) q
  have clp := fun W (q : Mem W S B L d) y => leaf_pk (n := n) (t := t) (a := a) hpk hfit hbits hn2 ha (by omega) W q y
  have clr := fun W (q : Mem W S B L d) => leaf_rf (n := n) (t := t) (a := a) hpk hfit hbits hn2 ha (by omega) W q
  have hsp : spotW L 0 n t a = ⟨(reachT L a 0 n t).1, ((reachT L a 0 n t).2 : Int), tE L (reachT L a 0 n t).1 (ixN a (reachT L a 0 n t).2)⟩ := by unfold spotW; rfl
  rw [hsp] at cre
  clear hsp
  have x1 : (sptC (⟨(reachT L a 0 n t).1, ((reachT L a 0 n t).2 : Int), tE L (reachT L a 0 n t).1 (ixN a (reachT L a 0 n t).2)⟩ : Spt))[1]? = some (.int .i64 ((reachT L a 0 n t).2 : Int)) := sptC_lv _
  have hpt : (sptC (⟨(reachT L a 0 n t).1, ((reachT L a 0 n t).2 : Int), tE L (reachT L a 0 n t).1 (ixN a (reachT L a 0 n t).2)⟩ : Spt)).extract 2 (2 + (ptC (tE L (reachT L a 0 n t).1 (ixN a (reachT L a 0 n t).2))).size) = ptC (tE L (reachT L a 0 n t).1 (ixN a (reachT L a 0 n t).2)) := sptC_pt _
  have clf := fun W => rleaf_c (tE L (reachT L a 0 n t).1 (ixN a (reachT L a 0 n t).2)) W
  generalize lfS P a n t L F = D3 at *
  generalize (⟨(reachT L a 0 n t).1, ((reachT L a 0 n t).2 : Int), tE L (reachT L a 0 n t).1 (ixN a (reachT L a 0 n t).2)⟩ : Spt) = S9 at *
  generalize tE L (reachT L a 0 n t).1 (ixN a (reachT L a 0 n t).2) = p at *
  generalize (reachT L a 0 n t).2 = lv at *
  generalize dnS P a k n L F t = D at *
  generalize toS P a k n t 3 L F = D2 at *
  go_wp2_with (first | (go_at_call 9; (with_reducible refine (cia _).mono ?_); rintro e wq ⟨rfl, rfl⟩) | (refine wpList_load_blk (by rfl) 25 _ rfl rfl h1 Tryd.underlying25 rfl (by kernel_rfl) ?_) | (refine wpList_load_blk (by rfl) 27 _ rfl rfl h2 Tryd.underlying27 rfl (by kernel_rfl) ?_))
  refine (cdn _ (hMm _ HE.out) (hTE _ HE.out)).mono ?_
  rintro r w2 ⟨B2, d2, rfl, r1, hE⟩
  (try replace hb := hb.ext hE); (try replace hz := hz.ext hE); (try replace hm := hm.ext hE); (try replace h1 := h1.ext hE); (try replace h2 := h2.ext hE); (try replace h3 := h3.ext hE); (try replace h4 := h4.ext hE); (try replace h5 := h5.ext hE); (try replace h6 := h6.ext hE); (try replace h7 := h7.ext hE); (try replace h8 := h8.ext hE); (try replace HE := Lib.hid (HE.out.trans hE)); (try replace r0 := r0.ext hE); (try replace r1 := r1.ext hE); (try replace r2 := r2.ext hE); (try replace r3 := r3.ext hE); (try replace r4 := r4.ext hE); (try replace r5 := r5.ext hE); (try replace r6 := r6.ext hE)
  clear hE
  generalize (if D.1 = 0 then D.2.1 else L) = K at *
  generalize (if D.1 = 0 then D.2.2.1 else F) = G at *
  generalize (if D.1 = 0 then (⟨D.2.2.2, (k : Int), tE D.2.1 D.2.2.2 (ixN a k)⟩ : Spt) else ⟨0, 0, getP 0⟩) = SP at *
  generalize D.1 = ee at *
  have csa := fun W A c A' c' (k : Mem W S A K c) (k' : Mem W S A' K c') => same_xx k k'
  rw [decide_eq_true rfl] at csa
  obtain ⟨zz1, zz2, zz3, hE, h3, h4, h5⟩ := nmps w2 (#[.int .u64 (S : Int), .slice B2 K.length d2]) (#[.int .u64 (P : Int), .int .i64 (m : Int), .int .u64 (G : Int)]) ((sptC SP)); (try replace hb := hb.ext hE); (try replace hz := hz.ext hE); (try replace hm := hm.ext hE); (try replace h1 := h1.ext hE); (try replace h2 := h2.ext hE); (try replace h3 := h3.ext hE); (try replace h4 := h4.ext hE); (try replace h5 := h5.ext hE); (try replace h6 := h6.ext hE); (try replace h7 := h7.ext hE); (try replace h8 := h8.ext hE); (try replace HE := Lib.hid (HE.out.trans hE)); (try replace r0 := r0.ext hE); (try replace r1 := r1.ext hE); (try replace r2 := r2.ext hE); (try replace r3 := r3.ext hE); (try replace r4 := r4.ext hE); (try replace r5 := r5.ext hE); (try replace r6 := r6.ext hE)
  clear hE
  go_wp2_with (first | (first | (refine wpList_store_blk rfl 25 _ _ rfl rfl rfl zz1 (by kernel_rfl) (by rfl) (by simp [Value.oneCell']) ?_) | (refine wpList_store_blk rfl 27 _ _ rfl rfl rfl zz2 (by kernel_rfl) (by rfl) (by simp [Value.oneCell']) ?_) | ((refine wpList_store_blk rfl 34 _ _ rfl rfl rfl zz3 (spt_info _) (by simp [sptC_size]) (sptC_one _) ?_); clear zz1 zz2 zz3; generalize (((((w2.alloc (.cells #[.int .u64 0, .slice none 0 0] 25)).alloc (.cells #[.int .u64 0, .int .i64 0, .int .u64 0] 27)).alloc (.cells #[.int .u64 0, .int .i64 0, .bool false, .bool false, .bool false, .bool false, .bool false, .bool false, .bool false, .bool false, .int .u64 0, .int .u64 0, .int .u64 0] 34)).setRow w2.heap.size (#[.int .u64 (S : Int), .slice B2 K.length d2])).setRow (w2.heap.size + 1) (#[.int .u64 (P : Int), .int .i64 (m : Int), .int .u64 (G : Int)])).setRow (w2.heap.size + 1 + 1) ((sptC SP)) = X2 at *)) | (refine wpList_load_blk (by rfl) 25 _ rfl rfl h1 Tryd.underlying25 rfl (by kernel_rfl) ?_) | (refine wpList_load_blk (by rfl) 27 _ rfl rfl h2 Tryd.underlying27 rfl (by kernel_rfl) ?_))
  refine (crd _ (hMm _ HE.out)).mono ?_
  rintro r w3 ⟨B3, d3, rfl, r2, hE⟩
  (try replace hb := hb.ext hE); (try replace hz := hz.ext hE); (try replace hm := hm.ext hE); (try replace h1 := h1.ext hE); (try replace h2 := h2.ext hE); (try replace h3 := h3.ext hE); (try replace h4 := h4.ext hE); (try replace h5 := h5.ext hE); (try replace h6 := h6.ext hE); (try replace h7 := h7.ext hE); (try replace h8 := h8.ext hE); (try replace HE := Lib.hid (HE.out.trans hE)); (try replace r0 := r0.ext hE); (try replace r1 := r1.ext hE); (try replace r2 := r2.ext hE); (try replace r3 := r3.ext hE); (try replace r4 := r4.ext hE); (try replace r5 := r5.ext hE); (try replace r6 := r6.ext hE)
  clear hE
  obtain ⟨zz1, zz2, zz3, hE, h6, h7, h8⟩ := nmps w3 (#[.int .u64 (S : Int), .slice B3 K.length d3]) (#[.int .u64 (P : Int), .int .i64 (m : Int), .int .u64 (G : Int)]) ((sptC SP)); (try replace hb := hb.ext hE); (try replace hz := hz.ext hE); (try replace hm := hm.ext hE); (try replace h1 := h1.ext hE); (try replace h2 := h2.ext hE); (try replace h3 := h3.ext hE); (try replace h4 := h4.ext hE); (try replace h5 := h5.ext hE); (try replace h6 := h6.ext hE); (try replace h7 := h7.ext hE); (try replace h8 := h8.ext hE); (try replace HE := Lib.hid (HE.out.trans hE)); (try replace r0 := r0.ext hE); (try replace r1 := r1.ext hE); (try replace r2 := r2.ext hE); (try replace r3 := r3.ext hE); (try replace r4 := r4.ext hE); (try replace r5 := r5.ext hE); (try replace r6 := r6.ext hE)
  clear hE
  go_wp2_with (first | (first | (refine wpList_store_blk rfl 25 _ _ rfl rfl rfl zz1 (by kernel_rfl) (by rfl) (by simp [Value.oneCell']) ?_) | (refine wpList_store_blk rfl 27 _ _ rfl rfl rfl zz2 (by kernel_rfl) (by rfl) (by simp [Value.oneCell']) ?_) | ((refine wpList_store_blk rfl 34 _ _ rfl rfl rfl zz3 (spt_info _) (by simp [sptC_size]) (sptC_one _) ?_); clear zz1 zz2 zz3; generalize (((((w3.alloc (.cells #[.int .u64 0, .slice none 0 0] 25)).alloc (.cells #[.int .u64 0, .int .i64 0, .int .u64 0] 27)).alloc (.cells #[.int .u64 0, .int .i64 0, .bool false, .bool false, .bool false, .bool false, .bool false, .bool false, .bool false, .bool false, .int .u64 0, .int .u64 0, .int .u64 0] 34)).setRow w3.heap.size (#[.int .u64 (S : Int), .slice B3 K.length d3])).setRow (w3.heap.size + 1) (#[.int .u64 (P : Int), .int .i64 (m : Int), .int .u64 (G : Int)])).setRow (w3.heap.size + 1 + 1) ((sptC SP)) = X3 at *)) | (refine wpList_load_blk (by rfl) 25 _ rfl rfl h3 Tryd.underlying25 rfl (by kernel_rfl) ?_) | (refine wpList_load_blk (by rfl) 25 _ rfl rfl h6 Tryd.underlying25 rfl (by kernel_rfl) ?_))
  refine (csa _ _ _ _ _ r1 r2).mono ?_
  rintro e w4 ⟨rfl, hE⟩
  (try replace hb := hb.ext hE); (try replace hz := hz.ext hE); (try replace hm := hm.ext hE); (try replace h1 := h1.ext hE); (try replace h2 := h2.ext hE); (try replace h3 := h3.ext hE); (try replace h4 := h4.ext hE); (try replace h5 := h5.ext hE); (try replace h6 := h6.ext hE); (try replace h7 := h7.ext hE); (try replace h8 := h8.ext hE); (try replace HE := Lib.hid (HE.out.trans hE)); (try replace r0 := r0.ext hE); (try replace r1 := r1.ext hE); (try replace r2 := r2.ext hE); (try replace r3 := r3.ext hE); (try replace r4 := r4.ext hE); (try replace r5 := r5.ext hE); (try replace r6 := r6.ext hE)
  clear hE csa r1 r2
  have hq : ∀ w, (binOp .neq 27 (.agg #[.int .u64 (P : Int), .int .i64 (m : Int), .int .u64 (G : Int)]) (.agg #[.int .u64 (P : Int), .int .i64 (m : Int), .int .u64 (G : Int)])).run Tryd.prog w = .ok (.bool false) w := fun w => by rw [neqP]; simp
  have hpg := pool_guard
  go_wp2_with (first | (refine wpList_load_blk (by rfl) 27 _ rfl rfl h4 Tryd.underlying27 rfl (by kernel_rfl) ?_) | (refine wpList_load_blk (by rfl) 27 _ rfl rfl h7 Tryd.underlying27 rfl (by kernel_rfl) ?_) | (refine wpList_load_blk (by rfl) 34 _ rfl rfl h5 Tryd.underlying34 rfl (by kernel_rfl) ?_) | (refine wpList_load_blk (by rfl) 34 _ rfl rfl h8 Tryd.underlying34 rfl (by kernel_rfl) ?_) | (refine wpList_cmp (op := .neq) (by rfl) 34 rfl rfl rfl (spt_guard) ((fun w => run_b (neq_spt w _ _) (dec_nots _))) ?_) | (refine wpList_load_blk (by rfl) 25 _ rfl rfl h1 Tryd.underlying25 rfl (by kernel_rfl) ?_) | (refine wpList_load_blk (by rfl) 27 _ rfl rfl h2 Tryd.underlying27 rfl (by kernel_rfl) ?_))
  clear hq h3 h4 h5 h6 h7 h8
  clear cdn crd
  refine (cto _ (hMm _ HE.out) (hTE _ HE.out)).mono ?_
  rintro r w2 ⟨B2, d2, rfl, r1, hE⟩
  (try replace hb := hb.ext hE); (try replace hz := hz.ext hE); (try replace hm := hm.ext hE); (try replace h1 := h1.ext hE); (try replace h2 := h2.ext hE); (try replace h3 := h3.ext hE); (try replace h4 := h4.ext hE); (try replace h5 := h5.ext hE); (try replace h6 := h6.ext hE); (try replace h7 := h7.ext hE); (try replace h8 := h8.ext hE); (try replace HE := Lib.hid (HE.out.trans hE)); (try replace r0 := r0.ext hE); (try replace r1 := r1.ext hE); (try replace r2 := r2.ext hE); (try replace r3 := r3.ext hE); (try replace r4 := r4.ext hE); (try replace r5 := r5.ext hE); (try replace r6 := r6.ext hE)
  clear hE
  generalize (if D2.1 = 0 then D2.2.1 else L) = K_ at *
  generalize (if D2.1 = 0 then D2.2.2 else F) = G_ at *
  generalize (if D2.1 = 0 then spotW D2.2.1 k n t a else ⟨0, 0, getP 0⟩) = SQ at *
  generalize D2.1 = eq_ at *
  have csa := fun W A c A' c' (k : Mem W S A K_ c) (k' : Mem W S A' K_ c') => same_xx k k'
  rw [decide_eq_true rfl] at csa
  obtain ⟨zz1, zz2, zz3, hE, h3, h4, h5⟩ := nmps w2 (#[.int .u64 (S : Int), .slice B2 K_.length d2]) (#[.int .u64 (P : Int), .int .i64 (m : Int), .int .u64 (G_ : Int)]) ((sptC SQ)); (try replace hb := hb.ext hE); (try replace hz := hz.ext hE); (try replace hm := hm.ext hE); (try replace h1 := h1.ext hE); (try replace h2 := h2.ext hE); (try replace h3 := h3.ext hE); (try replace h4 := h4.ext hE); (try replace h5 := h5.ext hE); (try replace h6 := h6.ext hE); (try replace h7 := h7.ext hE); (try replace h8 := h8.ext hE); (try replace HE := Lib.hid (HE.out.trans hE)); (try replace r0 := r0.ext hE); (try replace r1 := r1.ext hE); (try replace r2 := r2.ext hE); (try replace r3 := r3.ext hE); (try replace r4 := r4.ext hE); (try replace r5 := r5.ext hE); (try replace r6 := r6.ext hE)
  clear hE
  go_wp2_with (first | (first | (refine wpList_store_blk rfl 25 _ _ rfl rfl rfl zz1 (by kernel_rfl) (by rfl) (by simp [Value.oneCell']) ?_) | (refine wpList_store_blk rfl 27 _ _ rfl rfl rfl zz2 (by kernel_rfl) (by rfl) (by simp [Value.oneCell']) ?_) | ((refine wpList_store_blk rfl 34 _ _ rfl rfl rfl zz3 (spt_info _) (by simp [sptC_size]) (sptC_one _) ?_); clear zz1 zz2 zz3; generalize (((((w2.alloc (.cells #[.int .u64 0, .slice none 0 0] 25)).alloc (.cells #[.int .u64 0, .int .i64 0, .int .u64 0] 27)).alloc (.cells #[.int .u64 0, .int .i64 0, .bool false, .bool false, .bool false, .bool false, .bool false, .bool false, .bool false, .bool false, .int .u64 0, .int .u64 0, .int .u64 0] 34)).setRow w2.heap.size (#[.int .u64 (S : Int), .slice B2 K_.length d2])).setRow (w2.heap.size + 1) (#[.int .u64 (P : Int), .int .i64 (m : Int), .int .u64 (G_ : Int)])).setRow (w2.heap.size + 1 + 1) ((sptC SQ)) = X2 at *)) | (refine wpList_load_blk (by rfl) 25 _ rfl rfl h1 Tryd.underlying25 rfl (by kernel_rfl) ?_) | (refine wpList_load_blk (by rfl) 27 _ rfl rfl h2 Tryd.underlying27 rfl (by kernel_rfl) ?_))
  refine (crt _ (hMm _ HE.out)).mono ?_
  rintro r w3 ⟨B3, d3, rfl, r2, hE⟩
  (try replace hb := hb.ext hE); (try replace hz := hz.ext hE); (try replace hm := hm.ext hE); (try replace h1 := h1.ext hE); (try replace h2 := h2.ext hE); (try replace h3 := h3.ext hE); (try replace h4 := h4.ext hE); (try replace h5 := h5.ext hE); (try replace h6 := h6.ext hE); (try replace h7 := h7.ext hE); (try replace h8 := h8.ext hE); (try replace HE := Lib.hid (HE.out.trans hE)); (try replace r0 := r0.ext hE); (try replace r1 := r1.ext hE); (try replace r2 := r2.ext hE); (try replace r3 := r3.ext hE); (try replace r4 := r4.ext hE); (try replace r5 := r5.ext hE); (try replace r6 := r6.ext hE)
  clear hE
  obtain ⟨zz1, zz2, zz3, hE, h6, h7, h8⟩ := nmps w3 (#[.int .u64 (S : Int), .slice B3 K_.length d3]) (#[.int .u64 (P : Int), .int .i64 (m : Int), .int .u64 (G_ : Int)]) ((sptC SQ)); (try replace hb := hb.ext hE); (try replace hz := hz.ext hE); (try replace hm := hm.ext hE); (try replace h1 := h1.ext hE); (try replace h2 := h2.ext hE); (try replace h3 := h3.ext hE); (try replace h4 := h4.ext hE); (try replace h5 := h5.ext hE); (try replace h6 := h6.ext hE); (try replace h7 := h7.ext hE); (try replace h8 := h8.ext hE); (try replace HE := Lib.hid (HE.out.trans hE)); (try replace r0 := r0.ext hE); (try replace r1 := r1.ext hE); (try replace r2 := r2.ext hE); (try replace r3 := r3.ext hE); (try replace r4 := r4.ext hE); (try replace r5 := r5.ext hE); (try replace r6 := r6.ext hE)
  clear hE
  go_wp2_with (first | (first | (refine wpList_store_blk rfl 25 _ _ rfl rfl rfl zz1 (by kernel_rfl) (by rfl) (by simp [Value.oneCell']) ?_) | (refine wpList_store_blk rfl 27 _ _ rfl rfl rfl zz2 (by kernel_rfl) (by rfl) (by simp [Value.oneCell']) ?_) | ((refine wpList_store_blk rfl 34 _ _ rfl rfl rfl zz3 (spt_info _) (by simp [sptC_size]) (sptC_one _) ?_); clear zz1 zz2 zz3; generalize (((((w3.alloc (.cells #[.int .u64 0, .slice none 0 0] 25)).alloc (.cells #[.int .u64 0, .int .i64 0, .int .u64 0] 27)).alloc (.cells #[.int .u64 0, .int .i64 0, .bool false, .bool false, .bool false, .bool false, .bool false, .bool false, .bool false, .bool false, .int .u64 0, .int .u64 0, .int .u64 0] 34)).setRow w3.heap.size (#[.int .u64 (S : Int), .slice B3 K_.length d3])).setRow (w3.heap.size + 1) (#[.int .u64 (P : Int), .int .i64 (m : Int), .int .u64 (G_ : Int)])).setRow (w3.heap.size + 1 + 1) ((sptC SQ)) = X3 at *)) | (refine wpList_load_blk (by rfl) 25 _ rfl rfl h3 Tryd.underlying25 rfl (by kernel_rfl) ?_) | (refine wpList_load_blk (by rfl) 25 _ rfl rfl h6 Tryd.underlying25 rfl (by kernel_rfl) ?_))
  refine (csa _ _ _ _ _ r1 r2).mono ?_
  rintro e w4 ⟨rfl, hE⟩
  (try replace hb := hb.ext hE); (try replace hz := hz.ext hE); (try replace hm := hm.ext hE); (try replace h1 := h1.ext hE); (try replace h2 := h2.ext hE); (try replace h3 := h3.ext hE); (try replace h4 := h4.ext hE); (try replace h5 := h5.ext hE); (try replace h6 := h6.ext hE); (try replace h7 := h7.ext hE); (try replace h8 := h8.ext hE); (try replace HE := Lib.hid (HE.out.trans hE)); (try replace r0 := r0.ext hE); (try replace r1 := r1.ext hE); (try replace r2 := r2.ext hE); (try replace r3 := r3.ext hE); (try replace r4 := r4.ext hE); (try replace r5 := r5.ext hE); (try replace r6 := r6.ext hE)
  clear hE csa r1 r2
  have hq : ∀ w, (binOp .neq 27 (.agg #[.int .u64 (P : Int), .int .i64 (m : Int), .int .u64 (G_ : Int)]) (.agg #[.int .u64 (P : Int), .int .i64 (m : Int), .int .u64 (G_ : Int)])).run Tryd.prog w = .ok (.bool false) w := fun w => by rw [neqP]; simp
  have hpg := pool_guard
  go_wp2_with (first | (refine wpList_load_blk (by rfl) 27 _ rfl rfl h4 Tryd.underlying27 rfl (by kernel_rfl) ?_) | (refine wpList_load_blk (by rfl) 27 _ rfl rfl h7 Tryd.underlying27 rfl (by kernel_rfl) ?_) | (refine wpList_load_blk (by rfl) 34 _ rfl rfl h5 Tryd.underlying34 rfl (by kernel_rfl) ?_) | (refine wpList_load_blk (by rfl) 34 _ rfl rfl h8 Tryd.underlying34 rfl (by kernel_rfl) ?_) | (refine wpList_cmp (op := .neq) (by rfl) 34 rfl rfl rfl (spt_guard) ((fun w => run_b (neq_spt w _ _) (dec_nots _))) ?_) | (refine wpList_load_blk (by rfl) 25 _ rfl rfl h1 Tryd.underlying25 rfl (by kernel_rfl) ?_) | (refine wpList_load_blk (by rfl) 27 _ rfl rfl h2 Tryd.underlying27 rfl (by kernel_rfl) ?_))
  clear hq h3 h4 h5 h6 h7 h8
  clear cto crt
  refine (cre _ (hMm _ HE.out)).mono ?_
  rintro e w5 ⟨rfl, hE⟩
  (try replace hb := hb.ext hE); (try replace hz := hz.ext hE); (try replace hm := hm.ext hE); (try replace h1 := h1.ext hE); (try replace h2 := h2.ext hE); (try replace h3 := h3.ext hE); (try replace h4 := h4.ext hE); (try replace h5 := h5.ext hE); (try replace h6 := h6.ext hE); (try replace h7 := h7.ext hE); (try replace h8 := h8.ext hE); (try replace HE := Lib.hid (HE.out.trans hE)); (try replace r0 := r0.ext hE); (try replace r1 := r1.ext hE); (try replace r2 := r2.ext hE); (try replace r3 := r3.ext hE); (try replace r4 := r4.ext hE); (try replace r5 := r5.ext hE); (try replace r6 := r6.ext hE)
  clear hE cre
  have zz1 : Blk (w5.alloc (.cells #[.int .u64 0, .int .i64 0, .bool false, .bool false, .bool false, .bool false, .bool false, .bool false, .bool false, .bool false, .int .u64 0, .int .u64 0, .int .u64 0] 34)) w5.heap.size 34 #[.int .u64 0, .int .i64 0, .bool false, .bool false, .bool false, .bool false, .bool false, .bool false, .bool false, .bool false, .int .u64 0, .int .u64 0, .int .u64 0] := Blk.new _ _ _; have hE := ((Ext.refl w5).alloc (.cells #[.int .u64 0, .int .i64 0, .bool false, .bool false, .bool false, .bool false, .bool false, .bool false, .bool false, .bool false, .int .u64 0, .int .u64 0, .int .u64 0] 34)).row (Nat.le_refl w5.heap.size) (sptC S9); (try replace hb := hb.ext hE); (try replace hz := hz.ext hE); (try replace hm := hm.ext hE); (try replace h1 := h1.ext hE); (try replace h2 := h2.ext hE); (try replace h3 := h3.ext hE); (try replace h4 := h4.ext hE); (try replace h5 := h5.ext hE); (try replace h6 := h6.ext hE); (try replace h7 := h7.ext hE); (try replace h8 := h8.ext hE); (try replace HE := Lib.hid (HE.out.trans hE)); (try replace r0 := r0.ext hE); (try replace r1 := r1.ext hE); (try replace r2 := r2.ext hE); (try replace r3 := r3.ext hE); (try replace r4 := r4.ext hE); (try replace r5 := r5.ext hE); (try replace r6 := r6.ext hE); clear hE; have h3 := zz1.row (sptC S9)
  have y1 := (h3.cell 1).trans x1
  by_cases c1 : lv = 0
  case pos =>
    have d1 : ((lv : Int) == 0) = true := by rw [c1]; rfl
    have d2 : (lv == 0) = true := by rw [c1]; rfl
    clear clp clr clf hpt
    go_wp2_with ((refine wpList_store_blk rfl 34 _ _ rfl rfl rfl zz1 (spt_info _) (by simp [sptC_size]) (sptC_one _) ?_); clear zz1; generalize (w5.alloc (.cells #[.int .u64 0, .int .i64 0, .bool false, .bool false, .bool false, .bool false, .bool false, .bool false, .bool false, .bool false, .int .u64 0, .int .u64 0, .int .u64 0] 34)).setRow w5.heap.size (sptC S9) = X at *)
    go_ret
    exact ⟨rfl, HE.out⟩
  have d1 : ((lv : Int) == 0) = false := by simp; exact c1
  have d2 : (lv == 0) = false := by simp; exact c1
  go_wp2_with (first | ((refine wpList_store_blk rfl 34 _ _ rfl rfl rfl zz1 (spt_info _) (by simp [sptC_size]) (sptC_one _) ?_); clear zz1; generalize (w5.alloc (.cells #[.int .u64 0, .int .i64 0, .bool false, .bool false, .bool false, .bool false, .bool false, .bool false, .bool false, .bool false, .int .u64 0, .int .u64 0, .int .u64 0] 34)).setRow w5.heap.size (sptC S9) = X at *) | (refine wpList_load_part (by rfl) 32 _ rfl rfl h3 (hpt) Tryd.underlying32 rfl (pt_info _) ?_))
  clear y1
  refine (clf _).mono ?_
  rintro e w6 ⟨rfl, hE⟩
  (try replace hb := hb.ext hE); (try replace hz := hz.ext hE); (try replace hm := hm.ext hE); (try replace h1 := h1.ext hE); (try replace h2 := h2.ext hE); (try replace h3 := h3.ext hE); (try replace h4 := h4.ext hE); (try replace h5 := h5.ext hE); (try replace h6 := h6.ext hE); (try replace h7 := h7.ext hE); (try replace h8 := h8.ext hE); (try replace HE := Lib.hid (HE.out.trans hE)); (try replace r0 := r0.ext hE); (try replace r1 := r1.ext hE); (try replace r2 := r2.ext hE); (try replace r3 := r3.ext hE); (try replace r4 := r4.ext hE); (try replace r5 := r5.ext hE); (try replace r6 := r6.ext hE)
  clear hE clf
  cases hl : leafB p
  case false =>
    clear clp clr hpt hl
    go_wp2
    go_ret
    exact ⟨rfl, HE.out⟩
  have clp2 := fun W q y => clp W q y c1 hl
  have clr2 := fun W q => clr W q c1 hl
  unfold LfT at clp2 clr2
  clear clp clr hpt hl
  obtain ⟨e8, K8, G8⟩ := D3
  simp only at clp2 clr2
  have csa := fun W A c A' c' (k : Mem W S A K8 c) (k' : Mem W S A' K8 c') => same_xx k k'
  rw [decide_eq_true rfl] at csa
  go_wp2_with (first | (refine wpList_load_blk (by rfl) 25 _ rfl rfl h1 Tryd.underlying25 rfl (by kernel_rfl) ?_) | (refine wpList_load_blk (by rfl) 27 _ rfl rfl h2 Tryd.underlying27 rfl (by kernel_rfl) ?_) | (refine wpList_load_blk (by rfl) 34 _ rfl rfl h3 Tryd.underlying34 rfl (by kernel_rfl) ?_))
  refine (clp2 _ (hMm _ HE.out) (hTE _ HE.out)).mono ?_
  rintro e w7 ⟨B5, d5, rfl, r1, hE⟩
  (try replace hb := hb.ext hE); (try replace hz := hz.ext hE); (try replace hm := hm.ext hE); (try replace h1 := h1.ext hE); (try replace h2 := h2.ext hE); (try replace h3 := h3.ext hE); (try replace h4 := h4.ext hE); (try replace h5 := h5.ext hE); (try replace h6 := h6.ext hE); (try replace h7 := h7.ext hE); (try replace h8 := h8.ext hE); (try replace HE := Lib.hid (HE.out.trans hE)); (try replace r0 := r0.ext hE); (try replace r1 := r1.ext hE); (try replace r2 := r2.ext hE); (try replace r3 := r3.ext hE); (try replace r4 := r4.ext hE); (try replace r5 := r5.ext hE); (try replace r6 := r6.ext hE)
  clear hE clp2
  obtain ⟨zz1, zz2, hE, h4, h5⟩ := nmp w7 #[.int .u64 (S : Int), .slice B5 K8.length d5] #[.int .u64 (P : Int), .int .i64 (m : Int), .int .u64 (G8 : Int)]; (try replace hb := hb.ext hE); (try replace hz := hz.ext hE); (try replace hm := hm.ext hE); (try replace h1 := h1.ext hE); (try replace h2 := h2.ext hE); (try replace h3 := h3.ext hE); (try replace h4 := h4.ext hE); (try replace h5 := h5.ext hE); (try replace h6 := h6.ext hE); (try replace h7 := h7.ext hE); (try replace h8 := h8.ext hE); (try replace HE := Lib.hid (HE.out.trans hE)); (try replace r0 := r0.ext hE); (try replace r1 := r1.ext hE); (try replace r2 := r2.ext hE); (try replace r3 := r3.ext hE); (try replace r4 := r4.ext hE); (try replace r5 := r5.ext hE); (try replace r6 := r6.ext hE)
  clear hE
  go_wp2_with (first | (first | (refine wpList_store_blk rfl 25 _ _ rfl rfl rfl zz1 (by kernel_rfl) (by rfl) (by simp [Value.oneCell']) ?_) | ((refine wpList_store_blk rfl 27 _ _ rfl rfl rfl zz2 (by kernel_rfl) (by rfl) (by simp [Value.oneCell']) ?_); clear zz1 zz2; generalize (((w7.alloc (.cells #[.int .u64 0, .slice none 0 0] 25)).alloc (.cells #[.int .u64 0, .int .i64 0, .int .u64 0] 27)).setRow w7.heap.size #[.int .u64 (S : Int), .slice B5 K8.length d5]).setRow (w7.heap.size + 1) #[.int .u64 (P : Int), .int .i64 (m : Int), .int .u64 (G8 : Int)] = X7 at *)) | (refine wpList_load_blk (by rfl) 25 _ rfl rfl h1 Tryd.underlying25 rfl (by kernel_rfl) ?_) | (refine wpList_load_blk (by rfl) 27 _ rfl rfl h2 Tryd.underlying27 rfl (by kernel_rfl) ?_) | (refine wpList_load_blk (by rfl) 34 _ rfl rfl h3 Tryd.underlying34 rfl (by kernel_rfl) ?_))
  refine (clr2 _ (hMm _ HE.out)).mono ?_
  rintro e w8 ⟨B6, d6, rfl, r2, hE⟩
  (try replace hb := hb.ext hE); (try replace hz := hz.ext hE); (try replace hm := hm.ext hE); (try replace h1 := h1.ext hE); (try replace h2 := h2.ext hE); (try replace h3 := h3.ext hE); (try replace h4 := h4.ext hE); (try replace h5 := h5.ext hE); (try replace h6 := h6.ext hE); (try replace h7 := h7.ext hE); (try replace h8 := h8.ext hE); (try replace HE := Lib.hid (HE.out.trans hE)); (try replace r0 := r0.ext hE); (try replace r1 := r1.ext hE); (try replace r2 := r2.ext hE); (try replace r3 := r3.ext hE); (try replace r4 := r4.ext hE); (try replace r5 := r5.ext hE); (try replace r6 := r6.ext hE)
  clear hE clr2
  obtain ⟨zz1, zz2, hE, h6, h7⟩ := nmp w8 #[.int .u64 (S : Int), .slice B6 K8.length d6] #[.int .u64 (P : Int), .int .i64 (m : Int), .int .u64 (G8 : Int)]; (try replace hb := hb.ext hE); (try replace hz := hz.ext hE); (try replace hm := hm.ext hE); (try replace h1 := h1.ext hE); (try replace h2 := h2.ext hE); (try replace h3 := h3.ext hE); (try replace h4 := h4.ext hE); (try replace h5 := h5.ext hE); (try replace h6 := h6.ext hE); (try replace h7 := h7.ext hE); (try replace h8 := h8.ext hE); (try replace HE := Lib.hid (HE.out.trans hE)); (try replace r0 := r0.ext hE); (try replace r1 := r1.ext hE); (try replace r2 := r2.ext hE); (try replace r3 := r3.ext hE); (try replace r4 := r4.ext hE); (try replace r5 := r5.ext hE); (try replace r6 := r6.ext hE)
  clear hE
  go_wp2_with (first | (first | (refine wpList_store_blk rfl 25 _ _ rfl rfl rfl zz1 (by kernel_rfl) (by rfl) (by simp [Value.oneCell']) ?_) | ((refine wpList_store_blk rfl 27 _ _ rfl rfl rfl zz2 (by kernel_rfl) (by rfl) (by simp [Value.oneCell']) ?_); clear zz1 zz2; generalize (((w8.alloc (.cells #[.int .u64 0, .slice none 0 0] 25)).alloc (.cells #[.int .u64 0, .int .i64 0, .int .u64 0] 27)).setRow w8.heap.size #[.int .u64 (S : Int), .slice B6 K8.length d6]).setRow (w8.heap.size + 1) #[.int .u64 (P : Int), .int .i64 (m : Int), .int .u64 (G8 : Int)] = X8 at *)) | (refine wpList_load_blk (by rfl) 25 _ rfl rfl h4 Tryd.underlying25 rfl (by kernel_rfl) ?_) | (refine wpList_load_blk (by rfl) 25 _ rfl rfl h6 Tryd.underlying25 rfl (by kernel_rfl) ?_))
  refine (csa _ _ _ _ _ r1 r2).mono ?_
  rintro e w9 ⟨rfl, hE⟩
  (try replace hb := hb.ext hE); (try replace hz := hz.ext hE); (try replace hm := hm.ext hE); (try replace h1 := h1.ext hE); (try replace h2 := h2.ext hE); (try replace h3 := h3.ext hE); (try replace h4 := h4.ext hE); (try replace h5 := h5.ext hE); (try replace h6 := h6.ext hE); (try replace h7 := h7.ext hE); (try replace h8 := h8.ext hE); (try replace HE := Lib.hid (HE.out.trans hE)); (try replace r0 := r0.ext hE); (try replace r1 := r1.ext hE); (try replace r2 := r2.ext hE); (try replace r3 := r3.ext hE); (try replace r4 := r4.ext hE); (try replace r5 := r5.ext hE); (try replace r6 := r6.ext hE)
  clear hE csa r1 r2
  have hq : ∀ w, (binOp .eql 27 (.agg #[.int .u64 (P : Int), .int .i64 (m : Int), .int .u64 (G8 : Int)]) (.agg #[.int .u64 (P : Int), .int .i64 (m : Int), .int .u64 (G8 : Int)])).run Tryd.prog w = .ok (.bool true) w := fun w => by rw [eqlP]; simp
  have hpg := pool_guard
  go_wp2_with (first | (refine wpList_load_blk (by rfl) 27 _ rfl rfl h5 Tryd.underlying27 rfl (by kernel_rfl) ?_) | (refine wpList_load_blk (by rfl) 27 _ rfl rfl h7 Tryd.underlying27 rfl (by kernel_rfl) ?_))
  go_ret
  exact ⟨rfl, HE.out⟩
end Go.Proofs.YticbjiddbjgikaaDoor
