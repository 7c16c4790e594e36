/- The document's answer for layer 3: Store. -/
import Derived.Test.YtcodgmahegofjaaRclr
namespace Go.Proofs.Ytcodgmahegofjaa
open Go.ChangeShapes Go.WideShapes Go.ChangeAt Go.RowKit
set_option linter.unusedVariables false
set_option linter.unusedSimpArgs false

theorem put_0 (W o v : Nat) : byteVs (rowN (putW W o 0 v) 8) = byteVs (bytesN W 8) := by
  rw [← rowN_bytes]
  congr 1
  exact rowN_congr fun k _ => by unfold putW; rw [if_neg (by omega)]
theorem put_step {W o v k : Nat} (h : o + k < 8) : (byteVs (rowN (putW W o k v) 8)).set (o + k) (.int .u8 ((byteN v k : Nat) : Int)) = byteVs (rowN (putW W o (k + 1) v) 8) := by
  apply List.ext_getElem
  · simp [byteVs, rowN_len]
  · intro i h1 h2
    have hi : i < 8 := by simpa [byteVs_len, rowN_len] using h2
    rw [List.getElem_set]
    simp only [byteVs, rowN, List.getElem_map, List.getElem_range]
    split
    · subst i
      unfold putW; rw [if_pos (by omega), show o + k - o = k by omega]
    · unfold putW
      by_cases c : o ≤ i ∧ i < o + k
      · rw [if_pos c, if_pos (by omega)]
      · rw [if_neg c, if_neg (by omega)]
theorem put_get (W o s v : Nat) : numN ((rowN (putW W o s v) 8).take 8) = newW W o s v := by
  rw [List.take_of_length_le (by rw [rowN_len]; omega)]; rfl
theorem bAt_bytes (v s k : Nat) (h : k < s) : bAt (bytesN v s) k = byteN v k := by unfold bAt; exact bytesN_at v s k h

/-- a row of bytes that is owned and not empty -/
theorem own_some {w : World} {base n : Nat} {v : Value} {xs : List Value} (h : w.ownsRow base 5 1 v n xs) (hn : 0 < n) : ∃ g cap, v = .slice (some ⟨g, 0, none⟩) n cap ∧ base ≤ g ∧ g < w.heap.size ∧ n ≤ cap := by
  rcases h.2 with ⟨_, h0⟩ | ⟨g, cap, cur, hv, hbg, hh, hcl, _⟩
  · omega
  · exact ⟨g, cap, hv, hbg, (Array.getElem?_eq_some_iff.1 hh).1, hcl⟩

set_option maxRecDepth 100000 in
theorem rstore_no (S : Nat) (A : Option Addr) (L : List (Nat × Nat)) (c a v : Nat) (n : Int) (a1 : a < 18446744073709551616) (h0 : errN n a S ≠ 0) (w : World) :
    Calls Try.prog 18 #[.agg #[.int .u64 (S : Int), .slice A L.length c], .int .u64 (a : Int), .int .i64 n, .int .u64 (v : Int)] w fun e w' =>
      e = .returned (.tuple #[.agg #[.int .u64 (S : Int), .slice A L.length c], .int .i64 ((errN n a S : Nat) : Int)]) ∧ Ext w w' := by
  have hd : (((errN n a S : Nat) : Int) != 0) = true := by simp; omega
  go_enter Try.func18, Try.ntmps18
  go_wp2_with fail
  refine (rwrong_c S A L.length c a n a1 _).mono ?_
  rintro e w1 ⟨rfl, hE⟩
  have hb0 : w1.cell? ⟨w.heap.size, 0, none⟩ = some (.int .u64 (S : Int)) := (hE.cell (p := ⟨w.heap.size, 0, none⟩) (by simp; omega)).trans (by simp)
  have hb1 : w1.cell? ⟨w.heap.size, 1, none⟩ = some (.slice A L.length c) := (hE.cell (p := ⟨w.heap.size, 1, none⟩) (by simp; omega)).trans (by simp)
  have hW := ext_blk hE
  have hz0 := (cell_of_row w1 _ 0 _ _ _ hW).trans rfl
  have hz1 := (cell_of_row w1 _ 1 _ _ _ hW).trans rfl
  have hf0 := frozen_of_row w1 _ 0 _ _ hW
  have hf1 := frozen_of_row w1 _ 1 _ _ hW
  have HE := Lib.hid ((((Ext.refl w).alloc _).alloc _).trans hE)
  clear hE
  go_wp2
  (try simp only [Exit.inBlock, Exit.then]); refine bodyPost_ret (results_two rfl _ _ _ _ _ _ _ rfl (set_two hW _ _) rfl Try.underlying25 (by kernel_rfl)) rfl ?_
  exact ⟨rfl, ext_set HE.out _ _⟩

set_option maxRecDepth 100000 in
set_option maxHeartbeats 4000000 in
theorem rstore_c (S : Nat) (A : Option Addr) (L : List (Nat × Nat)) (c a s v : Nat) (hL : RL (S / 8) L) (hS : S % 8 = 0) (a1 : a < 18446744073709551616) (v1 : v < 18446744073709551616) (hz : IsSize s) (h2 : a % s = 0) (h3 : a < S) (hn : L.length ≤ 40000) (w : World) (hr : RowL w A L c) :
    Calls Try.prog 18 #[.agg #[.int .u64 (S : Int), .slice A L.length c], .int .u64 (a : Int), .int .i64 (s : Int), .int .u64 (v : Int)] w (Stored S (storeL L a s v) w) := by
  have hW := wordL_lt hL (a / 8)
  have hN := newW_lt (wordL L (a / 8)) (a % 8) s v
  have h8 : a % 8 + s ≤ 8 := by rcases hz with rfl | rfl | rfl | rfl <;> omega
  have hz1 := hz.le
  go_enter Try.func18, Try.ntmps18
  go_wp2_with fail
  refine (rwrong_c S A L.length c a s a1 _).mono ?_
  rintro e w1 ⟨rfl, hE1⟩
  rw [errN_0 hz h2 h3]
  obtain ⟨W, hWW⟩ : ∃ W, W = (w.alloc (.cells #[.int .u64 (S : Int), .slice A L.length c] 25)).alloc (.cells #[.int .u64 0, .slice none 0 0] 25) := ⟨_, rfl⟩
  rw [← hWW] at hE1
  have hs0 : W.heap.size = w.heap.size + 2 := by rw [hWW, World.size_alloc, World.size_alloc]
  have HW := Lib.hid hWW
  have hE0 : Hid (Ext w W) := Lib.hid (by rw [hWW]; exact ((Ext.refl w).alloc _).alloc _)
  clear hWW
  obtain ⟨⟨hb0, hb1⟩, hb2, hb3⟩ := box_two (show Ext ((w.alloc _).alloc _) w1 by rw [← HW.out]; exact hE1)
  go_wp2_with fail
  refine (rword_c S A L c a a1 hL hS (by omega) _ (hr.1.ext (hE0.out.trans hE1))).mono ?_
  rintro e w2 ⟨rfl, hE2⟩
  go_wp2_with fail
  refine (rput_c _ 8 hW (by omega) _).mono ?_
  rintro e w3 ⟨bv, rfl, hob, hE3⟩
  rw [bytesN_len] at hob
  obtain ⟨g, cap, rfl, hg1, hg2, hcap⟩ := own_some hob (by omega)
  go_wp2_with fail
  refine (rput_c v s v1 (by omega) _).mono ?_
  rintro e w4 ⟨pv, rfl, hop, hE4⟩
  rw [bytesN_len] at hop
  obtain ⟨g2, cap2, rfl, hg3, hg4, hcap2⟩ := own_some hop (by omega)
  have hob4 := own_ext hob hE4
  have hs1 := hE1.size
  have hs2 := hE2.size
  have hb04 : w4.cell? ⟨w.heap.size, 0, none⟩ = some (.int .u64 (S : Int)) := (((hE2.trans hE3).trans hE4).cell (p := ⟨w.heap.size, 0, none⟩) (by simp; omega)).trans hb0
  have hb14 : w4.cell? ⟨w.heap.size, 1, none⟩ = some (.slice A L.length c) := (((hE2.trans hE3).trans hE4).cell (p := ⟨w.heap.size, 1, none⟩) (by simp; omega)).trans hb1
  have hEW : Hid (Ext W w2) := Lib.hid (hE1.trans hE2)
  have hE24 : Below w2.heap.size w2 w4 := Ext.trans (show Ext w2 w3 from hE3) hE4
  clear hb0 hb1 hb2 hb3 hob hE1 hE2 hE3 hE4
  go_wp2
  go_loopw [13] (fun i wr => ∃ k : Nat, k ≤ s ∧ i = .int .i64 k ∧ wr.ownsRow w2.heap.size 5 1 (.slice (some ⟨g, 0, none⟩) 8 cap) 8 (byteVs (rowN (putW (wordL L (a / 8)) (a % 8) k v) 8)) ∧ wr.ownsRow w3.heap.size 5 1 (.slice (some ⟨g2, 0, none⟩) s cap2) s (byteVs (bytesN v s)) ∧ Below w2.heap.size w2 wr) (fun i _ => (s - intOf i).toNat)
  case atStart => exact ⟨0, by omega, rfl, by rw [put_0]; exact hob4, hop, hE24⟩
  case round =>
    obtain ⟨k, hk, rfl, hob, hop, hE⟩ := hrel
    by_cases hlt : k < s
    · have hc1 : wr.cell? ⟨g2, k, none⟩ = some (.int .u8 ((byteN v k : Nat) : Int)) := by
        rw [hop.cellAt k (by omega), byteVs_get _ (by rw [bytesN_len]; exact hlt), bAt_bytes v s k hlt]
      have hc2 := hob.cellAt (a % 8 + k) (by omega)
      rw [byteVs_get _ (by rw [rowN_len]; omega)] at hc2
      have hf2 := hob.frozenAt (a % 8 + k)
      obtain ⟨hob', hgr⟩ := hob.stored (a % 8 + k) (.int .u8 ((byteN v k : Nat) : Int))
      rw [put_step (by omega)] at hob'
      have hop' := ownsRow_setCell_below (a := ⟨g, a % 8 + k, none⟩) hop hg2 (.int .u8 ((byteN v k : Nat) : Int))
      have hE' := Below.setCell (p := ⟨g, a % 8 + k, none⟩) hE hg1 (.int .u8 ((byteN v k : Nat) : Int))
      have Hn := Lib.hid (And.intro hob' (And.intro hop' hE'))
      clear hob hop hob' hop' hE' hgr hob4
      have hi1 : ((a : Int) % 8 + (k : Int)).toNat = a % 8 + k := by omega
      have hi2 : (a : Int) % 8 + (k : Int) < 8 := by omega
      go_wp2
      go_roundw
      case rel => exact ⟨k + 1, by omega, by go_num, Hn.out.1, Hn.out.2.1, Hn.out.2.2⟩
      case measure => simp [intOf]; omega
    · have hk' : k = s := by omega
      subst hk'
      obtain ⟨A5, c5, hv5, hsl⟩ := own_slb_n hob (rowN_len _ _)
      injection hv5 with e1 e2 e3
      subst e1 e3
      have hgd := rget2_c (some ⟨g, 0, none⟩) (rowN (putW (wordL L (a / 8)) (a % 8) k v) 8) cap (rowN_is (putW_lt _ _ _ _) 8) (by rw [rowN_len]; omega) wr.drew (show SlB wr.drew _ _ from hsl)
      rw [put_get, rowN_len] at hgd
      have hEr : Ext w2 wr := hE
      have hb0r : wr.cell? ⟨w.heap.size, 0, none⟩ = some (.int .u64 (S : Int)) := (hEr.cell (p := ⟨w.heap.size, 0, none⟩) (by simp; omega)).trans (((hE24.cell (p := ⟨w.heap.size, 0, none⟩) (by simp; omega)).symm).trans hb04)
      have hb1r : wr.cell? ⟨w.heap.size, 1, none⟩ = some (.slice A L.length c) := (hEr.cell (p := ⟨w.heap.size, 1, none⟩) (by simp; omega)).trans (((hE24.cell (p := ⟨w.heap.size, 1, none⟩) (by simp; omega)).symm).trans hb14)
      have hEWr : Ext W wr := hEW.out.trans hEr
      have hrr : RowL wr A L c := hr.ext (hE0.out.trans hEWr)
      clear hob hop hE hsl hb04 hb14 hE24 hob4
      go_wp2
      refine wp_region_seq [(0, false), (1, false), (2, false), (3, false), (4, true), (5, true), (6, true), (7, false)] (Below (w.heap.size + 1)) (by kernel_rfl) (by kernel_rfl) (Below.refl _) (fun _ _ _ => Below.trans) ?_; simp only [List.map, nth_z, nth_s]
      refine seq_value (.agg #[.int .u64 (S : Int), .slice A L.length c]) (by rfl) (fun x hx => ?_) ?_
      · have hq0 := (Below.cell hx (p := ⟨w.heap.size, 0, none⟩) (by simp)).trans (show wr.drew.cell? _ = _ from hb0r)
        have hq1 := (Below.cell hx (p := ⟨w.heap.size, 1, none⟩) (by simp)).trans (show wr.drew.cell? _ = _ from hb1r)
        simp [go_sem, execOp, Act.eval, hq0, hq1]
      intro K hK; simp only [Act.put, List.setIfInBounds_toArray, List.set_cons_zero, List.set_cons_succ]; refine hK _ ?_; clear hK K
      (repeat (first | (refine seq_skip (by rfl) ?_; intro K hK; simp only [Act.put, List.setIfInBounds_toArray, List.set_cons_zero, List.set_cons_succ]; refine hK _ ?_; clear hK K) | (refine seq_skipc (by rfl) ?_; intro K hK; simp only [Act.put, List.setIfInBounds_toArray, List.set_cons_zero, List.set_cons_succ]; refine hK _ ?_; clear hK K) | (refine seq_read (by rfl) (by rfl) ?_; intro K hK; go_big_quiet_op; first | go_big_quiet_on | (refine ⟨_, fun _ _ => rfl, ?_⟩; go_big_quiet_on))))
      refine seq_call (hgd) rfl Try.func31 (by kernel_rfl) (by kernel_rfl) (by rfl) (by rfl) ?_; intro K hK; rintro e w' ⟨rfl, rfl⟩; refine ⟨_, rfl, (Below.refl _ _), ?_⟩; simp only [Act.put, List.setIfInBounds_toArray, List.set_cons_zero, List.set_cons_succ]; refine hK _ _ ?_; clear hK K
      refine seq_call (rset_c S A L c (a / 8) (newW (wordL L (a / 8)) (a % 8) k v) (S / 8) (by omega) hN hL hn (storeL L a k v) rfl _ (hrr.ext (Ext.refl wr).drew)) rfl Try.func34 (by kernel_rfl) (by kernel_rfl) (by rfl) (by rfl) ?_; intro K hK; rintro e w' ⟨u5, rfl, hown, hE5⟩; refine ⟨_, rfl, (Below.mono hE5 (show w.heap.size + 1 ≤ wr.heap.size by have := hEWr.size; omega)), ?_⟩; simp only [Act.put, List.setIfInBounds_toArray, List.set_cons_zero, List.set_cons_succ]; refine hK _ _ ?_; clear hK K
      obtain ⟨A6, c6, rfl, hr6⟩ := own_row hown
      have hE6 : Ext W w' := hEWr.trans ((Ext.refl wr).drew.trans hE5)
      have hW7 := ext_blk (show Ext ((w.alloc _).alloc _) w' by rw [← HW.out]; exact hE6)
      have hz0 := (cell_of_row w' _ 0 _ _ _ hW7).trans rfl
      have hz1 := (cell_of_row w' _ 1 _ _ _ hW7).trans rfl
      have hf0 := frozen_of_row w' _ 0 _ _ hW7
      have hf1 := frozen_of_row w' _ 1 _ _ hW7
      have hlast : w.heap.size + 1 < wr.drew.heap.size := (show w.heap.size + 1 < wr.heap.size by have := hEWr.size; omega)
      refine seq_store ((w'.setCell ⟨w.heap.size + 1, 0, none⟩ (.int .u64 (S : Int))).setCell ⟨w.heap.size + 1, 1, none⟩ (.slice A6 (storeL L a k v).length c6)) (by rfl) ?_ (((Below.refl _ _).setCell (by simp) _).setCell (by simp) _) ?_; (simp [go_sem, execOp, Act.eval, hz0, hz1, hf0, hf1]); intro K hK; simp only [Act.put, List.setIfInBounds_toArray, List.set_cons_zero, List.set_cons_succ]; refine hK _ _ ?_; clear hK K
      (repeat (first | (refine seq_skip (by rfl) ?_; intro K hK; simp only [Act.put, List.setIfInBounds_toArray, List.set_cons_zero, List.set_cons_succ]; refine hK _ ?_; clear hK K) | (refine seq_skipc (by rfl) ?_; intro K hK; simp only [Act.put, List.setIfInBounds_toArray, List.set_cons_zero, List.set_cons_succ]; refine hK _ ?_; clear hK K) | (refine seq_read (by rfl) (by rfl) ?_; intro K hK; go_big_quiet_op; first | go_big_quiet_on | (refine ⟨_, fun _ _ => rfl, ?_⟩; go_big_quiet_on))))
      refine seq_done ?_
      go_wp2
      (try simp only [Exit.inBlock, Exit.then]); refine bodyPost_ret (results_two rfl _ _ _ _ _ _ _ rfl (set_two hW7 _ _) rfl Try.underlying25 (by kernel_rfl)) rfl ?_
      exact ⟨_, rfl, own_set (w := w) (w' := w') hlast hown _ _, ext_set (hE0.out.trans hE6) _ _⟩
end Go.Proofs.Ytcodgmahegofjaa
