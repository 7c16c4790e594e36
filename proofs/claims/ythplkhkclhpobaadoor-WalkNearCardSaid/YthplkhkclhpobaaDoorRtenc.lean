/- The document's answers for walks (atlasref10): Walk; Physical of both. -/
import Derived.Test.YthplkhkclhpobaaDoorRtenb
namespace Go.Proofs.YthplkhkclhpobaaDoor
open Go.ChangeShapes Go.WideShapes Go.ChangeAt Go.RowKit
set_option linter.unusedVariables false
set_option linter.unusedSimpArgs false
set_option maxRecDepth 10000

theorem leaf_d {S : Nat} {L : List (Nat × Nat)} {f : Lf} (h : LeafOf S L f) : f.pt.d = (entN L f.at').d := by rw [h.pt]; unfold globP; rfl
set_option maxHeartbeats 4000000 in
theorem rwalk_c {w : World} {S : Nat} {A : Option Addr} {L : List (Nat × Nat)} {c : Nat} (hM : Mem w S A L c) (hf : L.length ≤ 999) {r a : Nat} (hr : r < 17592186044416) (a1 : a < 18446744073709551616) (y : Wy) (hy : wyIs y = true) :
    Calls Tryd.prog 17 #[.agg #[.int .u64 (S : Int), .slice A L.length c], .int .u64 (r : Int), .int .u64 (a : Int), .agg (wyC y)] w (Walked A S L r a y w) := by
  obtain ⟨W0, hW⟩ : ∃ W0, W0 = ((((w.alloc (.cells #[.int .u64 (S : Int), .slice A L.length c] 25)).alloc (.cells (wyC y) 39)).alloc (.cells #[.int .u64 0, .slice none 0 0] 25)).alloc (.cells #[.int .i64 0, .int .u64 0, .bool false, .bool false, .bool false, .bool false, .bool false, .bool false, .bool false, .bool false, .int .u64 0, .int .u64 0, .int .u64 0] 31)).alloc (.cells #[.bool false, .int .i64 0, .int .u64 0] 33) := ⟨_, rfl⟩
  have HE : Hid (Ext w W0) := Lib.hid (by rw [hW]; exact (((((Ext.refl w).alloc _).alloc _).alloc _).alloc _).alloc _)
  have hb : Blk W0 w.heap.size 25 #[.int .u64 (S : Int), .slice A L.length c] := by rw [hW]; exact ((((Blk.new w _ _).alloc _).alloc _).alloc _).alloc _
  have h2 : Blk W0 (w.heap.size + 1) 39 (wyC y) := by rw [hW]; exact (((blk_at (by simp)).alloc _).alloc _).alloc _
  have hc : Blk W0 (w.heap.size + 1 + 1) 25 #[.int .u64 0, .slice none 0 0] := by rw [hW]; exact ((blk_at (by simp)).alloc _).alloc _
  have hd : Blk W0 (w.heap.size + 1 + 1 + 1) 31 #[.int .i64 0, .int .u64 0, .bool false, .bool false, .bool false, .bool false, .bool false, .bool false, .bool false, .bool false, .int .u64 0, .int .u64 0, .int .u64 0] := by rw [hW]; exact (blk_at (by simp)).alloc _
  have hz : Blk W0 (w.heap.size + 1 + 1 + 1 + 1) 33 #[.bool false, .int .i64 0, .int .u64 0] := by rw [hW]; exact blk_at (by simp)
  have HW := Lib.hid hW
  have hbL := hb
  have h2L := h2
  rw [hW] at hbL h2L
  clear hW
  obtain ⟨k, hk3, hk⟩ : ∃ k : Nat, k < 3 ∧ y.kd = (k : Int) := by
    have := (wy_cases hy).1
    exact ⟨y.kd.toNat, by omega, by omega⟩
  have hy0 : (wyC y)[0]? = some (.int .i64 (k : Int)) := by rw [wyC_eq, hk]; rfl
  have HKD : Hid (y.kd.toNat = k ∧ (y.kd == 2) = ((k : Int) == 2)) := Lib.hid ⟨by omega, by rw [hk]⟩
  have h2c := (h2L.cell 0).trans hy0
  have hlk := fun w (hM : Mem w S A L c) => rlook_c hM hr a1 k hk3
  clear hk
  have hal := fun w (p : Pm) => ral8_c p y hy w
  have hpg := rpage_x k hk3 a
  have hleaf : (lookN S L r a).so = 0 → LeafOf S L (lookN S L r a).lf := fun h => (look_leaf h).2
  have hmk := fun w (hM : Mem w S A L c) (h : (lookN S L r a).so = 0) (d : Bool) => rmark_c hM hf (lookN S L r a).lf (hleaf h).al (hleaf h).lt (leaf_d (hleaf h)) d
  have hlf0 : (lookN S L r a).so ≠ 0 → (lookN S L r a).lf = zLf := fun h => (look_none h).2
  by_cases hso : (lookN S L r a).so = 0
  case neg =>
    have H := Lib.hid (walk_fault (y := y) hso)
    have HZ := Lib.hid (hlf0 hso)
    have hb1 : (ftC (fltF (lookN S L r a).so k a))[0]? = some (.bool true) := by unfold fltF; rw [if_neg hso, ftC_def]; rfl
    clear hmk hleaf hlf0 hso
    generalize (lookN S L r a).lf = f at hlk HZ
    generalize (lookN S L r a).so = o at H hb1 hlk
    generalize hF : fltF o k a = F at hlk hb1
    have HF0 := Lib.hid hF
    clear hF
    go_enter Tryd.func17, Tryd.ntmps17
    go_wp2_with (refine wpList_load_blk (by rfl) 25 _ rfl rfl (by with_reducible assumption) Tryd.underlying25 rfl (by kernel_rfl) ?_)
    refine (hlk _ (hM.ext (HW.out ▸ HE.out))).mono ?_
    rintro e w5 ⟨rfl, hE⟩
    rw [← HW.out] at hE
    (try replace hb := hb.ext hE); (try replace hc := hc.ext hE); (try replace hd := hd.ext hE); (try replace hz := hz.ext hE); (try replace h1 := h1.ext hE); (try replace h2 := h2.ext hE); (try replace h3 := h3.ext hE); (try replace h4 := h4.ext hE); (try replace h5 := h5.ext hE); (try replace hM := hM.ext hE); (try replace hO := hO.ext hE); (try replace HE := Lib.hid (HE.out.trans hE))
    clear hE HW hbL h2L h2c hlk
    have hs0 : w.heap.size + 5 ≤ w5.heap.size := by have := hz.lt; omega
    have hE := (Ext.refl (w5)).alloc (.cells (#[.int .i64 0, .int .u64 0, .bool false, .bool false, .bool false, .bool false, .bool false, .bool false, .bool false, .bool false, .int .u64 0, .int .u64 0, .int .u64 0]) 31); have hnew := Blk.new (w5) 31 (#[.int .i64 0, .int .u64 0, .bool false, .bool false, .bool false, .bool false, .bool false, .bool false, .bool false, .bool false, .int .u64 0, .int .u64 0, .int .u64 0]); (try replace hb := hb.ext hE); (try replace hc := hc.ext hE); (try replace hd := hd.ext hE); (try replace hz := hz.ext hE); (try replace h1 := h1.ext hE); (try replace h2 := h2.ext hE); (try replace h3 := h3.ext hE); (try replace h4 := h4.ext hE); (try replace h5 := h5.ext hE); (try replace hM := hM.ext hE); (try replace hO := hO.ext hE); (try replace HE := Lib.hid (HE.out.trans hE)); clear hE; have h1 := hnew; clear hnew
    have hE := (Ext.refl (w5.alloc (.cells #[.int .i64 0, .int .u64 0, .bool false, .bool false, .bool false, .bool false, .bool false, .bool false, .bool false, .bool false, .int .u64 0, .int .u64 0, .int .u64 0] 31))).alloc (.cells (#[.bool false, .int .i64 0, .int .u64 0]) 33); have hnew := Blk.new (w5.alloc (.cells #[.int .i64 0, .int .u64 0, .bool false, .bool false, .bool false, .bool false, .bool false, .bool false, .bool false, .bool false, .int .u64 0, .int .u64 0, .int .u64 0] 31)) 33 (#[.bool false, .int .i64 0, .int .u64 0]); (try replace hb := hb.ext hE); (try replace hc := hc.ext hE); (try replace hd := hd.ext hE); (try replace hz := hz.ext hE); (try replace h1 := h1.ext hE); (try replace h2 := h2.ext hE); (try replace h3 := h3.ext hE); (try replace h4 := h4.ext hE); (try replace h5 := h5.ext hE); (try replace hM := hM.ext hE); (try replace hO := hO.ext hE); (try replace HE := Lib.hid (HE.out.trans hE)); clear hE; have h3 := hnew; clear hnew
    rw [World.size_alloc] at h3
    have h1a := h1
    have h3a := h3.apart (show w5.heap.size + 1 ≠ w5.heap.size by omega) (lfC f)
    have key := (h1).row (lfC f); clear h1; (try replace hb := Blk.apart hb (show _ ≠ w5.heap.size by omega) (lfC f)); (try replace hc := Blk.apart hc (show _ ≠ w5.heap.size by omega) (lfC f)); (try replace hd := Blk.apart hd (show _ ≠ w5.heap.size by omega) (lfC f)); (try replace hz := Blk.apart hz (show _ ≠ w5.heap.size by omega) (lfC f)); (try replace h1 := Blk.apart h1 (show _ ≠ w5.heap.size by omega) (lfC f)); (try replace h2 := Blk.apart h2 (show _ ≠ w5.heap.size by omega) (lfC f)); (try replace h3 := Blk.apart h3 (show _ ≠ w5.heap.size by omega) (lfC f)); (try replace h4 := Blk.apart h4 (show _ ≠ w5.heap.size by omega) (lfC f)); (try replace h5 := Blk.apart h5 (show _ ≠ w5.heap.size by omega) (lfC f)); have h1 := key; clear key; replace HE := Lib.hid (HE.out.row (show _ ≤ w5.heap.size by omega) (lfC f))
    have key := (h3).row (ftC F); clear h3; (try replace hb := Blk.apart hb (show _ ≠ w5.heap.size + 1 by omega) (ftC F)); (try replace hc := Blk.apart hc (show _ ≠ w5.heap.size + 1 by omega) (ftC F)); (try replace hd := Blk.apart hd (show _ ≠ w5.heap.size + 1 by omega) (ftC F)); (try replace hz := Blk.apart hz (show _ ≠ w5.heap.size + 1 by omega) (ftC F)); (try replace h1 := Blk.apart h1 (show _ ≠ w5.heap.size + 1 by omega) (ftC F)); (try replace h2 := Blk.apart h2 (show _ ≠ w5.heap.size + 1 by omega) (ftC F)); (try replace h3 := Blk.apart h3 (show _ ≠ w5.heap.size + 1 by omega) (ftC F)); (try replace h4 := Blk.apart h4 (show _ ≠ w5.heap.size + 1 by omega) (ftC F)); (try replace h5 := Blk.apart h5 (show _ ≠ w5.heap.size + 1 by omega) (ftC F)); have h3 := key; clear key; replace HE := Lib.hid (HE.out.row (show _ ≤ w5.heap.size + 1 by omega) (ftC F))
    have hb1x := (h3.cell 0).trans hb1
    go_wp2_with (first | (refine wpList_store_row rfl 31 _ _ rfl _ (lfC _) rfl rfl _ _ h1a (lf_info _) (by simp [lfC_size]) (lfC_one _) ?_) | (refine wpList_store_row rfl 33 _ _ rfl _ (ftC _) rfl rfl _ _ h3a (ft_info _) (by simp [ftC_size]) (ftC_one _) ?_))
    clear h1a h3a hb1x
    generalize ((((w5.alloc (.cells #[.int .i64 0, .int .u64 0, .bool false, .bool false, .bool false, .bool false, .bool false, .bool false, .bool false, .bool false, .int .u64 0, .int .u64 0, .int .u64 0] 31)).alloc (.cells #[.bool false, .int .i64 0, .int .u64 0] 33)).setRow w5.heap.size (lfC f)).setRow (w5.heap.size + 1) (ftC F)) = X at hb hc hd hz h1 h2 h3 HE ⊢
    refine wp_region_seq [(0, false), (1, false), (2, false), (3, true), (4, true), (5, true)] (Gap (w.heap.size + 1 + 1) (w.heap.size + 5)) (by kernel_rfl) (by kernel_rfl) (Gap.refl _ _) (fun _ _ _ => Gap.trans) ?_; simp only [List.map, nth_z, nth_s]
    refine seq_load rfl rfl (fun x hx => Gap.blk hx (hb.drew) (by omega)) rfl Tryd.underlying25 (by kernel_rfl) (by rfl) ?_; intro K hK; simp only [Act.put, List.setIfInBounds_toArray, List.set_cons_zero, List.set_cons_succ]; refine hK _ ?_; clear hK K
    refine seq_load rfl rfl (fun x hx => Gap.blk hx (h1.drew) (by omega)) rfl Tryd.underlying31 (lf_info _) (by rfl) ?_; intro K hK; simp only [Act.put, List.setIfInBounds_toArray, List.set_cons_zero, List.set_cons_succ]; refine hK _ ?_; clear hK K
    refine seq_load rfl rfl (fun x hx => Gap.blk hx (h3.drew) (by omega)) rfl Tryd.underlying33 (ft_info _) (by rfl) ?_; intro K hK; simp only [Act.put, List.setIfInBounds_toArray, List.set_cons_zero, List.set_cons_succ]; refine hK _ ?_; clear hK K
    refine seq_store_row rfl rfl rfl (hc.drew) (by kernel_rfl) (by rfl) (by simp [Value.oneCell']) (by rfl) (Gap.row _ (by omega) (by omega) _) ?_; intro K hK; simp only [Act.put, List.setIfInBounds_toArray, List.set_cons_zero, List.set_cons_succ]; refine hK _ _ ?_; clear hK K
    refine seq_store_row rfl rfl rfl ((hd.drew.apart (by omega) _)) (lf_info _) (by simp [lfC_size]) (lfC_one _) (by rfl) (Gap.row _ (by omega) (by omega) _) ?_; intro K hK; simp only [Act.put, List.setIfInBounds_toArray, List.set_cons_zero, List.set_cons_succ]; refine hK _ _ ?_; clear hK K
    refine seq_store_row rfl rfl rfl (((hz.drew.apart (by omega) _).apart (by omega) _)) (ft_info _) (by simp [ftC_size]) (ftC_one _) (by rfl) (Gap.row _ (by omega) (by omega) _) ?_; intro K hK; simp only [Act.put, List.setIfInBounds_toArray, List.set_cons_zero, List.set_cons_succ]; refine hK _ _ ?_; clear hK K
    refine seq_done ?_
    go_wp2
    (try simp only [Exit.inBlock, Exit.then]); (try rw [Exit.noGoto_ret]); refine bodyPost_ret (results_ccc rfl _ _ rfl rfl rfl ((((hc.drew.row _).apart (by omega) _).apart (by omega) _)) ((((hd.drew.apart (by omega) _).row _).apart (by omega) _)) ((((hz.drew.apart (by omega) _).apart (by omega) _).row _)) Tryd.underlying25 rfl (by kernel_rfl) Tryd.underlying31 rfl (by exact lf_info _) Tryd.underlying33 rfl (by exact ft_info _)) rfl ?_
    exact ⟨A, c, by rw [H.out.1, H.out.2.1, H.out.2.2, HKD.out.1, HF0.out, HZ.out], by rw [H.out.2.1]; exact hM.ext (((HE.out.drew.row (by omega) _).row (by omega) _).row (by omega) _), fun lo hi _ ho => by rw [H.out.2.1]; exact ho, ((HE.out.drew.row (by omega) _).row (by omega) _).row (by omega) _⟩
  case pos =>
    have hb1 : (ftC zFt)[0]? = some (.bool false) := by rw [ftC_z]; rfl
    rw [hso, flt_zero] at hlk
    have HN := Lib.hid (fun h2 => walk_not (y := y) hso h2)
    have HY := Lib.hid (fun h2 => walk_yes (y := y) hso h2)
    have hm2 := fun w hM d => hmk w hM hso d
    clear hmk hleaf hlf0 hso
    generalize (lookN S L r a).lf = f at hlk HN HY hm2
    generalize hF : zFt = F at hlk hb1
    cases hpa : pmAl (permP f.pt) y
    · have H := Lib.hid (HN.out hpa)
      have hal2 := hal
      clear hm2 HN HY
      go_enter Tryd.func17, Tryd.ntmps17
      go_wp2_with (refine wpList_load_blk (by rfl) 25 _ rfl rfl (by with_reducible assumption) Tryd.underlying25 rfl (by kernel_rfl) ?_)
      refine (hlk _ (hM.ext (HW.out ▸ HE.out))).mono ?_
      rintro e w5 ⟨rfl, hE⟩
      rw [← HW.out] at hE
      (try replace hb := hb.ext hE); (try replace hc := hc.ext hE); (try replace hd := hd.ext hE); (try replace hz := hz.ext hE); (try replace h1 := h1.ext hE); (try replace h2 := h2.ext hE); (try replace h3 := h3.ext hE); (try replace h4 := h4.ext hE); (try replace h5 := h5.ext hE); (try replace hM := hM.ext hE); (try replace hO := hO.ext hE); (try replace HE := Lib.hid (HE.out.trans hE))
      clear hE HW hbL h2L h2c hlk
      have hs0 : w.heap.size + 5 ≤ w5.heap.size := by have := hz.lt; omega
      have hE := (Ext.refl (w5)).alloc (.cells (#[.int .i64 0, .int .u64 0, .bool false, .bool false, .bool false, .bool false, .bool false, .bool false, .bool false, .bool false, .int .u64 0, .int .u64 0, .int .u64 0]) 31); have hnew := Blk.new (w5) 31 (#[.int .i64 0, .int .u64 0, .bool false, .bool false, .bool false, .bool false, .bool false, .bool false, .bool false, .bool false, .int .u64 0, .int .u64 0, .int .u64 0]); (try replace hb := hb.ext hE); (try replace hc := hc.ext hE); (try replace hd := hd.ext hE); (try replace hz := hz.ext hE); (try replace h1 := h1.ext hE); (try replace h2 := h2.ext hE); (try replace h3 := h3.ext hE); (try replace h4 := h4.ext hE); (try replace h5 := h5.ext hE); (try replace hM := hM.ext hE); (try replace hO := hO.ext hE); (try replace HE := Lib.hid (HE.out.trans hE)); clear hE; have h1 := hnew; clear hnew
      have hE := (Ext.refl (w5.alloc (.cells #[.int .i64 0, .int .u64 0, .bool false, .bool false, .bool false, .bool false, .bool false, .bool false, .bool false, .bool false, .int .u64 0, .int .u64 0, .int .u64 0] 31))).alloc (.cells (#[.bool false, .int .i64 0, .int .u64 0]) 33); have hnew := Blk.new (w5.alloc (.cells #[.int .i64 0, .int .u64 0, .bool false, .bool false, .bool false, .bool false, .bool false, .bool false, .bool false, .bool false, .int .u64 0, .int .u64 0, .int .u64 0] 31)) 33 (#[.bool false, .int .i64 0, .int .u64 0]); (try replace hb := hb.ext hE); (try replace hc := hc.ext hE); (try replace hd := hd.ext hE); (try replace hz := hz.ext hE); (try replace h1 := h1.ext hE); (try replace h2 := h2.ext hE); (try replace h3 := h3.ext hE); (try replace h4 := h4.ext hE); (try replace h5 := h5.ext hE); (try replace hM := hM.ext hE); (try replace hO := hO.ext hE); (try replace HE := Lib.hid (HE.out.trans hE)); clear hE; have h3 := hnew; clear hnew
      rw [World.size_alloc] at h3
      have h1a := h1
      have h3a := h3.apart (show w5.heap.size + 1 ≠ w5.heap.size by omega) (lfC f)
      have key := (h1).row (lfC f); clear h1; (try replace hb := Blk.apart hb (show _ ≠ w5.heap.size by omega) (lfC f)); (try replace hc := Blk.apart hc (show _ ≠ w5.heap.size by omega) (lfC f)); (try replace hd := Blk.apart hd (show _ ≠ w5.heap.size by omega) (lfC f)); (try replace hz := Blk.apart hz (show _ ≠ w5.heap.size by omega) (lfC f)); (try replace h1 := Blk.apart h1 (show _ ≠ w5.heap.size by omega) (lfC f)); (try replace h2 := Blk.apart h2 (show _ ≠ w5.heap.size by omega) (lfC f)); (try replace h3 := Blk.apart h3 (show _ ≠ w5.heap.size by omega) (lfC f)); (try replace h4 := Blk.apart h4 (show _ ≠ w5.heap.size by omega) (lfC f)); (try replace h5 := Blk.apart h5 (show _ ≠ w5.heap.size by omega) (lfC f)); have h1 := key; clear key; replace HE := Lib.hid (HE.out.row (show _ ≤ w5.heap.size by omega) (lfC f))
      have key := (h3).row (ftC F); clear h3; (try replace hb := Blk.apart hb (show _ ≠ w5.heap.size + 1 by omega) (ftC F)); (try replace hc := Blk.apart hc (show _ ≠ w5.heap.size + 1 by omega) (ftC F)); (try replace hd := Blk.apart hd (show _ ≠ w5.heap.size + 1 by omega) (ftC F)); (try replace hz := Blk.apart hz (show _ ≠ w5.heap.size + 1 by omega) (ftC F)); (try replace h1 := Blk.apart h1 (show _ ≠ w5.heap.size + 1 by omega) (ftC F)); (try replace h2 := Blk.apart h2 (show _ ≠ w5.heap.size + 1 by omega) (ftC F)); (try replace h3 := Blk.apart h3 (show _ ≠ w5.heap.size + 1 by omega) (ftC F)); (try replace h4 := Blk.apart h4 (show _ ≠ w5.heap.size + 1 by omega) (ftC F)); (try replace h5 := Blk.apart h5 (show _ ≠ w5.heap.size + 1 by omega) (ftC F)); have h3 := key; clear key; replace HE := Lib.hid (HE.out.row (show _ ≤ w5.heap.size + 1 by omega) (ftC F))
      have hb1x := (h3.cell 0).trans hb1
      go_wp2_with (first | (refine wpList_store_row rfl 31 _ _ rfl _ (lfC _) rfl rfl _ _ h1a (lf_info _) (by simp [lfC_size]) (lfC_one _) ?_) | (refine wpList_store_row rfl 33 _ _ rfl _ (ftC _) rfl rfl _ _ h3a (ft_info _) (by simp [ftC_size]) (ftC_one _) ?_))
      clear h1a h3a hb1x
      generalize ((((w5.alloc (.cells #[.int .i64 0, .int .u64 0, .bool false, .bool false, .bool false, .bool false, .bool false, .bool false, .bool false, .bool false, .int .u64 0, .int .u64 0, .int .u64 0] 31)).alloc (.cells #[.bool false, .int .i64 0, .int .u64 0] 33)).setRow w5.heap.size (lfC f)).setRow (w5.heap.size + 1) (ftC F)) = X at hb hc hd hz h1 h2 h3 HE ⊢
      (try replace hb := Blk.drew hb); (try replace hc := Blk.drew hc); (try replace hd := Blk.drew hd); (try replace hz := Blk.drew hz); (try replace h1 := Blk.drew h1); (try replace h2 := Blk.drew h2); (try replace h3 := Blk.drew h3); (try replace h4 := Blk.drew h4); (try replace h5 := Blk.drew h5); replace HE := Lib.hid HE.out.drew
      refine wp_region_seq [(0, false), (1, false), (3, false), (2, true), (4, true), (5, false)] Ext (by kernel_rfl) (by kernel_rfl) Ext.refl (fun _ _ _ => Ext.trans) ?_; simp only [List.map, nth_z, nth_s]
      (repeat (first | (refine seq_skip (by rfl) ?_; intro K hK; simp only [Act.put, List.setIfInBounds_toArray, List.set_cons_zero, List.set_cons_succ]; refine hK _ ?_; clear hK K) | (refine seq_skipc (by rfl) ?_; intro K hK; simp only [Act.put, List.setIfInBounds_toArray, List.set_cons_zero, List.set_cons_succ]; refine hK _ ?_; clear hK K) | (refine seq_read (by rfl) (by rfl) ?_; intro K hK; go_big_quiet_op; first | go_big_quiet_on | (refine ⟨_, fun _ _ => rfl, ?_⟩; go_big_quiet_on))))
      refine seq_load_part rfl rfl (fun x hx => Blk.ext (h1) hx) (lfC_pt f) rfl Tryd.underlying29 (pt_info _) (by rfl) ?_; intro K hK; simp only [Act.put, List.setIfInBounds_toArray, List.set_cons_zero, List.set_cons_succ]; refine hK _ ?_; clear hK K
      refine seq_load rfl rfl (fun x hx => Blk.ext (h2) hx) rfl Tryd.underlying39 (wy_info _) (by rfl) ?_; intro K hK; simp only [Act.put, List.setIfInBounds_toArray, List.set_cons_zero, List.set_cons_succ]; refine hK _ ?_; clear hK K
      refine seq_call (rperm_c _ _) rfl Tryd.func24 (by kernel_rfl) (by kernel_rfl) (by rfl) (by rfl) ?_; intro K hK; rintro e w' ⟨rfl, hE⟩; refine ⟨_, rfl, hE, ?_⟩; simp only [Act.put, List.setIfInBounds_toArray, List.set_cons_zero, List.set_cons_succ]; refine hK _ _ ?_; clear hK K; (try replace hb := hb.ext hE); (try replace hc := hc.ext hE); (try replace hd := hd.ext hE); (try replace hz := hz.ext hE); (try replace h1 := h1.ext hE); (try replace h2 := h2.ext hE); (try replace h3 := h3.ext hE); (try replace h4 := h4.ext hE); (try replace h5 := h5.ext hE); (try replace hM := hM.ext hE); (try replace hO := hO.ext hE); (try replace HE := Lib.hid (HE.out.trans hE))
      clear hE
      refine seq_call (hal _ _) rfl Tryd.func23 (by kernel_rfl) (by kernel_rfl) (by rfl) (by rfl) ?_; intro K hK; rintro e w' ⟨rfl, hE⟩; refine ⟨_, rfl, hE, ?_⟩; simp only [Act.put, List.setIfInBounds_toArray, List.set_cons_zero, List.set_cons_succ]; refine hK _ _ ?_; clear hK K; (try replace hb := hb.ext hE); (try replace hc := hc.ext hE); (try replace hd := hd.ext hE); (try replace hz := hz.ext hE); (try replace h1 := h1.ext hE); (try replace h2 := h2.ext hE); (try replace h3 := h3.ext hE); (try replace h4 := h4.ext hE); (try replace h5 := h5.ext hE); (try replace hM := hM.ext hE); (try replace hO := hO.ext hE); (try replace HE := Lib.hid (HE.out.trans hE))
      clear hE
      rw [hpa]
      (repeat (first | (refine seq_skip (by rfl) ?_; intro K hK; simp only [Act.put, List.setIfInBounds_toArray, List.set_cons_zero, List.set_cons_succ]; refine hK _ ?_; clear hK K) | (refine seq_skipc (by rfl) ?_; intro K hK; simp only [Act.put, List.setIfInBounds_toArray, List.set_cons_zero, List.set_cons_succ]; refine hK _ ?_; clear hK K) | (refine seq_read (by rfl) (by rfl) ?_; intro K hK; go_big_quiet_op; first | go_big_quiet_on | (refine ⟨_, fun _ _ => rfl, ?_⟩; go_big_quiet_on))))
      refine seq_done ?_
      clear hpa
      go_wp2
      (try replace hb := Blk.drew hb); (try replace hc := Blk.drew hc); (try replace hd := Blk.drew hd); (try replace hz := Blk.drew hz); (try replace h1 := Blk.drew h1); (try replace h2 := Blk.drew h2); (try replace h3 := Blk.drew h3); (try replace h4 := Blk.drew h4); (try replace h5 := Blk.drew h5); replace HE := Lib.hid HE.out.drew
      refine wp_region_seq [(0, false), (1, false), (2, false), (3, false), (4, false), (5, true), (6, true), (7, true), (8, true)] (Gap (w.heap.size + 1 + 1) (w.heap.size + 5)) (by kernel_rfl) (by kernel_rfl) (Gap.refl _ _) (fun _ _ _ => Gap.trans) ?_; simp only [List.map, nth_z, nth_s]
      refine seq_load rfl rfl (fun x hx => Gap.blk hx (hb) (by omega)) rfl Tryd.underlying25 (by kernel_rfl) (by rfl) ?_; intro K hK; simp only [Act.put, List.setIfInBounds_toArray, List.set_cons_zero, List.set_cons_succ]; refine hK _ ?_; clear hK K
      refine seq_build_as rfl (lf_build0) (by rfl) ?_; intro K hK; simp only [Act.put, List.setIfInBounds_toArray, List.set_cons_zero, List.set_cons_succ]; refine hK _ ?_; clear hK K
      (repeat (first | (refine seq_skip (by rfl) ?_; intro K hK; simp only [Act.put, List.setIfInBounds_toArray, List.set_cons_zero, List.set_cons_succ]; refine hK _ ?_; clear hK K) | (refine seq_skipc (by rfl) ?_; intro K hK; simp only [Act.put, List.setIfInBounds_toArray, List.set_cons_zero, List.set_cons_succ]; refine hK _ ?_; clear hK K) | (refine seq_read (by rfl) (by rfl) ?_; intro K hK; go_big_quiet_op; first | go_big_quiet_on | (refine ⟨_, fun _ _ => rfl, ?_⟩; go_big_quiet_on))))
      refine seq_value (.int .i64 (k : Int)) (by rfl) (fun x hx => by have hq := ((Gap.blk hx (h2) (by omega)).cell 0).trans (hy0); simp [go_sem, execOp, Act.eval, hq]) ?_; intro K hK; simp only [Act.put, List.setIfInBounds_toArray, List.set_cons_zero, List.set_cons_succ]; refine hK _ ?_; clear hK K
      (repeat (first | (refine seq_skip (by rfl) ?_; intro K hK; simp only [Act.put, List.setIfInBounds_toArray, List.set_cons_zero, List.set_cons_succ]; refine hK _ ?_; clear hK K) | (refine seq_skipc (by rfl) ?_; intro K hK; simp only [Act.put, List.setIfInBounds_toArray, List.set_cons_zero, List.set_cons_succ]; refine hK _ ?_; clear hK K) | (refine seq_read (by rfl) (by rfl) ?_; intro K hK; go_big_quiet_op; first | go_big_quiet_on | (refine ⟨_, fun _ _ => rfl, ?_⟩; go_big_quiet_on))))
      refine seq_call (hpg _) rfl Tryd.func37 (by kernel_rfl) (by kernel_rfl) (by rfl) (by rfl) ?_; intro K hK; rintro e w' ⟨rfl, hE⟩; refine ⟨_, rfl, (Gap.ext hE), ?_⟩; simp only [Act.put, List.setIfInBounds_toArray, List.set_cons_zero, List.set_cons_succ]; refine hK _ _ ?_; clear hK K; (try replace hb := hb.ext hE); (try replace hc := hc.ext hE); (try replace hd := hd.ext hE); (try replace hz := hz.ext hE); (try replace h1 := h1.ext hE); (try replace h2 := h2.ext hE); (try replace h3 := h3.ext hE); (try replace h4 := h4.ext hE); (try replace h5 := h5.ext hE); (try replace hM := hM.ext hE); (try replace hO := hO.ext hE); (try replace HE := Lib.hid (HE.out.trans hE))
      clear hE
      refine seq_store_row rfl rfl rfl (hc) (by kernel_rfl) (by rfl) (by simp [Value.oneCell']) (by rfl) (Gap.row _ (by omega) (by omega) _) ?_; intro K hK; simp only [Act.put, List.setIfInBounds_toArray, List.set_cons_zero, List.set_cons_succ]; refine hK _ _ ?_; clear hK K
      refine seq_store_row rfl rfl rfl ((hd.apart (by omega) _)) (lf_info _) (by simp [lfC_size]) (lfC_one _) (by rfl) (Gap.row _ (by omega) (by omega) _) ?_; intro K hK; simp only [Act.put, List.setIfInBounds_toArray, List.set_cons_zero, List.set_cons_succ]; refine hK _ _ ?_; clear hK K
      refine seq_store_row rfl rfl rfl (((hz.apart (by omega) _).apart (by omega) _)) (ft_info _) (by simp [ftC_size]) (ftC_one _) (by rfl) (Gap.row _ (by omega) (by omega) _) ?_; intro K hK; simp only [Act.put, List.setIfInBounds_toArray, List.set_cons_zero, List.set_cons_succ]; refine hK _ _ ?_; clear hK K
      refine seq_done ?_
      go_wp2
      (try simp only [Exit.inBlock, Exit.then]); (try rw [Exit.noGoto_ret]); refine bodyPost_ret (results_ccc rfl _ _ rfl rfl rfl ((((hc.row _).apart (by omega) _).apart (by omega) _)) ((((hd.apart (by omega) _).row _).apart (by omega) _)) ((((hz.apart (by omega) _).apart (by omega) _).row _)) Tryd.underlying25 rfl (by kernel_rfl) Tryd.underlying31 rfl (by exact lf_info _) Tryd.underlying33 rfl (by exact ft_info _)) rfl ?_
      exact ⟨A, c, by rw [H.out.1, H.out.2.1, H.out.2.2, HKD.out.1], by rw [H.out.2.1]; exact hM.ext (((HE.out.row (by omega) _).row (by omega) _).row (by omega) _), fun lo hi _ ho => by rw [H.out.2.1]; exact ho, ((HE.out.row (by omega) _).row (by omega) _).row (by omega) _⟩
    · have H := Lib.hid (HY.out hpa)
      clear HN HY
      go_enter Tryd.func17, Tryd.ntmps17
      go_wp2_with (refine wpList_load_blk (by rfl) 25 _ rfl rfl (by with_reducible assumption) Tryd.underlying25 rfl (by kernel_rfl) ?_)
      refine (hlk _ (hM.ext (HW.out ▸ HE.out))).mono ?_
      rintro e w5 ⟨rfl, hE⟩
      rw [← HW.out] at hE
      (try replace hb := hb.ext hE); (try replace hc := hc.ext hE); (try replace hd := hd.ext hE); (try replace hz := hz.ext hE); (try replace h1 := h1.ext hE); (try replace h2 := h2.ext hE); (try replace h3 := h3.ext hE); (try replace h4 := h4.ext hE); (try replace h5 := h5.ext hE); (try replace hM := hM.ext hE); (try replace hO := hO.ext hE); (try replace HE := Lib.hid (HE.out.trans hE))
      clear hE HW hbL h2L h2c hlk
      have hs0 : w.heap.size + 5 ≤ w5.heap.size := by have := hz.lt; omega
      have hE := (Ext.refl (w5)).alloc (.cells (#[.int .i64 0, .int .u64 0, .bool false, .bool false, .bool false, .bool false, .bool false, .bool false, .bool false, .bool false, .int .u64 0, .int .u64 0, .int .u64 0]) 31); have hnew := Blk.new (w5) 31 (#[.int .i64 0, .int .u64 0, .bool false, .bool false, .bool false, .bool false, .bool false, .bool false, .bool false, .bool false, .int .u64 0, .int .u64 0, .int .u64 0]); (try replace hb := hb.ext hE); (try replace hc := hc.ext hE); (try replace hd := hd.ext hE); (try replace hz := hz.ext hE); (try replace h1 := h1.ext hE); (try replace h2 := h2.ext hE); (try replace h3 := h3.ext hE); (try replace h4 := h4.ext hE); (try replace h5 := h5.ext hE); (try replace hM := hM.ext hE); (try replace hO := hO.ext hE); (try replace HE := Lib.hid (HE.out.trans hE)); clear hE; have h1 := hnew; clear hnew
      have hE := (Ext.refl (w5.alloc (.cells #[.int .i64 0, .int .u64 0, .bool false, .bool false, .bool false, .bool false, .bool false, .bool false, .bool false, .bool false, .int .u64 0, .int .u64 0, .int .u64 0] 31))).alloc (.cells (#[.bool false, .int .i64 0, .int .u64 0]) 33); have hnew := Blk.new (w5.alloc (.cells #[.int .i64 0, .int .u64 0, .bool false, .bool false, .bool false, .bool false, .bool false, .bool false, .bool false, .bool false, .int .u64 0, .int .u64 0, .int .u64 0] 31)) 33 (#[.bool false, .int .i64 0, .int .u64 0]); (try replace hb := hb.ext hE); (try replace hc := hc.ext hE); (try replace hd := hd.ext hE); (try replace hz := hz.ext hE); (try replace h1 := h1.ext hE); (try replace h2 := h2.ext hE); (try replace h3 := h3.ext hE); (try replace h4 := h4.ext hE); (try replace h5 := h5.ext hE); (try replace hM := hM.ext hE); (try replace hO := hO.ext hE); (try replace HE := Lib.hid (HE.out.trans hE)); clear hE; have h3 := hnew; clear hnew
      rw [World.size_alloc] at h3
      have h1a := h1
      have h3a := h3.apart (show w5.heap.size + 1 ≠ w5.heap.size by omega) (lfC f)
      have key := (h1).row (lfC f); clear h1; (try replace hb := Blk.apart hb (show _ ≠ w5.heap.size by omega) (lfC f)); (try replace hc := Blk.apart hc (show _ ≠ w5.heap.size by omega) (lfC f)); (try replace hd := Blk.apart hd (show _ ≠ w5.heap.size by omega) (lfC f)); (try replace hz := Blk.apart hz (show _ ≠ w5.heap.size by omega) (lfC f)); (try replace h1 := Blk.apart h1 (show _ ≠ w5.heap.size by omega) (lfC f)); (try replace h2 := Blk.apart h2 (show _ ≠ w5.heap.size by omega) (lfC f)); (try replace h3 := Blk.apart h3 (show _ ≠ w5.heap.size by omega) (lfC f)); (try replace h4 := Blk.apart h4 (show _ ≠ w5.heap.size by omega) (lfC f)); (try replace h5 := Blk.apart h5 (show _ ≠ w5.heap.size by omega) (lfC f)); have h1 := key; clear key; replace HE := Lib.hid (HE.out.row (show _ ≤ w5.heap.size by omega) (lfC f))
      have key := (h3).row (ftC F); clear h3; (try replace hb := Blk.apart hb (show _ ≠ w5.heap.size + 1 by omega) (ftC F)); (try replace hc := Blk.apart hc (show _ ≠ w5.heap.size + 1 by omega) (ftC F)); (try replace hd := Blk.apart hd (show _ ≠ w5.heap.size + 1 by omega) (ftC F)); (try replace hz := Blk.apart hz (show _ ≠ w5.heap.size + 1 by omega) (ftC F)); (try replace h1 := Blk.apart h1 (show _ ≠ w5.heap.size + 1 by omega) (ftC F)); (try replace h2 := Blk.apart h2 (show _ ≠ w5.heap.size + 1 by omega) (ftC F)); (try replace h3 := Blk.apart h3 (show _ ≠ w5.heap.size + 1 by omega) (ftC F)); (try replace h4 := Blk.apart h4 (show _ ≠ w5.heap.size + 1 by omega) (ftC F)); (try replace h5 := Blk.apart h5 (show _ ≠ w5.heap.size + 1 by omega) (ftC F)); have h3 := key; clear key; replace HE := Lib.hid (HE.out.row (show _ ≤ w5.heap.size + 1 by omega) (ftC F))
      have hb1x := (h3.cell 0).trans hb1
      go_wp2_with (first | (refine wpList_store_row rfl 31 _ _ rfl _ (lfC _) rfl rfl _ _ h1a (lf_info _) (by simp [lfC_size]) (lfC_one _) ?_) | (refine wpList_store_row rfl 33 _ _ rfl _ (ftC _) rfl rfl _ _ h3a (ft_info _) (by simp [ftC_size]) (ftC_one _) ?_))
      clear h1a h3a hb1x
      generalize ((((w5.alloc (.cells #[.int .i64 0, .int .u64 0, .bool false, .bool false, .bool false, .bool false, .bool false, .bool false, .bool false, .bool false, .int .u64 0, .int .u64 0, .int .u64 0] 31)).alloc (.cells #[.bool false, .int .i64 0, .int .u64 0] 33)).setRow w5.heap.size (lfC f)).setRow (w5.heap.size + 1) (ftC F)) = X at hb hc hd hz h1 h2 h3 HE ⊢
      (try replace hb := Blk.drew hb); (try replace hc := Blk.drew hc); (try replace hd := Blk.drew hd); (try replace hz := Blk.drew hz); (try replace h1 := Blk.drew h1); (try replace h2 := Blk.drew h2); (try replace h3 := Blk.drew h3); (try replace h4 := Blk.drew h4); (try replace h5 := Blk.drew h5); replace HE := Lib.hid HE.out.drew
      refine wp_region_seq [(0, false), (1, false), (3, false), (2, true), (4, true), (5, false)] Ext (by kernel_rfl) (by kernel_rfl) Ext.refl (fun _ _ _ => Ext.trans) ?_; simp only [List.map, nth_z, nth_s]
      (repeat (first | (refine seq_skip (by rfl) ?_; intro K hK; simp only [Act.put, List.setIfInBounds_toArray, List.set_cons_zero, List.set_cons_succ]; refine hK _ ?_; clear hK K) | (refine seq_skipc (by rfl) ?_; intro K hK; simp only [Act.put, List.setIfInBounds_toArray, List.set_cons_zero, List.set_cons_succ]; refine hK _ ?_; clear hK K) | (refine seq_read (by rfl) (by rfl) ?_; intro K hK; go_big_quiet_op; first | go_big_quiet_on | (refine ⟨_, fun _ _ => rfl, ?_⟩; go_big_quiet_on))))
      refine seq_load_part rfl rfl (fun x hx => Blk.ext (h1) hx) (lfC_pt f) rfl Tryd.underlying29 (pt_info _) (by rfl) ?_; intro K hK; simp only [Act.put, List.setIfInBounds_toArray, List.set_cons_zero, List.set_cons_succ]; refine hK _ ?_; clear hK K
      refine seq_load rfl rfl (fun x hx => Blk.ext (h2) hx) rfl Tryd.underlying39 (wy_info _) (by rfl) ?_; intro K hK; simp only [Act.put, List.setIfInBounds_toArray, List.set_cons_zero, List.set_cons_succ]; refine hK _ ?_; clear hK K
      refine seq_call (rperm_c _ _) rfl Tryd.func24 (by kernel_rfl) (by kernel_rfl) (by rfl) (by rfl) ?_; intro K hK; rintro e w' ⟨rfl, hE⟩; refine ⟨_, rfl, hE, ?_⟩; simp only [Act.put, List.setIfInBounds_toArray, List.set_cons_zero, List.set_cons_succ]; refine hK _ _ ?_; clear hK K; (try replace hb := hb.ext hE); (try replace hc := hc.ext hE); (try replace hd := hd.ext hE); (try replace hz := hz.ext hE); (try replace h1 := h1.ext hE); (try replace h2 := h2.ext hE); (try replace h3 := h3.ext hE); (try replace h4 := h4.ext hE); (try replace h5 := h5.ext hE); (try replace hM := hM.ext hE); (try replace hO := hO.ext hE); (try replace HE := Lib.hid (HE.out.trans hE))
      clear hE
      refine seq_call (hal _ _) rfl Tryd.func23 (by kernel_rfl) (by kernel_rfl) (by rfl) (by rfl) ?_; intro K hK; rintro e w' ⟨rfl, hE⟩; refine ⟨_, rfl, hE, ?_⟩; simp only [Act.put, List.setIfInBounds_toArray, List.set_cons_zero, List.set_cons_succ]; refine hK _ _ ?_; clear hK K; (try replace hb := hb.ext hE); (try replace hc := hc.ext hE); (try replace hd := hd.ext hE); (try replace hz := hz.ext hE); (try replace h1 := h1.ext hE); (try replace h2 := h2.ext hE); (try replace h3 := h3.ext hE); (try replace h4 := h4.ext hE); (try replace h5 := h5.ext hE); (try replace hM := hM.ext hE); (try replace hO := hO.ext hE); (try replace HE := Lib.hid (HE.out.trans hE))
      clear hE
      rw [hpa]
      (repeat (first | (refine seq_skip (by rfl) ?_; intro K hK; simp only [Act.put, List.setIfInBounds_toArray, List.set_cons_zero, List.set_cons_succ]; refine hK _ ?_; clear hK K) | (refine seq_skipc (by rfl) ?_; intro K hK; simp only [Act.put, List.setIfInBounds_toArray, List.set_cons_zero, List.set_cons_succ]; refine hK _ ?_; clear hK K) | (refine seq_read (by rfl) (by rfl) ?_; intro K hK; go_big_quiet_op; first | go_big_quiet_on | (refine ⟨_, fun _ _ => rfl, ?_⟩; go_big_quiet_on))))
      refine seq_done ?_
      clear hpa
      obtain ⟨d, hd2⟩ : ∃ d, ((k : Int) == 2) = d := ⟨_, rfl⟩
      have HD := Lib.hid hd2
      have h2c := (h2.cell 0).trans hy0
      have hq1 := h1.lt
      have hq2 := hb.lt
      have hq3 : w.heap.size ≤ w'.heap.size := HE.out.size
      go_wp2_with (first | (refine wpList_load_blk (by rfl) 25 _ rfl rfl (by with_reducible assumption) Tryd.underlying25 rfl (by kernel_rfl) ?_) | (refine wpList_load_blk (by rfl) 31 _ rfl rfl (by with_reducible assumption) Tryd.underlying31 rfl (by kernel_rfl) ?_))
      refine (hm2 _ (hM.ext HE.out) _).mono ?_
      rintro e w6 ⟨A2, c2, rfl, hM2, ho, hE⟩
      (try replace hb := hb.ext hE); (try replace hc := hc.ext hE); (try replace hd := hd.ext hE); (try replace hz := hz.ext hE); (try replace h1 := h1.ext hE); (try replace h2 := h2.ext hE); (try replace h3 := h3.ext hE); (try replace h4 := h4.ext hE); (try replace h5 := h5.ext hE); (try replace hM := hM.ext hE); (try replace hO := hO.ext hE); (try replace HE := Lib.hid (HE.out.trans hE))
      have hO := ho w.heap.size _ (Nat.le_refl _) (hM.out _)
      clear h2c hd2 hE
      have hs6 : w.heap.size + 5 ≤ w6.heap.size := by have := hz.lt; omega
      have hE := (Ext.refl (w6)).alloc (.cells (#[.int .u64 0, .slice none 0 0]) 25); have hnew := Blk.new (w6) 25 (#[.int .u64 0, .slice none 0 0]); (try replace hb := hb.ext hE); (try replace hc := hc.ext hE); (try replace hd := hd.ext hE); (try replace hz := hz.ext hE); (try replace h1 := h1.ext hE); (try replace h2 := h2.ext hE); (try replace h3 := h3.ext hE); (try replace h4 := h4.ext hE); (try replace h5 := h5.ext hE); (try replace hM := hM.ext hE); (try replace hO := hO.ext hE); (try replace HE := Lib.hid (HE.out.trans hE)); clear hE; have h4 := hnew; clear hnew
      have hE := (Ext.refl (w6.alloc (.cells #[.int .u64 0, .slice none 0 0] 25))).alloc (.cells (#[.int .i64 0, .int .u64 0, .bool false, .bool false, .bool false, .bool false, .bool false, .bool false, .bool false, .bool false, .int .u64 0, .int .u64 0, .int .u64 0]) 31); have hnew := Blk.new (w6.alloc (.cells #[.int .u64 0, .slice none 0 0] 25)) 31 (#[.int .i64 0, .int .u64 0, .bool false, .bool false, .bool false, .bool false, .bool false, .bool false, .bool false, .bool false, .int .u64 0, .int .u64 0, .int .u64 0]); (try replace hb := hb.ext hE); (try replace hc := hc.ext hE); (try replace hd := hd.ext hE); (try replace hz := hz.ext hE); (try replace h1 := h1.ext hE); (try replace h2 := h2.ext hE); (try replace h3 := h3.ext hE); (try replace h4 := h4.ext hE); (try replace h5 := h5.ext hE); (try replace hM := hM.ext hE); (try replace hO := hO.ext hE); (try replace HE := Lib.hid (HE.out.trans hE)); clear hE; have h5 := hnew; clear hnew
      rw [World.size_alloc] at h5
      have h4a := h4
      have h5a := h5.apart (show w6.heap.size + 1 ≠ w6.heap.size by omega) #[.int .u64 (S : Int), .slice A2 (markL L f.at' d).length c2]
      have key := (h4).row (#[.int .u64 (S : Int), .slice A2 (markL L f.at' d).length c2]); clear h4; (try replace hb := Blk.apart hb (show _ ≠ w6.heap.size by omega) (#[.int .u64 (S : Int), .slice A2 (markL L f.at' d).length c2])); (try replace hc := Blk.apart hc (show _ ≠ w6.heap.size by omega) (#[.int .u64 (S : Int), .slice A2 (markL L f.at' d).length c2])); (try replace hd := Blk.apart hd (show _ ≠ w6.heap.size by omega) (#[.int .u64 (S : Int), .slice A2 (markL L f.at' d).length c2])); (try replace hz := Blk.apart hz (show _ ≠ w6.heap.size by omega) (#[.int .u64 (S : Int), .slice A2 (markL L f.at' d).length c2])); (try replace h1 := Blk.apart h1 (show _ ≠ w6.heap.size by omega) (#[.int .u64 (S : Int), .slice A2 (markL L f.at' d).length c2])); (try replace h2 := Blk.apart h2 (show _ ≠ w6.heap.size by omega) (#[.int .u64 (S : Int), .slice A2 (markL L f.at' d).length c2])); (try replace h3 := Blk.apart h3 (show _ ≠ w6.heap.size by omega) (#[.int .u64 (S : Int), .slice A2 (markL L f.at' d).length c2])); (try replace h4 := Blk.apart h4 (show _ ≠ w6.heap.size by omega) (#[.int .u64 (S : Int), .slice A2 (markL L f.at' d).length c2])); (try replace h5 := Blk.apart h5 (show _ ≠ w6.heap.size by omega) (#[.int .u64 (S : Int), .slice A2 (markL L f.at' d).length c2])); have h4 := key; clear key; replace HE := Lib.hid (HE.out.row (show _ ≤ w6.heap.size by omega) (#[.int .u64 (S : Int), .slice A2 (markL L f.at' d).length c2]))
      have key := (h5).row (lfC { f with pt := usedP f.pt d }); clear h5; (try replace hb := Blk.apart hb (show _ ≠ w6.heap.size + 1 by omega) (lfC { f with pt := usedP f.pt d })); (try replace hc := Blk.apart hc (show _ ≠ w6.heap.size + 1 by omega) (lfC { f with pt := usedP f.pt d })); (try replace hd := Blk.apart hd (show _ ≠ w6.heap.size + 1 by omega) (lfC { f with pt := usedP f.pt d })); (try replace hz := Blk.apart hz (show _ ≠ w6.heap.size + 1 by omega) (lfC { f with pt := usedP f.pt d })); (try replace h1 := Blk.apart h1 (show _ ≠ w6.heap.size + 1 by omega) (lfC { f with pt := usedP f.pt d })); (try replace h2 := Blk.apart h2 (show _ ≠ w6.heap.size + 1 by omega) (lfC { f with pt := usedP f.pt d })); (try replace h3 := Blk.apart h3 (show _ ≠ w6.heap.size + 1 by omega) (lfC { f with pt := usedP f.pt d })); (try replace h4 := Blk.apart h4 (show _ ≠ w6.heap.size + 1 by omega) (lfC { f with pt := usedP f.pt d })); (try replace h5 := Blk.apart h5 (show _ ≠ w6.heap.size + 1 by omega) (lfC { f with pt := usedP f.pt d })); have h5 := key; clear key; replace HE := Lib.hid (HE.out.row (show _ ≤ w6.heap.size + 1 by omega) (lfC { f with pt := usedP f.pt d }))
      have hM4 := hM2.ext (((((Ext.refl w6).alloc (.cells #[.int .u64 0, .slice none 0 0] 25)).alloc (.cells #[.int .i64 0, .int .u64 0, .bool false, .bool false, .bool false, .bool false, .bool false, .bool false, .bool false, .bool false, .int .u64 0, .int .u64 0, .int .u64 0] 31)).row (show w6.heap.size ≤ w6.heap.size from Nat.le_refl _) #[.int .u64 (S : Int), .slice A2 (markL L f.at' d).length c2]).row (show w6.heap.size ≤ w6.heap.size + 1 by omega) (lfC { f with pt := usedP f.pt d }))
      go_wp2_with (first | (refine wpList_store_row rfl 25 _ _ rfl _ _ rfl rfl _ _ h4a (by kernel_rfl) (by rfl) (by simp [Value.oneCell']) ?_) | (refine wpList_store_row rfl 31 _ _ rfl _ (lfC _) rfl rfl _ _ h5a (lf_info _) (by simp [lfC_size]) (lfC_one _) ?_))
      clear h4a h5a hM2
      generalize (((w6.alloc (.cells #[.int .u64 0, .slice none 0 0] 25)).alloc (.cells #[.int .i64 0, .int .u64 0, .bool false, .bool false, .bool false, .bool false, .bool false, .bool false, .bool false, .bool false, .int .u64 0, .int .u64 0, .int .u64 0] 31)).setRow w6.heap.size #[.int .u64 (S : Int), .slice A2 (markL L f.at' d).length c2]).setRow (w6.heap.size + 1) (lfC { f with pt := usedP f.pt d }) = X2 at hb hc hd hz h1 h2 h3 h4 h5 HE hM4 ⊢
      (try replace hb := Blk.drew hb); (try replace hc := Blk.drew hc); (try replace hd := Blk.drew hd); (try replace hz := Blk.drew hz); (try replace h1 := Blk.drew h1); (try replace h2 := Blk.drew h2); (try replace h3 := Blk.drew h3); (try replace h4 := Blk.drew h4); (try replace h5 := Blk.drew h5); replace HE := Lib.hid HE.out.drew
      refine wp_region_seq [(0, false), (1, false), (2, false), (3, true), (4, true), (5, true)] (Gap (w.heap.size + 1 + 1) (w.heap.size + 5)) (by kernel_rfl) (by kernel_rfl) (Gap.refl _ _) (fun _ _ _ => Gap.trans) ?_; simp only [List.map, nth_z, nth_s]
      refine seq_load rfl rfl (fun x hx => Gap.blk hx (h4) (by omega)) rfl Tryd.underlying25 (by kernel_rfl) (by rfl) ?_; intro K hK; simp only [Act.put, List.setIfInBounds_toArray, List.set_cons_zero, List.set_cons_succ]; refine hK _ ?_; clear hK K
      refine seq_load rfl rfl (fun x hx => Gap.blk hx (h5) (by omega)) rfl Tryd.underlying31 (lf_info _) (by rfl) ?_; intro K hK; simp only [Act.put, List.setIfInBounds_toArray, List.set_cons_zero, List.set_cons_succ]; refine hK _ ?_; clear hK K
      refine seq_build_as rfl (ft_build0) (by rfl) ?_; intro K hK; simp only [Act.put, List.setIfInBounds_toArray, List.set_cons_zero, List.set_cons_succ]; refine hK _ ?_; clear hK K
      refine seq_store_row rfl rfl rfl (hc) (by kernel_rfl) (by rfl) (by simp [Value.oneCell']) (by rfl) (Gap.row _ (by omega) (by omega) _) ?_; intro K hK; simp only [Act.put, List.setIfInBounds_toArray, List.set_cons_zero, List.set_cons_succ]; refine hK _ _ ?_; clear hK K
      refine seq_store_row rfl rfl rfl ((hd.apart (by omega) _)) (lf_info _) (by simp [lfC_size]) (lfC_one _) (by rfl) (Gap.row _ (by omega) (by omega) _) ?_; intro K hK; simp only [Act.put, List.setIfInBounds_toArray, List.set_cons_zero, List.set_cons_succ]; refine hK _ _ ?_; clear hK K
      refine seq_store_row rfl rfl rfl (((hz.apart (by omega) _).apart (by omega) _)) (ft_info _) (by simp [ftC_size]) (ftC_one _) (by rfl) (Gap.row _ (by omega) (by omega) _) ?_; intro K hK; simp only [Act.put, List.setIfInBounds_toArray, List.set_cons_zero, List.set_cons_succ]; refine hK _ _ ?_; clear hK K
      refine seq_done ?_
      go_wp2
      (try simp only [Exit.inBlock, Exit.then]); (try rw [Exit.noGoto_ret]); refine bodyPost_ret (results_ccc rfl _ _ rfl rfl rfl ((((hc.row _).apart (by omega) _).apart (by omega) _)) ((((hd.apart (by omega) _).row _).apart (by omega) _)) ((((hz.apart (by omega) _).apart (by omega) _).row _)) Tryd.underlying25 rfl (by kernel_rfl) Tryd.underlying31 rfl (by exact lf_info _) Tryd.underlying33 rfl (by exact ft_info _)) rfl ?_
      refine ⟨A2, c2, by rw [H.out.1, H.out.2.1, H.out.2.2, HKD.out.2, HD.out, flt_zero], ?_, fun lo hi hh h0 => by rw [H.out.2.1, HKD.out.2, HD.out]; exact ho lo hi (by omega) h0, ((HE.out.row (by omega) _).row (by omega) _).row (by omega) _⟩
      rw [H.out.2.1, HKD.out.2, HD.out]
      exact ((((hM4.ext (Ext.refl _).drew).row' hO (by omega) (by omega) _).row' hO (by omega) (by omega) _).row' hO (by omega) (by omega) _)

/-! Physical -/
theorem ptP_9 (l : Lf) : (lfC l)[11]? = some (.int .u64 (l.pt.pp : Int)) := by simp only [lfC_eq, ptC_eq]; rfl
/-- a leaf's address -/
def physI (l : Lf) (a : Nat) : Int := (l.pt.pp : Int) * 4096 + offI (a : Int) l.lv
theorem phys_lt {l : Lf} {a : Nat} (hp : l.pt.pp < 17592186044416) (h0 : 0 ≤ l.lv) (h2 : l.lv ≤ 2) : 0 ≤ physI l a ∧ physI l a < 144115188075855872 := by
  have ho := off_lt (a : Int) l.lv
  have hs : sizI l.lv ≤ 1073741824 := (siz_lt h0 h2).2
  unfold physI; omega
theorem physical_c (l : Lf) (hp : l.pt.pp < 17592186044416) (h0 : 0 ≤ l.lv) (h2 : l.lv ≤ 2) {a : Nat} (a1 : a < 18446744073709551616) (w : World) (hT : Lay w) :
    Calls Tryd.prog 13 #[.agg (lfC l), .int .u64 (a : Int)] w fun e w' => e = .returned (.int .u64 (physI l a)) ∧ Ext w w' := by
  have ho := off_lt (a : Int) l.lv
  have hs : sizI l.lv ≤ 1073741824 := (siz_lt h0 h2).2
  have h1 := Blk.new w 31 (lfC l)
  have HE := Lib.hid ((Ext.refl w).alloc (.cells (lfC l) 31))
  have hof := fun w hT => offset5_c (a : Int) l.lv (by omega) (by omega) h0 h2 w hT
  unfold physI
  generalize offI (a : Int) l.lv = q at *
  have hw1 : IntKind.u64.wrap ((l.pt.pp : Int) * 4096) = (l.pt.pp : Int) * 4096 := IntWalk.u64_in _ (by omega)
  have hw2 : IntKind.u64.wrap ((l.pt.pp : Int) * 4096 + q) = (l.pt.pp : Int) * 4096 + q := IntWalk.u64_in _ (by omega)
  go_enter Tryd.func13, Tryd.ntmps13
  go_wp2_with fail
  (try replace h1 := Blk.drew h1); (try replace h2 := Blk.drew h2); replace HE := Lib.hid HE.out.drew
  refine wp_region_seq [(0, false), (1, false), (2, false), (3, false), (4, false), (5, false), (6, false), (7, true), (8, false), (9, false)] Ext (by kernel_rfl) (by kernel_rfl) Ext.refl (fun _ _ _ => Ext.trans) ?_; simp only [List.map, nth_z, nth_s]
  (repeat (first | (refine seq_skip (by rfl) ?_; intro K hK; simp only [Act.put, List.setIfInBounds_toArray, List.set_cons_zero, List.set_cons_succ]; refine hK _ ?_; clear hK K) | (refine seq_skipc (by rfl) ?_; intro K hK; simp only [Act.put, List.setIfInBounds_toArray, List.set_cons_zero, List.set_cons_succ]; refine hK _ ?_; clear hK K) | (refine seq_read (by rfl) (by rfl) ?_; intro K hK; go_big_quiet_op; first | go_big_quiet_on | (refine ⟨_, fun _ _ => rfl, ?_⟩; go_big_quiet_on))))
  refine seq_value (.int .u64 (l.pt.pp : Int)) (by rfl) (fun x hx => by have hq := ext_cell hx ((h1.cell 11).trans (ptP_9 l)); simp [go_sem, execOp, Act.eval, hq]) ?_; intro K hK; simp only [Act.put, List.setIfInBounds_toArray, List.set_cons_zero, List.set_cons_succ]; refine hK _ ?_; clear hK K
  (repeat (first | (refine seq_skip (by rfl) ?_; intro K hK; simp only [Act.put, List.setIfInBounds_toArray, List.set_cons_zero, List.set_cons_succ]; refine hK _ ?_; clear hK K) | (refine seq_skipc (by rfl) ?_; intro K hK; simp only [Act.put, List.setIfInBounds_toArray, List.set_cons_zero, List.set_cons_succ]; refine hK _ ?_; clear hK K) | (refine seq_read (by rfl) (by rfl) ?_; intro K hK; go_big_quiet_op; first | go_big_quiet_on | (refine ⟨_, fun _ _ => rfl, ?_⟩; go_big_quiet_on))))
  refine seq_value (.int .i64 l.lv) (by rfl) (fun x hx => by have hq := ext_cell hx ((h1.cell 0).trans (lfC_lv l)); simp [go_sem, execOp, Act.eval, hq]) ?_; intro K hK; simp only [Act.put, List.setIfInBounds_toArray, List.set_cons_zero, List.set_cons_succ]; refine hK _ ?_; clear hK K
  refine seq_call (calls_ext (hof _ (hT.ext HE.out).1)) rfl Tryd.func39 (by kernel_rfl) (by kernel_rfl) (by rfl) (by rfl) ?_; intro K hK; rintro e w' ⟨rfl, hE⟩; refine ⟨_, rfl, hE, ?_⟩; simp only [Act.put, List.setIfInBounds_toArray, List.set_cons_zero, List.set_cons_succ]; refine hK _ _ ?_; clear hK K; (try replace h1 := h1.ext hE); (try replace h2 := h2.ext hE); (try replace HE := Lib.hid (HE.out.trans hE))
  clear hE
  (repeat (first | (refine seq_skip (by rfl) ?_; intro K hK; simp only [Act.put, List.setIfInBounds_toArray, List.set_cons_zero, List.set_cons_succ]; refine hK _ ?_; clear hK K) | (refine seq_skipc (by rfl) ?_; intro K hK; simp only [Act.put, List.setIfInBounds_toArray, List.set_cons_zero, List.set_cons_succ]; refine hK _ ?_; clear hK K) | (refine seq_read (by rfl) (by rfl) ?_; intro K hK; go_big_quiet_op; first | go_big_quiet_on | (refine ⟨_, fun _ _ => rfl, ?_⟩; go_big_quiet_on))))
  refine seq_done ?_
  go_wp2
  go_ret
  first | exact ⟨rfl, HE.out⟩ | exact ⟨by simp only [hw1, hw2], HE.out⟩
theorem rphysical_c (l : Lf) (hp : l.pt.pp < 17592186044416) (h0 : 0 ≤ l.lv) (h2 : l.lv ≤ 2) {a : Nat} (a1 : a < 18446744073709551616) (w : World) :
    Calls Tryd.prog 14 #[.agg (lfC l), .int .u64 (a : Int)] w fun e w' => e = .returned (.int .u64 (physI l a)) ∧ Ext w w' := by
  have ho := off_lt (a : Int) l.lv
  have hs : sizI l.lv ≤ 1073741824 := (siz_lt h0 h2).2
  have h1 := Blk.new w 31 (lfC l)
  have HE := Lib.hid ((Ext.refl w).alloc (.cells (lfC l) 31))
  have hof := fun w => roffset5_c (a : Int) l.lv (by omega) (by omega) h0 h2 w
  have hcm : physI l a = 4096 * (l.pt.pp : Int) + offI (a : Int) l.lv := by unfold physI; omega
  rw [hcm]
  clear hcm
  generalize offI (a : Int) l.lv = q at *
  have hw1 : IntKind.u64.wrap (4096 * (l.pt.pp : Int)) = 4096 * (l.pt.pp : Int) := IntWalk.u64_in _ (by omega)
  have hw2 : IntKind.u64.wrap (4096 * (l.pt.pp : Int) + q) = 4096 * (l.pt.pp : Int) + q := IntWalk.u64_in _ (by omega)
  go_enter Tryd.func14, Tryd.ntmps14
  go_wp2_with fail
  (try replace h1 := Blk.drew h1); (try replace h2 := Blk.drew h2); replace HE := Lib.hid HE.out.drew
  refine wp_region_seq [(0, false), (1, false), (2, false), (3, false), (4, false), (5, false), (6, false), (7, true), (8, false), (9, false)] Ext (by kernel_rfl) (by kernel_rfl) Ext.refl (fun _ _ _ => Ext.trans) ?_; simp only [List.map, nth_z, nth_s]
  (repeat (first | (refine seq_skip (by rfl) ?_; intro K hK; simp only [Act.put, List.setIfInBounds_toArray, List.set_cons_zero, List.set_cons_succ]; refine hK _ ?_; clear hK K) | (refine seq_skipc (by rfl) ?_; intro K hK; simp only [Act.put, List.setIfInBounds_toArray, List.set_cons_zero, List.set_cons_succ]; refine hK _ ?_; clear hK K) | (refine seq_read (by rfl) (by rfl) ?_; intro K hK; go_big_quiet_op; first | go_big_quiet_on | (refine ⟨_, fun _ _ => rfl, ?_⟩; go_big_quiet_on))))
  refine seq_value (.int .u64 (l.pt.pp : Int)) (by rfl) (fun x hx => by have hq := ext_cell hx ((h1.cell 11).trans (ptP_9 l)); simp [go_sem, execOp, Act.eval, hq]) ?_; intro K hK; simp only [Act.put, List.setIfInBounds_toArray, List.set_cons_zero, List.set_cons_succ]; refine hK _ ?_; clear hK K
  (repeat (first | (refine seq_skip (by rfl) ?_; intro K hK; simp only [Act.put, List.setIfInBounds_toArray, List.set_cons_zero, List.set_cons_succ]; refine hK _ ?_; clear hK K) | (refine seq_skipc (by rfl) ?_; intro K hK; simp only [Act.put, List.setIfInBounds_toArray, List.set_cons_zero, List.set_cons_succ]; refine hK _ ?_; clear hK K) | (refine seq_read (by rfl) (by rfl) ?_; intro K hK; go_big_quiet_op; first | go_big_quiet_on | (refine ⟨_, fun _ _ => rfl, ?_⟩; go_big_quiet_on))))
  refine seq_value (.int .i64 l.lv) (by rfl) (fun x hx => by have hq := ext_cell hx ((h1.cell 0).trans (lfC_lv l)); simp [go_sem, execOp, Act.eval, hq]) ?_; intro K hK; simp only [Act.put, List.setIfInBounds_toArray, List.set_cons_zero, List.set_cons_succ]; refine hK _ ?_; clear hK K
  refine seq_call (calls_ext (hof _)) rfl Tryd.func40 (by kernel_rfl) (by kernel_rfl) (by rfl) (by rfl) ?_; intro K hK; rintro e w' ⟨rfl, hE⟩; refine ⟨_, rfl, hE, ?_⟩; simp only [Act.put, List.setIfInBounds_toArray, List.set_cons_zero, List.set_cons_succ]; refine hK _ _ ?_; clear hK K; (try replace h1 := h1.ext hE); (try replace h2 := h2.ext hE); (try replace HE := Lib.hid (HE.out.trans hE))
  clear hE
  (repeat (first | (refine seq_skip (by rfl) ?_; intro K hK; simp only [Act.put, List.setIfInBounds_toArray, List.set_cons_zero, List.set_cons_succ]; refine hK _ ?_; clear hK K) | (refine seq_skipc (by rfl) ?_; intro K hK; simp only [Act.put, List.setIfInBounds_toArray, List.set_cons_zero, List.set_cons_succ]; refine hK _ ?_; clear hK K) | (refine seq_read (by rfl) (by rfl) ?_; intro K hK; go_big_quiet_op; first | go_big_quiet_on | (refine ⟨_, fun _ _ => rfl, ?_⟩; go_big_quiet_on))))
  refine seq_done ?_
  go_wp2
  go_ret
  first | exact ⟨rfl, HE.out⟩ | exact ⟨by simp only [hw1, hw2], HE.out⟩
end Go.Proofs.YthplkhkclhpobaaDoor
