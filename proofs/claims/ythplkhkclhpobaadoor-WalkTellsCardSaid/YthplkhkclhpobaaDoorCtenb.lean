/- Package walk: Mark, Walk, Physical. -/
import Derived.Test.YthplkhkclhpobaaDoorCten
namespace Go.Proofs.YthplkhkclhpobaaDoor
open Go.ChangeShapes Go.WideShapes Go.ChangeAt Go.RowKit
set_option linter.unusedVariables false
set_option linter.unusedSimpArgs false
set_option maxRecDepth 10000

theorem array_leaf_size (l : Lf) : (lfC l).size = 13 := lfC_size l
/-- what a mark leaves -/
def Marked (A0 : Option Addr) (S : Nat) (L : List (Nat × Nat)) (l : Lf) (d : Bool) (w : World) (e : Ending) (w' : World) : Prop :=
  ∃ A c, e = .returned (.tuple #[.agg #[.int .u64 (S : Int), .slice A (markL L l.at' d).length c], .agg (lfC { l with pt := usedP l.pt d })]) ∧ Mem w' S A (markL L l.at' d) c ∧ (∀ lo hi, hi ≤ w.heap.size → Out lo hi A0 L.length → Out lo hi A (markL L l.at' d).length) ∧ Ext w w'

set_option maxHeartbeats 4000000 in
theorem mark_c {w : World} {S : Nat} {A : Option Addr} {L : List (Nat × Nat)} {c : Nat} (hM : Mem w S A L c) (hf : L.length ≤ 999) (l : Lf) (hat : l.at' % 8 = 0) (hlt : l.at' < S) (d : Bool) :
    Calls Tryd.prog 19 #[.agg #[.int .u64 (S : Int), .slice A L.length c], .agg (lfC l), .bool d] w (Marked A S L l d w) := by
  obtain ⟨W0, hW⟩ : ∃ W0, W0 = (((w.alloc (.cells #[.int .u64 (S : Int), .slice A L.length c] 25)).alloc (.cells (lfC l) 31)).alloc (.cells #[.int .u64 0, .slice none 0 0] 25)).alloc (.cells #[.int .i64 0, .int .u64 0, .bool false, .bool false, .bool false, .bool false, .bool false, .bool false, .bool false, .bool false, .int .u64 0, .int .u64 0, .int .u64 0] 31) := ⟨_, rfl⟩
  have HE : Hid (Ext w W0) := Lib.hid (by rw [hW]; exact ((((Ext.refl w).alloc _).alloc _).alloc _).alloc _)
  have hb : Blk W0 w.heap.size 25 #[.int .u64 (S : Int), .slice A L.length c] := by rw [hW]; exact (((Blk.new w _ _).alloc _).alloc _).alloc _
  have h1 : Blk W0 (w.heap.size + 1) 31 (lfC l) := by rw [hW]; exact ((blk_at (by simp)).alloc _).alloc _
  have hc : Blk W0 (w.heap.size + 1 + 1) 25 #[.int .u64 0, .slice none 0 0] := by rw [hW]; exact (blk_at (by simp)).alloc _
  have hd : Blk W0 (w.heap.size + 1 + 1 + 1) 31 #[.int .i64 0, .int .u64 0, .bool false, .bool false, .bool false, .bool false, .bool false, .bool false, .bool false, .bool false, .int .u64 0, .int .u64 0, .int .u64 0] := by rw [hW]; exact blk_at (by simp)
  have HW := Lib.hid hW
  have h1L := h1
  rw [hW] at h1L
  clear hW
  have HW8 := wordL_lt hM.rl (l.at' / 8)
  have hSS := hM.ok.le
  have hS8 := hM.ok.mod8
  have hus := fun w => used_c l.pt d w
  have hwd := fun w (hM : Mem w S A L c) => word_x hM (a := l.at') (by omega)
  have hgt := fun w => get_pte (wordL L (l.at' / 8)) HW8 w
  have hu2 := fun w => used_c (getP (wordL L (l.at' / 8))) d w
  have hmay : mayB (usedP (getP (wordL L (l.at' / 8))) d) = true := by rw [may_used]; exact may_get HW8
  have hpt := fun w => put_yes (usedP (getP (wordL L (l.at' / 8))) d) (by have := ok_get HW8; unfold usedP; exact this) hmay w
  have he : putN (usedP (getP (wordL L (l.at' / 8))) d) = markN (wordL L (l.at' / 8)) d := by unfold markN; rfl
  rw [he] at hpt
  have hml := mark_lt HW8 d
  have hl2 : (⟨l.lv, l.at', usedP l.pt d⟩ : Lf) = { l with pt := usedP l.pt d } := rfl
  have ha1 := lfC_at' { l with pt := usedP l.pt d }
  by_cases hq : markN (wordL L (l.at' / 8)) d = wordL L (l.at' / 8)
  · have HQ := Lib.hid (mark_same hM.rl hat (by omega) hq)
    have hqe : (((markN (wordL L (l.at' / 8)) d : Nat) : Int) == ((wordL L (l.at' / 8) : Nat) : Int)) = true := by rw [hq]; simp
    have hkm : Mem w S A (markL L l.at' d) c := by rw [HQ.out]; exact hM
    have hkl : (markL L l.at' d).length = L.length := by rw [HQ.out]
    have HK := Lib.hid hkl
    clear hmay he hq hat hlt hf hkl
    generalize markN (wordL L (l.at' / 8)) d = mv at hqe hpt hml
    generalize wordL L (l.at' / 8) = v at hwd hgt hu2 hpt HW8 hqe
    generalize getP v = p at hgt hu2 hpt
    go_enter Tryd.func19, Tryd.ntmps19
    go_wp2_with (refine wpList_load_part (by rfl) 29 _ rfl rfl h1L (lfC_pt l) Tryd.underlying29 rfl (pt_info _) ?_)
    refine (hus _).mono ?_
    rintro e w' ⟨rfl, hE⟩
    rw [← HW.out] at hE
    (try replace hb := hb.ext hE); (try replace hc := hc.ext hE); (try replace hd := hd.ext hE); (try replace h1 := h1.ext hE); (try replace hM := hM.ext hE); (try replace HE := Lib.hid (HE.out.trans hE))
    clear hE HW h1L hus
    have h1k := h1
    have key := (h1).row (lfC { l with pt := usedP l.pt d }); clear h1; (try replace hb := Blk.apart hb (show _ ≠ w.heap.size + 1 by omega) (lfC { l with pt := usedP l.pt d })); (try replace hc := Blk.apart hc (show _ ≠ w.heap.size + 1 by omega) (lfC { l with pt := usedP l.pt d })); (try replace hd := Blk.apart hd (show _ ≠ w.heap.size + 1 by omega) (lfC { l with pt := usedP l.pt d })); (try replace h1 := Blk.apart h1 (show _ ≠ w.heap.size + 1 by omega) (lfC { l with pt := usedP l.pt d })); have h1 := key; clear key; replace HE := Lib.hid (HE.out.row (show _ ≤ w.heap.size + 1 by omega) (lfC { l with pt := usedP l.pt d }))
    have hc1 := (h1.cell 1).trans ha1
    go_wp2_with (first | (refine wpList_store_part rfl 29 _ _ rfl rfl rfl h1k (by simp [lfC_size, ptC_size]) (lfC_set_pt l _) (pt_info _) (ptC_one _) ?_) | (refine wpList_load_blk (by rfl) 25 _ rfl rfl (by with_reducible assumption) Tryd.underlying25 rfl (by kernel_rfl) ?_)); refine (hwd _ (hM.ext HE.out)).mono ?_; rintro e w' ⟨rfl, hE⟩; (try replace hb := hb.ext hE); (try replace hc := hc.ext hE); (try replace hd := hd.ext hE); (try replace h1 := h1.ext hE); (try replace hM := hM.ext hE); (try replace HE := Lib.hid (HE.out.trans hE))
    clear hE hc1 h1k
    go_wp2_with fail; refine (hgt _).mono ?_; rintro e w' ⟨rfl, hE⟩; (try replace hb := hb.ext hE); (try replace hc := hc.ext hE); (try replace hd := hd.ext hE); (try replace h1 := h1.ext hE); (try replace hM := hM.ext hE); (try replace HE := Lib.hid (HE.out.trans hE))
    clear hE
    go_wp2_with fail; refine (hu2 _).mono ?_; rintro e w' ⟨rfl, hE⟩; (try replace hb := hb.ext hE); (try replace hc := hc.ext hE); (try replace hd := hd.ext hE); (try replace h1 := h1.ext hE); (try replace hM := hM.ext hE); (try replace HE := Lib.hid (HE.out.trans hE))
    clear hE
    go_wp2_with fail; refine (hpt _).mono ?_; rintro e w' ⟨rfl, hE⟩; (try replace hb := hb.ext hE); (try replace hc := hc.ext hE); (try replace hd := hd.ext hE); (try replace h1 := h1.ext hE); (try replace hM := hM.ext hE); (try replace HE := Lib.hid (HE.out.trans hE))
    clear hE
    go_wp2
    (try replace hb := Blk.drew hb); (try replace hc := Blk.drew hc); (try replace hd := Blk.drew hd); (try replace h1 := Blk.drew h1); replace HE := Lib.hid HE.out.drew
    refine wp_region_seq [(0, false), (1, false), (2, true), (3, true)] (Gap (w.heap.size + 1 + 1) (w.heap.size + 4)) (by kernel_rfl) (by kernel_rfl) (Gap.refl _ _) (fun _ _ _ => Gap.trans) ?_; simp only [List.map, nth_z, nth_s]
    refine seq_load rfl rfl (fun x hx => Gap.blk hx (hb.drew) (by omega)) rfl Tryd.underlying25 (by kernel_rfl) (by rfl) ?_; intro K hK; simp only [Act.put, List.setIfInBounds_toArray, List.set_cons_zero, List.set_cons_succ]; refine hK _ ?_; clear hK K
    refine seq_load rfl rfl (fun x hx => Gap.blk hx (h1.drew) (by omega)) rfl Tryd.underlying31 (lf_info _) (by rfl) ?_; intro K hK; simp only [Act.put, List.setIfInBounds_toArray, List.set_cons_zero, List.set_cons_succ]; refine hK _ ?_; clear hK K
    refine seq_store_row rfl rfl rfl (hc.drew) (by kernel_rfl) (by rfl) (by simp [Value.oneCell']) (by rfl) (Gap.row _ (by omega) (by omega) _) ?_; intro K hK; simp only [Act.put, List.setIfInBounds_toArray, List.set_cons_zero, List.set_cons_succ]; refine hK _ _ ?_; clear hK K
    refine seq_store_row rfl rfl rfl ((hd.drew.apart (by omega) _)) (lf_info _) (by simp [lfC_size]) (lfC_one _) (by rfl) (Gap.row _ (by omega) (by omega) _) ?_; intro K hK; simp only [Act.put, List.setIfInBounds_toArray, List.set_cons_zero, List.set_cons_succ]; refine hK _ _ ?_; clear hK K
    refine seq_done ?_
    go_wp2
    (try simp only [Exit.inBlock, Exit.then]); (try rw [Exit.noGoto_ret]); refine bodyPost_ret (results_cc rfl _ _ rfl rfl (((hc.drew.row _).apart (by omega) _)) (((hd.drew.apart (by omega) _).row _)) Tryd.underlying25 rfl (by first | exact lf_info _ | kernel_rfl) Tryd.underlying31 rfl (by first | exact lf_info _ | kernel_rfl)) rfl ?_
    exact ⟨A, c, by rw [HK.out], hkm.ext ((HE.out.row (by omega) _).row (by omega) _), fun lo hi _ ho => by rw [HK.out]; exact ho, (HE.out.row (by omega) _).row (by omega) _⟩
  · have hqe : (((markN (wordL L (l.at' / 8)) d : Nat) : Int) == ((wordL L (l.at' / 8) : Nat) : Int)) = false := by simp; omega
    have hst := fun w (hM : Mem w S A L c) => store8_o hM hml hat hlt hf (K := markL L l.at' d) (by unfold markL; rfl)
    clear hmay he hq hat hlt hf
    generalize markN (wordL L (l.at' / 8)) d = mv at hqe hpt hml hst
    generalize wordL L (l.at' / 8) = v at hwd hgt hu2 hpt HW8 hqe
    generalize getP v = p at hgt hu2 hpt
    go_enter Tryd.func19, Tryd.ntmps19
    go_wp2_with (refine wpList_load_part (by rfl) 29 _ rfl rfl h1L (lfC_pt l) Tryd.underlying29 rfl (pt_info _) ?_)
    refine (hus _).mono ?_
    rintro e w' ⟨rfl, hE⟩
    rw [← HW.out] at hE
    (try replace hb := hb.ext hE); (try replace hc := hc.ext hE); (try replace hd := hd.ext hE); (try replace h1 := h1.ext hE); (try replace hM := hM.ext hE); (try replace HE := Lib.hid (HE.out.trans hE))
    clear hE HW h1L hus
    have h1k := h1
    have key := (h1).row (lfC { l with pt := usedP l.pt d }); clear h1; (try replace hb := Blk.apart hb (show _ ≠ w.heap.size + 1 by omega) (lfC { l with pt := usedP l.pt d })); (try replace hc := Blk.apart hc (show _ ≠ w.heap.size + 1 by omega) (lfC { l with pt := usedP l.pt d })); (try replace hd := Blk.apart hd (show _ ≠ w.heap.size + 1 by omega) (lfC { l with pt := usedP l.pt d })); (try replace h1 := Blk.apart h1 (show _ ≠ w.heap.size + 1 by omega) (lfC { l with pt := usedP l.pt d })); have h1 := key; clear key; replace HE := Lib.hid (HE.out.row (show _ ≤ w.heap.size + 1 by omega) (lfC { l with pt := usedP l.pt d }))
    have hc1 := (h1.cell 1).trans ha1
    go_wp2_with (first | (refine wpList_store_part rfl 29 _ _ rfl rfl rfl h1k (by simp [lfC_size, ptC_size]) (lfC_set_pt l _) (pt_info _) (ptC_one _) ?_) | (refine wpList_load_blk (by rfl) 25 _ rfl rfl (by with_reducible assumption) Tryd.underlying25 rfl (by kernel_rfl) ?_)); refine (hwd _ (hM.ext HE.out)).mono ?_; rintro e w' ⟨rfl, hE⟩; (try replace hb := hb.ext hE); (try replace hc := hc.ext hE); (try replace hd := hd.ext hE); (try replace h1 := h1.ext hE); (try replace hM := hM.ext hE); (try replace HE := Lib.hid (HE.out.trans hE))
    clear hE hc1 h1k
    go_wp2_with fail; refine (hgt _).mono ?_; rintro e w' ⟨rfl, hE⟩; (try replace hb := hb.ext hE); (try replace hc := hc.ext hE); (try replace hd := hd.ext hE); (try replace h1 := h1.ext hE); (try replace hM := hM.ext hE); (try replace HE := Lib.hid (HE.out.trans hE))
    clear hE
    go_wp2_with fail; refine (hu2 _).mono ?_; rintro e w' ⟨rfl, hE⟩; (try replace hb := hb.ext hE); (try replace hc := hc.ext hE); (try replace hd := hd.ext hE); (try replace h1 := h1.ext hE); (try replace hM := hM.ext hE); (try replace HE := Lib.hid (HE.out.trans hE))
    clear hE
    go_wp2_with fail; refine (hpt _).mono ?_; rintro e w' ⟨rfl, hE⟩; (try replace hb := hb.ext hE); (try replace hc := hc.ext hE); (try replace hd := hd.ext hE); (try replace h1 := h1.ext hE); (try replace hM := hM.ext hE); (try replace HE := Lib.hid (HE.out.trans hE))
    clear hE
    have hc1 := (h1.cell 1).trans ha1
    have hszB : w.heap.size < w'.heap.size := by have := hd.lt; omega
    have hszC : w.heap.size + 1 + 1 < w'.heap.size := by have := hd.lt; omega
    have hszD : w.heap.size + 1 + 1 + 1 < w'.heap.size := hd.lt
    go_wp2_with (first | (refine wpList_load_blk (by rfl) 25 _ rfl rfl (by with_reducible assumption) Tryd.underlying25 rfl (by kernel_rfl) ?_)); refine (hst _ (hM.ext HE.out)).mono ?_; rintro e w' ⟨A2, c2, rfl, hM2, ho, hE⟩; (try replace hb := hb.ext hE); (try replace hc := hc.ext hE); (try replace hd := hd.ext hE); (try replace h1 := h1.ext hE); (try replace hM := hM.ext hE); (try replace HE := Lib.hid (HE.out.trans hE))
    clear hc1
    have hsz2 : w.heap.size + 4 ≤ w'.heap.size := by have := hd.lt; omega
    have hM3 := (hM2.row' (ho w.heap.size) (Nat.le_refl _) hszB #[.int .u64 (S : Int), .slice A2 (markL L l.at' d).length c2])
    clear hE
    have hbk := hb
    have key := (hb).row (#[.int .u64 (S : Int), .slice A2 (markL L l.at' d).length c2]); clear hb; (try replace hb := Blk.apart hb (show _ ≠ w.heap.size by omega) (#[.int .u64 (S : Int), .slice A2 (markL L l.at' d).length c2])); (try replace hc := Blk.apart hc (show _ ≠ w.heap.size by omega) (#[.int .u64 (S : Int), .slice A2 (markL L l.at' d).length c2])); (try replace hd := Blk.apart hd (show _ ≠ w.heap.size by omega) (#[.int .u64 (S : Int), .slice A2 (markL L l.at' d).length c2])); (try replace h1 := Blk.apart h1 (show _ ≠ w.heap.size by omega) (#[.int .u64 (S : Int), .slice A2 (markL L l.at' d).length c2])); have hb := key; clear key; replace HE := Lib.hid (HE.out.row (show _ ≤ w.heap.size by omega) (#[.int .u64 (S : Int), .slice A2 (markL L l.at' d).length c2]))
    go_wp2_with (refine wpList_store_row rfl 25 _ _ rfl _ _ rfl rfl _ _ hbk (by kernel_rfl) (by rfl) (by simp [Value.oneCell']) ?_)
    (try replace hb := Blk.drew hb); (try replace hc := Blk.drew hc); (try replace hd := Blk.drew hd); (try replace h1 := Blk.drew h1); replace HE := Lib.hid HE.out.drew
    refine wp_region_seq [(0, false), (1, false), (2, true), (3, true)] (Gap (w.heap.size + 1 + 1) (w.heap.size + 4)) (by kernel_rfl) (by kernel_rfl) (Gap.refl _ _) (fun _ _ _ => Gap.trans) ?_; simp only [List.map, nth_z, nth_s]
    refine seq_load rfl rfl (fun x hx => Gap.blk hx (hb.drew) (by omega)) rfl Tryd.underlying25 (by kernel_rfl) (by rfl) ?_; intro K hK; simp only [Act.put, List.setIfInBounds_toArray, List.set_cons_zero, List.set_cons_succ]; refine hK _ ?_; clear hK K
    refine seq_load rfl rfl (fun x hx => Gap.blk hx (h1.drew) (by omega)) rfl Tryd.underlying31 (lf_info _) (by rfl) ?_; intro K hK; simp only [Act.put, List.setIfInBounds_toArray, List.set_cons_zero, List.set_cons_succ]; refine hK _ ?_; clear hK K
    refine seq_store_row rfl rfl rfl (hc.drew) (by kernel_rfl) (by rfl) (by simp [Value.oneCell']) (by rfl) (Gap.row _ (by omega) (by omega) _) ?_; intro K hK; simp only [Act.put, List.setIfInBounds_toArray, List.set_cons_zero, List.set_cons_succ]; refine hK _ _ ?_; clear hK K
    refine seq_store_row rfl rfl rfl ((hd.drew.apart (by omega) _)) (lf_info _) (by simp [lfC_size]) (lfC_one _) (by rfl) (Gap.row _ (by omega) (by omega) _) ?_; intro K hK; simp only [Act.put, List.setIfInBounds_toArray, List.set_cons_zero, List.set_cons_succ]; refine hK _ _ ?_; clear hK K
    refine seq_done ?_
    go_wp2
    (try simp only [Exit.inBlock, Exit.then]); (try rw [Exit.noGoto_ret]); refine bodyPost_ret (results_cc rfl _ _ rfl rfl (((hc.drew.row _).apart (by omega) _)) (((hd.drew.apart (by omega) _).row _)) Tryd.underlying25 rfl (by first | exact lf_info _ | kernel_rfl) Tryd.underlying31 rfl (by first | exact lf_info _ | kernel_rfl)) rfl ?_
    exact ⟨A2, c2, rfl, (((hM3.ext (Ext.refl _).drew).row' (ho w.heap.size) (by omega) hszC _).row' (ho w.heap.size) (by omega) hszD _), fun lo hi hh _ => (ho lo).mono (by omega), (HE.out.row (by omega) _).row (by omega) _⟩

/-- what a walk leaves -/
def Walked (A0 : Option Addr) (S : Nat) (L : List (Nat × Nat)) (r a : Nat) (y : Wy) (w : World) (e : Ending) (w' : World) : Prop :=
  ∃ A c, e = .returned (.tuple #[.agg #[.int .u64 (S : Int), .slice A (walkL S L r a y).length c], .agg (lfC (walkF S L r a y)), .agg (ftC (fltF (walkS S L r a y) y.kd.toNat a))]) ∧ Mem w' S A (walkL S L r a y) c ∧
    (∀ lo hi, hi ≤ w.heap.size → Out lo hi A0 L.length → Out lo hi A (walkL S L r a y).length) ∧ Ext w w'
theorem lf_build0 : Tryd.prog.built 31 [] = some (lfC zLf) := by rw [lfC_zero]; kernel_rfl
theorem ft_build0 : Tryd.prog.built 33 [] = some (ftC zFt) := by rw [ftC_z]; kernel_rfl
set_option maxHeartbeats 4000000 in
theorem walk_c {w : World} {S : Nat} {A : Option Addr} {L : List (Nat × Nat)} {c : Nat} (hM : Mem w S A L c) (hf : L.length ≤ 999) {r a : Nat} (hr : r < 17592186044416) (a1 : a < 18446744073709551616) (y : Wy) (hy : wyIs y = true) (hT : Lay w) :
    Calls Tryd.prog 16 #[.agg #[.int .u64 (S : Int), .slice A L.length c], .int .u64 (r : Int), .int .u64 (a : Int), .agg (wyC y)] w (Walked A S L r a y w) := by
  obtain ⟨W0, hW⟩ : ∃ W0, W0 = ((((w.alloc (.cells #[.int .u64 (S : Int), .slice A L.length c] 25)).alloc (.cells (wyC y) 39)).alloc (.cells #[.int .u64 0, .slice none 0 0] 25)).alloc (.cells #[.int .i64 0, .int .u64 0, .bool false, .bool false, .bool false, .bool false, .bool false, .bool false, .bool false, .bool false, .int .u64 0, .int .u64 0, .int .u64 0] 31)).alloc (.cells #[.bool false, .int .i64 0, .int .u64 0] 33) := ⟨_, rfl⟩
  have HE : Hid (Ext w W0) := Lib.hid (by rw [hW]; exact (((((Ext.refl w).alloc _).alloc _).alloc _).alloc _).alloc _)
  have hb : Blk W0 w.heap.size 25 #[.int .u64 (S : Int), .slice A L.length c] := by rw [hW]; exact ((((Blk.new w _ _).alloc _).alloc _).alloc _).alloc _
  have h2 : Blk W0 (w.heap.size + 1) 39 (wyC y) := by rw [hW]; exact (((blk_at (by simp)).alloc _).alloc _).alloc _
  have hc : Blk W0 (w.heap.size + 1 + 1) 25 #[.int .u64 0, .slice none 0 0] := by rw [hW]; exact ((blk_at (by simp)).alloc _).alloc _
  have hd : Blk W0 (w.heap.size + 1 + 1 + 1) 31 #[.int .i64 0, .int .u64 0, .bool false, .bool false, .bool false, .bool false, .bool false, .bool false, .bool false, .bool false, .int .u64 0, .int .u64 0, .int .u64 0] := by rw [hW]; exact (blk_at (by simp)).alloc _
  have hz : Blk W0 (w.heap.size + 1 + 1 + 1 + 1) 33 #[.bool false, .int .i64 0, .int .u64 0] := by rw [hW]; exact blk_at (by simp)
  have HW := Lib.hid hW
  have hbL := hb
  have h2L := h2
  rw [hW] at hbL h2L
  clear hW
  obtain ⟨k, hk3, hk⟩ : ∃ k : Nat, k < 3 ∧ y.kd = (k : Int) := by
    have := (wy_cases hy).1
    exact ⟨y.kd.toNat, by omega, by omega⟩
  have hy0 : (wyC y)[0]? = some (.int .i64 (k : Int)) := by rw [wyC_eq, hk]; rfl
  have HKD : Hid (y.kd.toNat = k ∧ (y.kd == 2) = ((k : Int) == 2)) := Lib.hid ⟨by omega, by rw [hk]⟩
  have h2c := (h2L.cell 0).trans hy0
  have hlk := fun w (hM : Mem w S A L c) (hT : Lay w) => look_c hM hr a1 k hk3 hT
  clear hk
  have hal := fun w (p : Pm) => al8_c p y hy w
  have hpg := page9_c k hk3 a
  have hleaf : (lookN S L r a).so = 0 → LeafOf S L (lookN S L r a).lf := fun h => (look_leaf h).2
  have hmk := fun w (hM : Mem w S A L c) (h : (lookN S L r a).so = 0) (d : Bool) => mark_c hM hf (lookN S L r a).lf (hleaf h).al (hleaf h).lt d
  have hlf0 : (lookN S L r a).so ≠ 0 → (lookN S L r a).lf = zLf := fun h => (look_none h).2
  by_cases hso : (lookN S L r a).so = 0
  case neg =>
    have H := Lib.hid (walk_fault (y := y) hso)
    have hb1 : (ftC (fltF (lookN S L r a).so k a))[0]? = some (.bool true) := by unfold fltF; rw [if_neg hso, ftC_def]; rfl
    clear hmk hleaf hlf0 hso
    generalize (lookN S L r a).lf = f at hlk
    generalize (lookN S L r a).so = o at H hb1 hlk
    generalize hF : fltF o k a = F at hlk hb1
    have HF0 := Lib.hid hF
    clear hF
    go_enter Tryd.func16, Tryd.ntmps16
    go_wp2_with (refine wpList_load_blk (by rfl) 25 _ rfl rfl (by with_reducible assumption) Tryd.underlying25 rfl (by kernel_rfl) ?_)
    refine (hlk _ (hM.ext (HW.out ▸ HE.out)) (hT.ext (HW.out ▸ HE.out))).mono ?_
    rintro e w5 ⟨rfl, hE⟩
    rw [← HW.out] at hE
    (try replace hb := hb.ext hE); (try replace hc := hc.ext hE); (try replace hd := hd.ext hE); (try replace hz := hz.ext hE); (try replace h1 := h1.ext hE); (try replace h2 := h2.ext hE); (try replace h3 := h3.ext hE); (try replace hM := hM.ext hE); (try replace hO := hO.ext hE); (try replace HE := Lib.hid (HE.out.trans hE))
    clear hE HW hbL h2L h2c hlk
    have hs0 : w.heap.size + 5 ≤ w5.heap.size := by have := hz.lt; omega
    have hE := (Ext.refl (w5)).alloc (.cells (#[.int .i64 0, .int .u64 0, .bool false, .bool false, .bool false, .bool false, .bool false, .bool false, .bool false, .bool false, .int .u64 0, .int .u64 0, .int .u64 0]) 31); have hnew := Blk.new (w5) 31 (#[.int .i64 0, .int .u64 0, .bool false, .bool false, .bool false, .bool false, .bool false, .bool false, .bool false, .bool false, .int .u64 0, .int .u64 0, .int .u64 0]); (try replace hb := hb.ext hE); (try replace hc := hc.ext hE); (try replace hd := hd.ext hE); (try replace hz := hz.ext hE); (try replace h1 := h1.ext hE); (try replace h2 := h2.ext hE); (try replace h3 := h3.ext hE); (try replace hM := hM.ext hE); (try replace hO := hO.ext hE); (try replace HE := Lib.hid (HE.out.trans hE)); clear hE; have h1 := hnew; clear hnew
    have hE := (Ext.refl (w5.alloc (.cells #[.int .i64 0, .int .u64 0, .bool false, .bool false, .bool false, .bool false, .bool false, .bool false, .bool false, .bool false, .int .u64 0, .int .u64 0, .int .u64 0] 31))).alloc (.cells (#[.bool false, .int .i64 0, .int .u64 0]) 33); have hnew := Blk.new (w5.alloc (.cells #[.int .i64 0, .int .u64 0, .bool false, .bool false, .bool false, .bool false, .bool false, .bool false, .bool false, .bool false, .int .u64 0, .int .u64 0, .int .u64 0] 31)) 33 (#[.bool false, .int .i64 0, .int .u64 0]); (try replace hb := hb.ext hE); (try replace hc := hc.ext hE); (try replace hd := hd.ext hE); (try replace hz := hz.ext hE); (try replace h1 := h1.ext hE); (try replace h2 := h2.ext hE); (try replace h3 := h3.ext hE); (try replace hM := hM.ext hE); (try replace hO := hO.ext hE); (try replace HE := Lib.hid (HE.out.trans hE)); clear hE; have h3 := hnew; clear hnew
    rw [World.size_alloc] at h3
    have h1a := h1
    have h3a := h3.apart (show w5.heap.size + 1 ≠ w5.heap.size by omega) (lfC f)
    have key := (h1).row (lfC f); clear h1; (try replace hb := Blk.apart hb (show _ ≠ w5.heap.size by omega) (lfC f)); (try replace hc := Blk.apart hc (show _ ≠ w5.heap.size by omega) (lfC f)); (try replace hd := Blk.apart hd (show _ ≠ w5.heap.size by omega) (lfC f)); (try replace hz := Blk.apart hz (show _ ≠ w5.heap.size by omega) (lfC f)); (try replace h1 := Blk.apart h1 (show _ ≠ w5.heap.size by omega) (lfC f)); (try replace h2 := Blk.apart h2 (show _ ≠ w5.heap.size by omega) (lfC f)); (try replace h3 := Blk.apart h3 (show _ ≠ w5.heap.size by omega) (lfC f)); have h1 := key; clear key; replace HE := Lib.hid (HE.out.row (show _ ≤ w5.heap.size by omega) (lfC f))
    have key := (h3).row (ftC F); clear h3; (try replace hb := Blk.apart hb (show _ ≠ w5.heap.size + 1 by omega) (ftC F)); (try replace hc := Blk.apart hc (show _ ≠ w5.heap.size + 1 by omega) (ftC F)); (try replace hd := Blk.apart hd (show _ ≠ w5.heap.size + 1 by omega) (ftC F)); (try replace hz := Blk.apart hz (show _ ≠ w5.heap.size + 1 by omega) (ftC F)); (try replace h1 := Blk.apart h1 (show _ ≠ w5.heap.size + 1 by omega) (ftC F)); (try replace h2 := Blk.apart h2 (show _ ≠ w5.heap.size + 1 by omega) (ftC F)); (try replace h3 := Blk.apart h3 (show _ ≠ w5.heap.size + 1 by omega) (ftC F)); have h3 := key; clear key; replace HE := Lib.hid (HE.out.row (show _ ≤ w5.heap.size + 1 by omega) (ftC F))
    have hb1x := (h3.cell 0).trans hb1
    go_wp2_with (first | (refine wpList_store_row rfl 31 _ _ rfl _ (lfC _) rfl rfl _ _ h1a (lf_info _) (by simp [lfC_size]) (lfC_one _) ?_) | (refine wpList_store_row rfl 33 _ _ rfl _ (ftC _) rfl rfl _ _ h3a (ft_info _) (by simp [ftC_size]) (ftC_one _) ?_))
    clear h1a h3a hb1x
    generalize ((((w5.alloc (.cells #[.int .i64 0, .int .u64 0, .bool false, .bool false, .bool false, .bool false, .bool false, .bool false, .bool false, .bool false, .int .u64 0, .int .u64 0, .int .u64 0] 31)).alloc (.cells #[.bool false, .int .i64 0, .int .u64 0] 33)).setRow w5.heap.size (lfC f)).setRow (w5.heap.size + 1) (ftC F)) = X at hb hc hd hz h1 h2 h3 HE ⊢
    refine wp_region_seq [(0, false), (1, false), (2, false), (3, true), (4, true), (5, true)] (Gap (w.heap.size + 1 + 1) (w.heap.size + 5)) (by kernel_rfl) (by kernel_rfl) (Gap.refl _ _) (fun _ _ _ => Gap.trans) ?_; simp only [List.map, nth_z, nth_s]
    refine seq_load rfl rfl (fun x hx => Gap.blk hx (hb.drew) (by omega)) rfl Tryd.underlying25 (by kernel_rfl) (by rfl) ?_; intro K hK; simp only [Act.put, List.setIfInBounds_toArray, List.set_cons_zero, List.set_cons_succ]; refine hK _ ?_; clear hK K
    refine seq_build_as rfl (lf_build0) (by rfl) ?_; intro K hK; simp only [Act.put, List.setIfInBounds_toArray, List.set_cons_zero, List.set_cons_succ]; refine hK _ ?_; clear hK K
    refine seq_load rfl rfl (fun x hx => Gap.blk hx (h3.drew) (by omega)) rfl Tryd.underlying33 (ft_info _) (by rfl) ?_; intro K hK; simp only [Act.put, List.setIfInBounds_toArray, List.set_cons_zero, List.set_cons_succ]; refine hK _ ?_; clear hK K
    refine seq_store_row rfl rfl rfl (hc.drew) (by kernel_rfl) (by rfl) (by simp [Value.oneCell']) (by rfl) (Gap.row _ (by omega) (by omega) _) ?_; intro K hK; simp only [Act.put, List.setIfInBounds_toArray, List.set_cons_zero, List.set_cons_succ]; refine hK _ _ ?_; clear hK K
    refine seq_store_row rfl rfl rfl ((hd.drew.apart (by omega) _)) (lf_info _) (by simp [lfC_size]) (lfC_one _) (by rfl) (Gap.row _ (by omega) (by omega) _) ?_; intro K hK; simp only [Act.put, List.setIfInBounds_toArray, List.set_cons_zero, List.set_cons_succ]; refine hK _ _ ?_; clear hK K
    refine seq_store_row rfl rfl rfl (((hz.drew.apart (by omega) _).apart (by omega) _)) (ft_info _) (by simp [ftC_size]) (ftC_one _) (by rfl) (Gap.row _ (by omega) (by omega) _) ?_; intro K hK; simp only [Act.put, List.setIfInBounds_toArray, List.set_cons_zero, List.set_cons_succ]; refine hK _ _ ?_; clear hK K
    refine seq_done ?_
    go_wp2
    (try simp only [Exit.inBlock, Exit.then]); (try rw [Exit.noGoto_ret]); refine bodyPost_ret (results_ccc rfl _ _ rfl rfl rfl ((((hc.drew.row _).apart (by omega) _).apart (by omega) _)) ((((hd.drew.apart (by omega) _).row _).apart (by omega) _)) ((((hz.drew.apart (by omega) _).apart (by omega) _).row _)) Tryd.underlying25 rfl (by kernel_rfl) Tryd.underlying31 rfl (by exact lf_info _) Tryd.underlying33 rfl (by exact ft_info _)) rfl ?_
    exact ⟨A, c, by rw [H.out.1, H.out.2.1, H.out.2.2, HKD.out.1, HF0.out], by rw [H.out.2.1]; exact hM.ext (((HE.out.drew.row (by omega) _).row (by omega) _).row (by omega) _), fun lo hi _ ho => by rw [H.out.2.1]; exact ho, ((HE.out.drew.row (by omega) _).row (by omega) _).row (by omega) _⟩
  case pos =>
    have hb1 : (ftC zFt)[0]? = some (.bool false) := by rw [ftC_z]; rfl
    rw [hso, flt_zero] at hlk
    have HN := Lib.hid (fun h2 => walk_not (y := y) hso h2)
    have HY := Lib.hid (fun h2 => walk_yes (y := y) hso h2)
    have hm2 := fun w hM d => hmk w hM hso d
    clear hmk hleaf hlf0 hso
    generalize (lookN S L r a).lf = f at hlk HN HY hm2
    generalize hF : zFt = F at hlk hb1
    cases hpa : pmAl (permP f.pt) y
    · have H := Lib.hid (HN.out hpa)
      have hal2 := hal
      clear hm2 HN HY
      go_enter Tryd.func16, Tryd.ntmps16
      go_wp2_with (refine wpList_load_blk (by rfl) 25 _ rfl rfl (by with_reducible assumption) Tryd.underlying25 rfl (by kernel_rfl) ?_)
      refine (hlk _ (hM.ext (HW.out ▸ HE.out)) (hT.ext (HW.out ▸ HE.out))).mono ?_
      rintro e w5 ⟨rfl, hE⟩
      rw [← HW.out] at hE
      (try replace hb := hb.ext hE); (try replace hc := hc.ext hE); (try replace hd := hd.ext hE); (try replace hz := hz.ext hE); (try replace h1 := h1.ext hE); (try replace h2 := h2.ext hE); (try replace h3 := h3.ext hE); (try replace hM := hM.ext hE); (try replace hO := hO.ext hE); (try replace HE := Lib.hid (HE.out.trans hE))
      clear hE HW hbL h2L h2c hlk
      have hs0 : w.heap.size + 5 ≤ w5.heap.size := by have := hz.lt; omega
      have hE := (Ext.refl (w5)).alloc (.cells (#[.int .i64 0, .int .u64 0, .bool false, .bool false, .bool false, .bool false, .bool false, .bool false, .bool false, .bool false, .int .u64 0, .int .u64 0, .int .u64 0]) 31); have hnew := Blk.new (w5) 31 (#[.int .i64 0, .int .u64 0, .bool false, .bool false, .bool false, .bool false, .bool false, .bool false, .bool false, .bool false, .int .u64 0, .int .u64 0, .int .u64 0]); (try replace hb := hb.ext hE); (try replace hc := hc.ext hE); (try replace hd := hd.ext hE); (try replace hz := hz.ext hE); (try replace h1 := h1.ext hE); (try replace h2 := h2.ext hE); (try replace h3 := h3.ext hE); (try replace hM := hM.ext hE); (try replace hO := hO.ext hE); (try replace HE := Lib.hid (HE.out.trans hE)); clear hE; have h1 := hnew; clear hnew
      have hE := (Ext.refl (w5.alloc (.cells #[.int .i64 0, .int .u64 0, .bool false, .bool false, .bool false, .bool false, .bool false, .bool false, .bool false, .bool false, .int .u64 0, .int .u64 0, .int .u64 0] 31))).alloc (.cells (#[.bool false, .int .i64 0, .int .u64 0]) 33); have hnew := Blk.new (w5.alloc (.cells #[.int .i64 0, .int .u64 0, .bool false, .bool false, .bool false, .bool false, .bool false, .bool false, .bool false, .bool false, .int .u64 0, .int .u64 0, .int .u64 0] 31)) 33 (#[.bool false, .int .i64 0, .int .u64 0]); (try replace hb := hb.ext hE); (try replace hc := hc.ext hE); (try replace hd := hd.ext hE); (try replace hz := hz.ext hE); (try replace h1 := h1.ext hE); (try replace h2 := h2.ext hE); (try replace h3 := h3.ext hE); (try replace hM := hM.ext hE); (try replace hO := hO.ext hE); (try replace HE := Lib.hid (HE.out.trans hE)); clear hE; have h3 := hnew; clear hnew
      rw [World.size_alloc] at h3
      have h1a := h1
      have h3a := h3.apart (show w5.heap.size + 1 ≠ w5.heap.size by omega) (lfC f)
      have key := (h1).row (lfC f); clear h1; (try replace hb := Blk.apart hb (show _ ≠ w5.heap.size by omega) (lfC f)); (try replace hc := Blk.apart hc (show _ ≠ w5.heap.size by omega) (lfC f)); (try replace hd := Blk.apart hd (show _ ≠ w5.heap.size by omega) (lfC f)); (try replace hz := Blk.apart hz (show _ ≠ w5.heap.size by omega) (lfC f)); (try replace h1 := Blk.apart h1 (show _ ≠ w5.heap.size by omega) (lfC f)); (try replace h2 := Blk.apart h2 (show _ ≠ w5.heap.size by omega) (lfC f)); (try replace h3 := Blk.apart h3 (show _ ≠ w5.heap.size by omega) (lfC f)); have h1 := key; clear key; replace HE := Lib.hid (HE.out.row (show _ ≤ w5.heap.size by omega) (lfC f))
      have key := (h3).row (ftC F); clear h3; (try replace hb := Blk.apart hb (show _ ≠ w5.heap.size + 1 by omega) (ftC F)); (try replace hc := Blk.apart hc (show _ ≠ w5.heap.size + 1 by omega) (ftC F)); (try replace hd := Blk.apart hd (show _ ≠ w5.heap.size + 1 by omega) (ftC F)); (try replace hz := Blk.apart hz (show _ ≠ w5.heap.size + 1 by omega) (ftC F)); (try replace h1 := Blk.apart h1 (show _ ≠ w5.heap.size + 1 by omega) (ftC F)); (try replace h2 := Blk.apart h2 (show _ ≠ w5.heap.size + 1 by omega) (ftC F)); (try replace h3 := Blk.apart h3 (show _ ≠ w5.heap.size + 1 by omega) (ftC F)); have h3 := key; clear key; replace HE := Lib.hid (HE.out.row (show _ ≤ w5.heap.size + 1 by omega) (ftC F))
      have hb1x := (h3.cell 0).trans hb1
      go_wp2_with (first | (refine wpList_store_row rfl 31 _ _ rfl _ (lfC _) rfl rfl _ _ h1a (lf_info _) (by simp [lfC_size]) (lfC_one _) ?_) | (refine wpList_store_row rfl 33 _ _ rfl _ (ftC _) rfl rfl _ _ h3a (ft_info _) (by simp [ftC_size]) (ftC_one _) ?_))
      clear h1a h3a hb1x
      generalize ((((w5.alloc (.cells #[.int .i64 0, .int .u64 0, .bool false, .bool false, .bool false, .bool false, .bool false, .bool false, .bool false, .bool false, .int .u64 0, .int .u64 0, .int .u64 0] 31)).alloc (.cells #[.bool false, .int .i64 0, .int .u64 0] 33)).setRow w5.heap.size (lfC f)).setRow (w5.heap.size + 1) (ftC F)) = X at hb hc hd hz h1 h2 h3 HE ⊢
      (try replace hb := Blk.drew hb); (try replace hc := Blk.drew hc); (try replace hd := Blk.drew hd); (try replace hz := Blk.drew hz); (try replace h1 := Blk.drew h1); (try replace h2 := Blk.drew h2); (try replace h3 := Blk.drew h3); replace HE := Lib.hid HE.out.drew
      refine wp_region_seq [(0, false), (1, false), (3, false), (2, true), (4, true), (5, false)] Ext (by kernel_rfl) (by kernel_rfl) Ext.refl (fun _ _ _ => Ext.trans) ?_; simp only [List.map, nth_z, nth_s]
      (repeat (first | (refine seq_skip (by rfl) ?_; intro K hK; simp only [Act.put, List.setIfInBounds_toArray, List.set_cons_zero, List.set_cons_succ]; refine hK _ ?_; clear hK K) | (refine seq_skipc (by rfl) ?_; intro K hK; simp only [Act.put, List.setIfInBounds_toArray, List.set_cons_zero, List.set_cons_succ]; refine hK _ ?_; clear hK K) | (refine seq_read (by rfl) (by rfl) ?_; intro K hK; go_big_quiet_op; first | go_big_quiet_on | (refine ⟨_, fun _ _ => rfl, ?_⟩; go_big_quiet_on))))
      refine seq_load_part rfl rfl (fun x hx => Blk.ext (h1) hx) (lfC_pt f) rfl Tryd.underlying29 (pt_info _) (by rfl) ?_; intro K hK; simp only [Act.put, List.setIfInBounds_toArray, List.set_cons_zero, List.set_cons_succ]; refine hK _ ?_; clear hK K
      refine seq_load rfl rfl (fun x hx => Blk.ext (h2) hx) rfl Tryd.underlying39 (wy_info _) (by rfl) ?_; intro K hK; simp only [Act.put, List.setIfInBounds_toArray, List.set_cons_zero, List.set_cons_succ]; refine hK _ ?_; clear hK K
      refine seq_call (perm_c _ _) rfl Tryd.func42 (by kernel_rfl) (by kernel_rfl) (by rfl) (by rfl) ?_; intro K hK; rintro e w' ⟨rfl, hE⟩; refine ⟨_, rfl, hE, ?_⟩; simp only [Act.put, List.setIfInBounds_toArray, List.set_cons_zero, List.set_cons_succ]; refine hK _ _ ?_; clear hK K; (try replace hb := hb.ext hE); (try replace hc := hc.ext hE); (try replace hd := hd.ext hE); (try replace hz := hz.ext hE); (try replace h1 := h1.ext hE); (try replace h2 := h2.ext hE); (try replace h3 := h3.ext hE); (try replace hM := hM.ext hE); (try replace hO := hO.ext hE); (try replace HE := Lib.hid (HE.out.trans hE))
      clear hE
      refine seq_call (hal _ _) rfl Tryd.func41 (by kernel_rfl) (by kernel_rfl) (by rfl) (by rfl) ?_; intro K hK; rintro e w' ⟨rfl, hE⟩; refine ⟨_, rfl, hE, ?_⟩; simp only [Act.put, List.setIfInBounds_toArray, List.set_cons_zero, List.set_cons_succ]; refine hK _ _ ?_; clear hK K; (try replace hb := hb.ext hE); (try replace hc := hc.ext hE); (try replace hd := hd.ext hE); (try replace hz := hz.ext hE); (try replace h1 := h1.ext hE); (try replace h2 := h2.ext hE); (try replace h3 := h3.ext hE); (try replace hM := hM.ext hE); (try replace hO := hO.ext hE); (try replace HE := Lib.hid (HE.out.trans hE))
      clear hE
      rw [hpa]
      (repeat (first | (refine seq_skip (by rfl) ?_; intro K hK; simp only [Act.put, List.setIfInBounds_toArray, List.set_cons_zero, List.set_cons_succ]; refine hK _ ?_; clear hK K) | (refine seq_skipc (by rfl) ?_; intro K hK; simp only [Act.put, List.setIfInBounds_toArray, List.set_cons_zero, List.set_cons_succ]; refine hK _ ?_; clear hK K) | (refine seq_read (by rfl) (by rfl) ?_; intro K hK; go_big_quiet_op; first | go_big_quiet_on | (refine ⟨_, fun _ _ => rfl, ?_⟩; go_big_quiet_on))))
      refine seq_done ?_
      clear hpa
      go_wp2
      (try replace hb := Blk.drew hb); (try replace hc := Blk.drew hc); (try replace hd := Blk.drew hd); (try replace hz := Blk.drew hz); (try replace h1 := Blk.drew h1); (try replace h2 := Blk.drew h2); (try replace h3 := Blk.drew h3); replace HE := Lib.hid HE.out.drew
      refine wp_region_seq [(0, false), (1, false), (2, false), (3, false), (4, false), (5, true), (6, true), (7, true), (8, true)] (Gap (w.heap.size + 1 + 1) (w.heap.size + 5)) (by kernel_rfl) (by kernel_rfl) (Gap.refl _ _) (fun _ _ _ => Gap.trans) ?_; simp only [List.map, nth_z, nth_s]
      refine seq_load rfl rfl (fun x hx => Gap.blk hx (hb) (by omega)) rfl Tryd.underlying25 (by kernel_rfl) (by rfl) ?_; intro K hK; simp only [Act.put, List.setIfInBounds_toArray, List.set_cons_zero, List.set_cons_succ]; refine hK _ ?_; clear hK K
      refine seq_build_as rfl (lf_build0) (by rfl) ?_; intro K hK; simp only [Act.put, List.setIfInBounds_toArray, List.set_cons_zero, List.set_cons_succ]; refine hK _ ?_; clear hK K
      (repeat (first | (refine seq_skip (by rfl) ?_; intro K hK; simp only [Act.put, List.setIfInBounds_toArray, List.set_cons_zero, List.set_cons_succ]; refine hK _ ?_; clear hK K) | (refine seq_skipc (by rfl) ?_; intro K hK; simp only [Act.put, List.setIfInBounds_toArray, List.set_cons_zero, List.set_cons_succ]; refine hK _ ?_; clear hK K) | (refine seq_read (by rfl) (by rfl) ?_; intro K hK; go_big_quiet_op; first | go_big_quiet_on | (refine ⟨_, fun _ _ => rfl, ?_⟩; go_big_quiet_on))))
      refine seq_value (.int .i64 (k : Int)) (by rfl) (fun x hx => by have hq := ((Gap.blk hx (h2) (by omega)).cell 0).trans (hy0); simp [go_sem, execOp, Act.eval, hq]) ?_; intro K hK; simp only [Act.put, List.setIfInBounds_toArray, List.set_cons_zero, List.set_cons_succ]; refine hK _ ?_; clear hK K
      (repeat (first | (refine seq_skip (by rfl) ?_; intro K hK; simp only [Act.put, List.setIfInBounds_toArray, List.set_cons_zero, List.set_cons_succ]; refine hK _ ?_; clear hK K) | (refine seq_skipc (by rfl) ?_; intro K hK; simp only [Act.put, List.setIfInBounds_toArray, List.set_cons_zero, List.set_cons_succ]; refine hK _ ?_; clear hK K) | (refine seq_read (by rfl) (by rfl) ?_; intro K hK; go_big_quiet_op; first | go_big_quiet_on | (refine ⟨_, fun _ _ => rfl, ?_⟩; go_big_quiet_on))))
      refine seq_call (hpg _ (hT.ext HE.out).2) rfl Tryd.func30 (by kernel_rfl) (by kernel_rfl) (by rfl) (by rfl) ?_; intro K hK; rintro e w' ⟨rfl, hE⟩; refine ⟨_, rfl, (Gap.ext hE), ?_⟩; simp only [Act.put, List.setIfInBounds_toArray, List.set_cons_zero, List.set_cons_succ]; refine hK _ _ ?_; clear hK K; (try replace hb := hb.ext hE); (try replace hc := hc.ext hE); (try replace hd := hd.ext hE); (try replace hz := hz.ext hE); (try replace h1 := h1.ext hE); (try replace h2 := h2.ext hE); (try replace h3 := h3.ext hE); (try replace hM := hM.ext hE); (try replace hO := hO.ext hE); (try replace HE := Lib.hid (HE.out.trans hE))
      clear hE
      refine seq_store_row rfl rfl rfl (hc) (by kernel_rfl) (by rfl) (by simp [Value.oneCell']) (by rfl) (Gap.row _ (by omega) (by omega) _) ?_; intro K hK; simp only [Act.put, List.setIfInBounds_toArray, List.set_cons_zero, List.set_cons_succ]; refine hK _ _ ?_; clear hK K
      refine seq_store_row rfl rfl rfl ((hd.apart (by omega) _)) (lf_info _) (by simp [lfC_size]) (lfC_one _) (by rfl) (Gap.row _ (by omega) (by omega) _) ?_; intro K hK; simp only [Act.put, List.setIfInBounds_toArray, List.set_cons_zero, List.set_cons_succ]; refine hK _ _ ?_; clear hK K
      refine seq_store_row rfl rfl rfl (((hz.apart (by omega) _).apart (by omega) _)) (ft_info _) (by simp [ftC_size]) (ftC_one _) (by rfl) (Gap.row _ (by omega) (by omega) _) ?_; intro K hK; simp only [Act.put, List.setIfInBounds_toArray, List.set_cons_zero, List.set_cons_succ]; refine hK _ _ ?_; clear hK K
      refine seq_done ?_
      go_wp2
      (try simp only [Exit.inBlock, Exit.then]); (try rw [Exit.noGoto_ret]); refine bodyPost_ret (results_ccc rfl _ _ rfl rfl rfl ((((hc.row _).apart (by omega) _).apart (by omega) _)) ((((hd.apart (by omega) _).row _).apart (by omega) _)) ((((hz.apart (by omega) _).apart (by omega) _).row _)) Tryd.underlying25 rfl (by kernel_rfl) Tryd.underlying31 rfl (by exact lf_info _) Tryd.underlying33 rfl (by exact ft_info _)) rfl ?_
      exact ⟨A, c, by rw [H.out.1, H.out.2.1, H.out.2.2, HKD.out.1, flt_page], by rw [H.out.2.1]; exact hM.ext (((HE.out.row (by omega) _).row (by omega) _).row (by omega) _), fun lo hi _ ho => by rw [H.out.2.1]; exact ho, ((HE.out.row (by omega) _).row (by omega) _).row (by omega) _⟩
    · have H := Lib.hid (HY.out hpa)
      clear HN HY
      go_enter Tryd.func16, Tryd.ntmps16
      go_wp2_with (refine wpList_load_blk (by rfl) 25 _ rfl rfl (by with_reducible assumption) Tryd.underlying25 rfl (by kernel_rfl) ?_)
      refine (hlk _ (hM.ext (HW.out ▸ HE.out)) (hT.ext (HW.out ▸ HE.out))).mono ?_
      rintro e w5 ⟨rfl, hE⟩
      rw [← HW.out] at hE
      (try replace hb := hb.ext hE); (try replace hc := hc.ext hE); (try replace hd := hd.ext hE); (try replace hz := hz.ext hE); (try replace h1 := h1.ext hE); (try replace h2 := h2.ext hE); (try replace h3 := h3.ext hE); (try replace hM := hM.ext hE); (try replace hO := hO.ext hE); (try replace HE := Lib.hid (HE.out.trans hE))
      clear hE HW hbL h2L h2c hlk
      have hs0 : w.heap.size + 5 ≤ w5.heap.size := by have := hz.lt; omega
      have hE := (Ext.refl (w5)).alloc (.cells (#[.int .i64 0, .int .u64 0, .bool false, .bool false, .bool false, .bool false, .bool false, .bool false, .bool false, .bool false, .int .u64 0, .int .u64 0, .int .u64 0]) 31); have hnew := Blk.new (w5) 31 (#[.int .i64 0, .int .u64 0, .bool false, .bool false, .bool false, .bool false, .bool false, .bool false, .bool false, .bool false, .int .u64 0, .int .u64 0, .int .u64 0]); (try replace hb := hb.ext hE); (try replace hc := hc.ext hE); (try replace hd := hd.ext hE); (try replace hz := hz.ext hE); (try replace h1 := h1.ext hE); (try replace h2 := h2.ext hE); (try replace h3 := h3.ext hE); (try replace hM := hM.ext hE); (try replace hO := hO.ext hE); (try replace HE := Lib.hid (HE.out.trans hE)); clear hE; have h1 := hnew; clear hnew
      have hE := (Ext.refl (w5.alloc (.cells #[.int .i64 0, .int .u64 0, .bool false, .bool false, .bool false, .bool false, .bool false, .bool false, .bool false, .bool false, .int .u64 0, .int .u64 0, .int .u64 0] 31))).alloc (.cells (#[.bool false, .int .i64 0, .int .u64 0]) 33); have hnew := Blk.new (w5.alloc (.cells #[.int .i64 0, .int .u64 0, .bool false, .bool false, .bool false, .bool false, .bool false, .bool false, .bool false, .bool false, .int .u64 0, .int .u64 0, .int .u64 0] 31)) 33 (#[.bool false, .int .i64 0, .int .u64 0]); (try replace hb := hb.ext hE); (try replace hc := hc.ext hE); (try replace hd := hd.ext hE); (try replace hz := hz.ext hE); (try replace h1 := h1.ext hE); (try replace h2 := h2.ext hE); (try replace h3 := h3.ext hE); (try replace hM := hM.ext hE); (try replace hO := hO.ext hE); (try replace HE := Lib.hid (HE.out.trans hE)); clear hE; have h3 := hnew; clear hnew
      rw [World.size_alloc] at h3
      have h1a := h1
      have h3a := h3.apart (show w5.heap.size + 1 ≠ w5.heap.size by omega) (lfC f)
      have key := (h1).row (lfC f); clear h1; (try replace hb := Blk.apart hb (show _ ≠ w5.heap.size by omega) (lfC f)); (try replace hc := Blk.apart hc (show _ ≠ w5.heap.size by omega) (lfC f)); (try replace hd := Blk.apart hd (show _ ≠ w5.heap.size by omega) (lfC f)); (try replace hz := Blk.apart hz (show _ ≠ w5.heap.size by omega) (lfC f)); (try replace h1 := Blk.apart h1 (show _ ≠ w5.heap.size by omega) (lfC f)); (try replace h2 := Blk.apart h2 (show _ ≠ w5.heap.size by omega) (lfC f)); (try replace h3 := Blk.apart h3 (show _ ≠ w5.heap.size by omega) (lfC f)); have h1 := key; clear key; replace HE := Lib.hid (HE.out.row (show _ ≤ w5.heap.size by omega) (lfC f))
      have key := (h3).row (ftC F); clear h3; (try replace hb := Blk.apart hb (show _ ≠ w5.heap.size + 1 by omega) (ftC F)); (try replace hc := Blk.apart hc (show _ ≠ w5.heap.size + 1 by omega) (ftC F)); (try replace hd := Blk.apart hd (show _ ≠ w5.heap.size + 1 by omega) (ftC F)); (try replace hz := Blk.apart hz (show _ ≠ w5.heap.size + 1 by omega) (ftC F)); (try replace h1 := Blk.apart h1 (show _ ≠ w5.heap.size + 1 by omega) (ftC F)); (try replace h2 := Blk.apart h2 (show _ ≠ w5.heap.size + 1 by omega) (ftC F)); (try replace h3 := Blk.apart h3 (show _ ≠ w5.heap.size + 1 by omega) (ftC F)); have h3 := key; clear key; replace HE := Lib.hid (HE.out.row (show _ ≤ w5.heap.size + 1 by omega) (ftC F))
      have hb1x := (h3.cell 0).trans hb1
      go_wp2_with (first | (refine wpList_store_row rfl 31 _ _ rfl _ (lfC _) rfl rfl _ _ h1a (lf_info _) (by simp [lfC_size]) (lfC_one _) ?_) | (refine wpList_store_row rfl 33 _ _ rfl _ (ftC _) rfl rfl _ _ h3a (ft_info _) (by simp [ftC_size]) (ftC_one _) ?_))
      clear h1a h3a hb1x
      generalize ((((w5.alloc (.cells #[.int .i64 0, .int .u64 0, .bool false, .bool false, .bool false, .bool false, .bool false, .bool false, .bool false, .bool false, .int .u64 0, .int .u64 0, .int .u64 0] 31)).alloc (.cells #[.bool false, .int .i64 0, .int .u64 0] 33)).setRow w5.heap.size (lfC f)).setRow (w5.heap.size + 1) (ftC F)) = X at hb hc hd hz h1 h2 h3 HE ⊢
      (try replace hb := Blk.drew hb); (try replace hc := Blk.drew hc); (try replace hd := Blk.drew hd); (try replace hz := Blk.drew hz); (try replace h1 := Blk.drew h1); (try replace h2 := Blk.drew h2); (try replace h3 := Blk.drew h3); replace HE := Lib.hid HE.out.drew
      refine wp_region_seq [(0, false), (1, false), (3, false), (2, true), (4, true), (5, false)] Ext (by kernel_rfl) (by kernel_rfl) Ext.refl (fun _ _ _ => Ext.trans) ?_; simp only [List.map, nth_z, nth_s]
      (repeat (first | (refine seq_skip (by rfl) ?_; intro K hK; simp only [Act.put, List.setIfInBounds_toArray, List.set_cons_zero, List.set_cons_succ]; refine hK _ ?_; clear hK K) | (refine seq_skipc (by rfl) ?_; intro K hK; simp only [Act.put, List.setIfInBounds_toArray, List.set_cons_zero, List.set_cons_succ]; refine hK _ ?_; clear hK K) | (refine seq_read (by rfl) (by rfl) ?_; intro K hK; go_big_quiet_op; first | go_big_quiet_on | (refine ⟨_, fun _ _ => rfl, ?_⟩; go_big_quiet_on))))
      refine seq_load_part rfl rfl (fun x hx => Blk.ext (h1) hx) (lfC_pt f) rfl Tryd.underlying29 (pt_info _) (by rfl) ?_; intro K hK; simp only [Act.put, List.setIfInBounds_toArray, List.set_cons_zero, List.set_cons_succ]; refine hK _ ?_; clear hK K
      refine seq_load rfl rfl (fun x hx => Blk.ext (h2) hx) rfl Tryd.underlying39 (wy_info _) (by rfl) ?_; intro K hK; simp only [Act.put, List.setIfInBounds_toArray, List.set_cons_zero, List.set_cons_succ]; refine hK _ ?_; clear hK K
      refine seq_call (perm_c _ _) rfl Tryd.func42 (by kernel_rfl) (by kernel_rfl) (by rfl) (by rfl) ?_; intro K hK; rintro e w' ⟨rfl, hE⟩; refine ⟨_, rfl, hE, ?_⟩; simp only [Act.put, List.setIfInBounds_toArray, List.set_cons_zero, List.set_cons_succ]; refine hK _ _ ?_; clear hK K; (try replace hb := hb.ext hE); (try replace hc := hc.ext hE); (try replace hd := hd.ext hE); (try replace hz := hz.ext hE); (try replace h1 := h1.ext hE); (try replace h2 := h2.ext hE); (try replace h3 := h3.ext hE); (try replace hM := hM.ext hE); (try replace hO := hO.ext hE); (try replace HE := Lib.hid (HE.out.trans hE))
      clear hE
      refine seq_call (hal _ _) rfl Tryd.func41 (by kernel_rfl) (by kernel_rfl) (by rfl) (by rfl) ?_; intro K hK; rintro e w' ⟨rfl, hE⟩; refine ⟨_, rfl, hE, ?_⟩; simp only [Act.put, List.setIfInBounds_toArray, List.set_cons_zero, List.set_cons_succ]; refine hK _ _ ?_; clear hK K; (try replace hb := hb.ext hE); (try replace hc := hc.ext hE); (try replace hd := hd.ext hE); (try replace hz := hz.ext hE); (try replace h1 := h1.ext hE); (try replace h2 := h2.ext hE); (try replace h3 := h3.ext hE); (try replace hM := hM.ext hE); (try replace hO := hO.ext hE); (try replace HE := Lib.hid (HE.out.trans hE))
      clear hE
      rw [hpa]
      (repeat (first | (refine seq_skip (by rfl) ?_; intro K hK; simp only [Act.put, List.setIfInBounds_toArray, List.set_cons_zero, List.set_cons_succ]; refine hK _ ?_; clear hK K) | (refine seq_skipc (by rfl) ?_; intro K hK; simp only [Act.put, List.setIfInBounds_toArray, List.set_cons_zero, List.set_cons_succ]; refine hK _ ?_; clear hK K) | (refine seq_read (by rfl) (by rfl) ?_; intro K hK; go_big_quiet_op; first | go_big_quiet_on | (refine ⟨_, fun _ _ => rfl, ?_⟩; go_big_quiet_on))))
      refine seq_done ?_
      clear hpa
      obtain ⟨d, hd2⟩ : ∃ d, ((k : Int) == 2) = d := ⟨_, rfl⟩
      have HD := Lib.hid hd2
      have h2c := (h2.cell 0).trans hy0
      have hq1 := h1.lt
      have hq2 := hb.lt
      have hq3 : w.heap.size ≤ w'.heap.size := HE.out.size
      go_wp2_with (first | (refine wpList_load_blk (by rfl) 25 _ rfl rfl (by with_reducible assumption) Tryd.underlying25 rfl (by kernel_rfl) ?_) | (refine wpList_load_blk (by rfl) 31 _ rfl rfl (by with_reducible assumption) Tryd.underlying31 rfl (by kernel_rfl) ?_)); refine (hm2 _ (hM.ext HE.out) _).mono ?_; rintro e w' ⟨A2, c2, rfl, hM2, ho, hE⟩; (try replace hb := hb.ext hE); (try replace hc := hc.ext hE); (try replace hd := hd.ext hE); (try replace hz := hz.ext hE); (try replace h1 := h1.ext hE); (try replace h2 := h2.ext hE); (try replace h3 := h3.ext hE); (try replace hM := hM.ext hE); (try replace hO := hO.ext hE); (try replace HE := Lib.hid (HE.out.trans hE))
      have hO := ho w.heap.size _ (Nat.le_refl _) (hM.out _)
      clear h2c hd2
      have hbk := hb
      have h1k := h1.apart (show w5.heap.size ≠ w.heap.size by omega) #[.int .u64 (S : Int), .slice A2 (markL L f.at' d).length c2]
      have key := (hb).row (#[.int .u64 (S : Int), .slice A2 (markL L f.at' d).length c2]); clear hb; (try replace hb := Blk.apart hb (show _ ≠ w.heap.size by omega) (#[.int .u64 (S : Int), .slice A2 (markL L f.at' d).length c2])); (try replace hc := Blk.apart hc (show _ ≠ w.heap.size by omega) (#[.int .u64 (S : Int), .slice A2 (markL L f.at' d).length c2])); (try replace hd := Blk.apart hd (show _ ≠ w.heap.size by omega) (#[.int .u64 (S : Int), .slice A2 (markL L f.at' d).length c2])); (try replace hz := Blk.apart hz (show _ ≠ w.heap.size by omega) (#[.int .u64 (S : Int), .slice A2 (markL L f.at' d).length c2])); (try replace h1 := Blk.apart h1 (show _ ≠ w.heap.size by omega) (#[.int .u64 (S : Int), .slice A2 (markL L f.at' d).length c2])); (try replace h2 := Blk.apart h2 (show _ ≠ w.heap.size by omega) (#[.int .u64 (S : Int), .slice A2 (markL L f.at' d).length c2])); (try replace h3 := Blk.apart h3 (show _ ≠ w.heap.size by omega) (#[.int .u64 (S : Int), .slice A2 (markL L f.at' d).length c2])); have hb := key; clear key; replace HE := Lib.hid (HE.out.row (show _ ≤ w.heap.size by omega) (#[.int .u64 (S : Int), .slice A2 (markL L f.at' d).length c2]))
      have key := (h1).row (lfC { f with pt := usedP f.pt d }); clear h1; (try replace hb := Blk.apart hb (show _ ≠ w5.heap.size by omega) (lfC { f with pt := usedP f.pt d })); (try replace hc := Blk.apart hc (show _ ≠ w5.heap.size by omega) (lfC { f with pt := usedP f.pt d })); (try replace hd := Blk.apart hd (show _ ≠ w5.heap.size by omega) (lfC { f with pt := usedP f.pt d })); (try replace hz := Blk.apart hz (show _ ≠ w5.heap.size by omega) (lfC { f with pt := usedP f.pt d })); (try replace h1 := Blk.apart h1 (show _ ≠ w5.heap.size by omega) (lfC { f with pt := usedP f.pt d })); (try replace h2 := Blk.apart h2 (show _ ≠ w5.heap.size by omega) (lfC { f with pt := usedP f.pt d })); (try replace h3 := Blk.apart h3 (show _ ≠ w5.heap.size by omega) (lfC { f with pt := usedP f.pt d })); have h1 := key; clear key; replace HE := Lib.hid (HE.out.row (show _ ≤ w5.heap.size by omega) (lfC { f with pt := usedP f.pt d }))
      go_wp2_with (first | (refine wpList_store_row rfl 25 _ _ rfl _ _ rfl rfl _ _ hbk (by kernel_rfl) (by rfl) (by simp [Value.oneCell']) ?_) | (refine wpList_store_row rfl 31 _ _ rfl _ (lfC _) rfl rfl _ _ h1k (lf_info _) (by simp [lfC_size]) (lfC_one _) ?_))
      have hM4 := (hM2.row' hO (Nat.le_refl _) hq2 #[.int .u64 (S : Int), .slice A2 (markL L f.at' d).length c2]).row' hO (show w.heap.size ≤ w5.heap.size by omega) hq1 (lfC { f with pt := usedP f.pt d })
      clear hbk h1k hM2 hE
      generalize (w'.setRow w.heap.size #[.int .u64 (S : Int), .slice A2 (markL L f.at' d).length c2]).setRow w5.heap.size (lfC { f with pt := usedP f.pt d }) = X2 at hb hc hd hz h1 h2 h3 HE hM4 ⊢
      (try replace hb := Blk.drew hb); (try replace hc := Blk.drew hc); (try replace hd := Blk.drew hd); (try replace hz := Blk.drew hz); (try replace h1 := Blk.drew h1); (try replace h2 := Blk.drew h2); (try replace h3 := Blk.drew h3); replace HE := Lib.hid HE.out.drew
      refine wp_region_seq [(0, false), (1, false), (2, false), (3, true), (4, true), (5, true)] (Gap (w.heap.size + 1 + 1) (w.heap.size + 5)) (by kernel_rfl) (by kernel_rfl) (Gap.refl _ _) (fun _ _ _ => Gap.trans) ?_; simp only [List.map, nth_z, nth_s]
      refine seq_load rfl rfl (fun x hx => Gap.blk hx (hb) (by omega)) rfl Tryd.underlying25 (by kernel_rfl) (by rfl) ?_; intro K hK; simp only [Act.put, List.setIfInBounds_toArray, List.set_cons_zero, List.set_cons_succ]; refine hK _ ?_; clear hK K
      refine seq_load rfl rfl (fun x hx => Gap.blk hx (h1) (by omega)) rfl Tryd.underlying31 (lf_info _) (by rfl) ?_; intro K hK; simp only [Act.put, List.setIfInBounds_toArray, List.set_cons_zero, List.set_cons_succ]; refine hK _ ?_; clear hK K
      refine seq_build_as rfl (ft_build0) (by rfl) ?_; intro K hK; simp only [Act.put, List.setIfInBounds_toArray, List.set_cons_zero, List.set_cons_succ]; refine hK _ ?_; clear hK K
      refine seq_store_row rfl rfl rfl (hc) (by kernel_rfl) (by rfl) (by simp [Value.oneCell']) (by rfl) (Gap.row _ (by omega) (by omega) _) ?_; intro K hK; simp only [Act.put, List.setIfInBounds_toArray, List.set_cons_zero, List.set_cons_succ]; refine hK _ _ ?_; clear hK K
      refine seq_store_row rfl rfl rfl ((hd.apart (by omega) _)) (lf_info _) (by simp [lfC_size]) (lfC_one _) (by rfl) (Gap.row _ (by omega) (by omega) _) ?_; intro K hK; simp only [Act.put, List.setIfInBounds_toArray, List.set_cons_zero, List.set_cons_succ]; refine hK _ _ ?_; clear hK K
      refine seq_store_row rfl rfl rfl (((hz.apart (by omega) _).apart (by omega) _)) (ft_info _) (by simp [ftC_size]) (ftC_one _) (by rfl) (Gap.row _ (by omega) (by omega) _) ?_; intro K hK; simp only [Act.put, List.setIfInBounds_toArray, List.set_cons_zero, List.set_cons_succ]; refine hK _ _ ?_; clear hK K
      refine seq_done ?_
      go_wp2
      (try simp only [Exit.inBlock, Exit.then]); (try rw [Exit.noGoto_ret]); refine bodyPost_ret (results_ccc rfl _ _ rfl rfl rfl ((((hc.row _).apart (by omega) _).apart (by omega) _)) ((((hd.apart (by omega) _).row _).apart (by omega) _)) ((((hz.apart (by omega) _).apart (by omega) _).row _)) Tryd.underlying25 rfl (by kernel_rfl) Tryd.underlying31 rfl (by exact lf_info _) Tryd.underlying33 rfl (by exact ft_info _)) rfl ?_
      refine ⟨A2, c2, by rw [H.out.1, H.out.2.1, H.out.2.2, HKD.out.2, HD.out, flt_zero], ?_, fun lo hi hh h0 => by rw [H.out.2.1, HKD.out.2, HD.out]; exact ho lo hi (by omega) h0, ((HE.out.row (by omega) _).row (by omega) _).row (by omega) _⟩
      rw [H.out.2.1, HKD.out.2, HD.out]
      exact ((((hM4.ext (Ext.refl _).drew).row' hO (by omega) (by omega) _).row' hO (by omega) (by omega) _).row' hO (by omega) (by omega) _)
end Go.Proofs.YthplkhkclhpobaaDoor
