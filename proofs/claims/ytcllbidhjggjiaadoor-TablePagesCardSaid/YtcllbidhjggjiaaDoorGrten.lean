/- The document's answers for walks (atlasref10): Look, down. -/
import Derived.Test.YtcllbidhjggjiaaDoorGcten
import Derived.Test.YtcllbidhjggjiaaDoorRfive
import Derived.Test.YtcllbidhjggjiaaDoorGrsix
import Derived.Test.YtcllbidhjggjiaaDoorGnine
import Derived.Test.YtcllbidhjggjiaaDoorGeight
import Derived.IntWalk
namespace Go.Proofs.YtcllbidhjggjiaaDoor
open Go.ChangeShapes Go.WideShapes Go.ChangeAt Go.RowKit
set_option linter.unusedVariables false
set_option linter.unusedSimpArgs false
set_option maxRecDepth 10000

theorem rpage_x (kd : Nat) (hk : kd < 3) (a : Nat) (w : World) : Calls Tryd.prog 52 #[.int .i64 3, .int .i64 (kd : Int), .int .u64 (a : Int)] w fun e w' => e = .returned (.agg (ftC (fltF 2 kd a))) ∧ Ext w w' := by
  rw [flt_page]; exact rfault9_c 2 kd (by decide) hk a w
theorem raccess_x (kd : Nat) (hk : kd < 3) (a : Nat) (w : World) : Calls Tryd.prog 52 #[.int .i64 2, .int .i64 (kd : Int), .int .u64 (a : Int)] w fun e w' => e = .returned (.agg (ftC (fltF 1 kd a))) ∧ Ext w w' := by
  rw [flt_access]; exact rfault9_c 1 kd (by decide) hk a w

set_option maxHeartbeats 4000000 in
theorem rdown_c {S : Nat} {A : Option Addr} {L : List (Nat × Nat)} {c a : Nat} (a1 : a < 18446744073709551616) (kd : Nat) (hk : kd < 3) : ∀ (n t : Nat) (g : Bool) (w : World), n ≤ 2 → Mem w S A L c → t < 17592186044416 →
    Calls Tryd.prog 53 #[.agg #[.int .u64 (S : Int), .slice A L.length c], .int .u64 (t : Int), .int .u64 (a : Int), .int .i64 (kd : Int), .int .i64 (n : Int), .bool g] w fun e w' =>
      e = .returned (.tuple #[.agg (lfC (downN S L a n t g).lf), .agg (ftC (fltF (downN S L a n t g).so kd a))]) ∧ Ext w w' := by
  intro n
  induction n using Nat.strongRecOn with
  | ind n ih =>
    intro t g w hn hM ht
    obtain ⟨W0, hW⟩ : ∃ W0, W0 = ((w.alloc (.cells #[.int .u64 (S : Int), .slice A L.length c] 25)).alloc (.cells #[.int .i64 0, .int .u64 0, .bool false, .bool false, .bool false, .bool false, .bool false, .bool false, .bool false, .bool false, .int .u64 0, .int .u64 0, .int .u64 0] 55)).alloc (.cells #[.bool false, .int .i64 0, .int .u64 0] 57) := ⟨_, rfl⟩
    have HE : Hid (Ext w W0) := Lib.hid (by rw [hW]; exact (((Ext.refl w).alloc _).alloc _).alloc _)
    have hb : Blk W0 w.heap.size 25 #[.int .u64 (S : Int), .slice A L.length c] := by rw [hW]; exact ((Blk.new w _ _).alloc _).alloc _
    have hc : Blk W0 (w.heap.size + 1) 55 #[.int .i64 0, .int .u64 0, .bool false, .bool false, .bool false, .bool false, .bool false, .bool false, .bool false, .bool false, .int .u64 0, .int .u64 0, .int .u64 0] := by rw [hW]; exact (blk_at (by simp)).alloc _
    have hd : Blk W0 (w.heap.size + 1 + 1) 57 #[.bool false, .int .i64 0, .int .u64 0] := by rw [hW]; exact blk_at (by simp)
    have HW := Lib.hid hW
    clear hW
    have hp8 := place_8 t a (n : Int)
    have hpl := place_lt (a := a) (n : Int) ht
    have hi := idx_lt (a : Int) (n : Int)
    have hat : 4096 * (t : Int) + 8 * idxI (a : Int) (n : Int) = ((placeN t a (n : Int) : Nat) : Int) := by
      have := idx_cast a (n : Int)
      unfold placeN; omega
    have hix := fun w => rindex5_c (a : Int) (n : Int) (by omega) (by omega) (by omega) (by omega) w
    have HW8 := wordL_lt hM.rl (placeN t a (n : Int) / 8)
    have hpg := rpage_x kd hk a
    have hac := raccess_x kd hk a
    have hSS := hM.ok.le
    have hwd := fun w (hM : Mem w S A L c) => rword_x hM (a := placeN t a (n : Int)) (by omega)
    have hgt : ∀ w, Calls Tryd.prog 80 #[.int .u64 ((wordL L (placeN t a (n : Int) / 8) : Nat) : Int)] w fun e w' => e = .returned (.agg (ptC (entN L (placeN t a (n : Int))))) ∧ Ext w w' := by unfold entN; exact rget_pte _ HW8
    have hbad := fun w => rbad_c (entN L (placeN t a (n : Int))) (n : Int) (by omega) (by omega) w
    have hlink := fun w => rlink_c (entN L (placeN t a (n : Int))) w
    have hpp := ent_pp L (placeN t a (n : Int))
    have hp5 := ptC_5 (entN L (placeN t a (n : Int)))
    have hp9 := ptC_9 (entN L (placeN t a (n : Int)))
    rcases down_cases S L a n t g with ⟨hs1, e1⟩ | ⟨hs1, hs2, e1⟩ | ⟨hs1, hs2, hs3, e1⟩ | ⟨hs1, hs2, hs3, k, hk1, e1⟩
    · have H := Lib.hid e1
      have hge : decide (S ≤ placeN t a (n : Int)) = true := by simpa using hs1
      clear e1 hp8 HW8 hwd hgt hbad hlink hp5 hp9 ih hpp hs1
      generalize placeN t a (n : Int) = pl at *
      generalize idxI (a : Int) (n : Int) = i at *
      go_enter Tryd.func53, Tryd.ntmps53
      go_wp2_with fail
      refine (hix _).mono ?_
      rintro e w' ⟨rfl, rfl⟩
      rw [← HW.out]
      clear HW hix
      have hb0 := hb.cell 0
      simp only [List.getElem?_toArray, List.getElem?_cons_zero] at hb0
      go_wp2_with fail; refine (hac _).mono ?_; rintro e w' ⟨rfl, hE⟩; replace hb := hb.ext hE; replace hc := hc.ext hE; replace hd := hd.ext hE; (replace HE := Lib.hid (HE.out.trans hE))
      clear hE
      have hck := hc
      have hdk := hd.apart (show w.heap.size + 1 + 1 ≠ w.heap.size + 1 by omega) #[.int .i64 0, .int .u64 0, .bool false, .bool false, .bool false, .bool false, .bool false, .bool false, .bool false, .bool false, .int .u64 0, .int .u64 0, .int .u64 0]
      go_wp2_with (first | (refine wpList_store_row rfl 55 _ _ rfl _ _ rfl rfl _ _ hck (by kernel_rfl) (by rfl) (by simp [Value.oneCell']) ?_) | (refine wpList_store_row rfl 57 _ _ rfl _ (ftC _) rfl rfl _ _ hdk (ft_info _) (by simp [ftC_size]) (ftC_one _) ?_))
      refine bodyPost_ret (results_cc rfl _ _ rfl rfl (((hc.row _).apart (by omega) _)) (((hd.apart (by omega) _).row _)) Tryd.underlying55 rfl (by (kernel_rfl)) Tryd.underlying57 rfl (by (exact ft_info _))) rfl ?_
      exact ⟨by rw [H.out, lfC_zero], (HE.out.row (by omega) _).row (by omega) _⟩
    · have H := Lib.hid e1
      have hge : decide (S ≤ placeN t a (n : Int)) = false := by simp; omega
      rw [hs2] at hbad
      clear e1 hp8 HW8 hlink hp9 ih hpp hs1 hs2
      generalize entN L (placeN t a (n : Int)) = p at *
      generalize wordL L (placeN t a (n : Int) / 8) = v at *
      generalize placeN t a (n : Int) = pl at *
      generalize idxI (a : Int) (n : Int) = i at *
      go_enter Tryd.func53, Tryd.ntmps53
      go_wp2_with fail
      refine (hix _).mono ?_
      rintro e w' ⟨rfl, rfl⟩
      rw [← HW.out]
      clear HW hix
      have hb0 := hb.cell 0
      simp only [List.getElem?_toArray, List.getElem?_cons_zero] at hb0
      go_wp2_with ((refine wpList_load_blk (by rfl) 25 _ rfl rfl (by with_reducible assumption) Tryd.underlying25 rfl (by kernel_rfl) ?_)); refine (hwd _ (hM.ext HE.out)).mono ?_; rintro e w' ⟨rfl, hE⟩; replace hb := hb.ext hE; replace hc := hc.ext hE; replace hd := hd.ext hE; (replace HE := Lib.hid (HE.out.trans hE))
      clear hE hb0
      go_wp2_with fail
      refine (hgt _).mono ?_
      rintro e w3 ⟨rfl, hE⟩
      replace hb := hb.ext hE; replace hc := hc.ext hE; replace hd := hd.ext hE; (replace HE := Lib.hid (HE.out.trans hE))
      clear hE
      have hps : w.heap.size + 3 ≤ w3.heap.size := by have := hd.lt; omega
      have hE := (Ext.refl (w3)).alloc (.cells (ptC p) 53); have hnew := Blk.new (w3) 53 (ptC p); replace hb := hb.ext hE; replace hc := hc.ext hE; replace hd := hd.ext hE; replace HE := Lib.hid (HE.out.trans hE); clear hE; have h1 := hnew; clear hnew
      go_wp2_with (first | (refine wpList_store_new rfl 53 _ _ rfl (ptC _) _ _ rfl rfl (pt_info _) (by simp [ptC_size]) (ptC_one _) ?_) | (refine wpList_load_blk (by rfl) 53 _ rfl rfl (by with_reducible assumption) Tryd.underlying53 rfl (by kernel_rfl) ?_))
      refine (hbad _).mono ?_
      rintro e w5 ⟨rfl, hE⟩
      replace hb := hb.ext hE; replace hc := hc.ext hE; replace hd := hd.ext hE; replace h1 := h1.ext hE; (replace HE := Lib.hid (HE.out.trans hE))
      clear hE
      go_wp2_with fail; refine (hpg _).mono ?_; rintro e w' ⟨rfl, hE⟩; replace hb := hb.ext hE; replace hc := hc.ext hE; replace hd := hd.ext hE; replace h1 := h1.ext hE; (replace HE := Lib.hid (HE.out.trans hE))
      clear hE
      have hck := hc
      have hdk := hd.apart (show w.heap.size + 1 + 1 ≠ w.heap.size + 1 by omega) #[.int .i64 0, .int .u64 0, .bool false, .bool false, .bool false, .bool false, .bool false, .bool false, .bool false, .bool false, .int .u64 0, .int .u64 0, .int .u64 0]
      go_wp2_with (first | (refine wpList_store_row rfl 55 _ _ rfl _ _ rfl rfl _ _ hck (by kernel_rfl) (by rfl) (by simp [Value.oneCell']) ?_) | (refine wpList_store_row rfl 57 _ _ rfl _ (ftC _) rfl rfl _ _ hdk (ft_info _) (by simp [ftC_size]) (ftC_one _) ?_))
      refine bodyPost_ret (results_cc rfl _ _ rfl rfl (((hc.row _).apart (by omega) _)) (((hd.apart (by omega) _).row _)) Tryd.underlying55 rfl (by (kernel_rfl)) Tryd.underlying57 rfl (by (exact ft_info _))) rfl ?_
      exact ⟨by rw [H.out, lfC_zero], (HE.out.row (by omega) _).row (by omega) _⟩
    · have H := Lib.hid e1
      have hge : decide (S ≤ placeN t a (n : Int)) = false := by simp; omega
      rw [link_of hs2, hs3] at hlink
      rw [hs2] at hbad
      clear e1 hp8 HW8 hp9 ih hpp hs1 hs2 hs3
      generalize entN L (placeN t a (n : Int)) = p at *
      generalize wordL L (placeN t a (n : Int) / 8) = v at *
      generalize placeN t a (n : Int) = pl at *
      generalize idxI (a : Int) (n : Int) = i at *
      cases hgl : p.g
      · have HG := Lib.hid hgl
        rw [hgl] at hp5
        clear hgl
        go_enter Tryd.func53, Tryd.ntmps53
        go_wp2_with fail
        refine (hix _).mono ?_
        rintro e w' ⟨rfl, rfl⟩
        rw [← HW.out]
        clear HW hix
        have hb0 := hb.cell 0
        simp only [List.getElem?_toArray, List.getElem?_cons_zero] at hb0
        go_wp2_with ((refine wpList_load_blk (by rfl) 25 _ rfl rfl (by with_reducible assumption) Tryd.underlying25 rfl (by kernel_rfl) ?_)); refine (hwd _ (hM.ext HE.out)).mono ?_; rintro e w' ⟨rfl, hE⟩; replace hb := hb.ext hE; replace hc := hc.ext hE; replace hd := hd.ext hE; (replace HE := Lib.hid (HE.out.trans hE))
        clear hE hb0
        go_wp2_with fail
        refine (hgt _).mono ?_
        rintro e w3 ⟨rfl, hE⟩
        replace hb := hb.ext hE; replace hc := hc.ext hE; replace hd := hd.ext hE; (replace HE := Lib.hid (HE.out.trans hE))
        clear hE
        have hps : w.heap.size + 3 ≤ w3.heap.size := by have := hd.lt; omega
        have hE := (Ext.refl (w3)).alloc (.cells (ptC p) 53); have hnew := Blk.new (w3) 53 (ptC p); replace hb := hb.ext hE; replace hc := hc.ext hE; replace hd := hd.ext hE; replace HE := Lib.hid (HE.out.trans hE); clear hE; have h1 := hnew; clear hnew
        go_wp2_with (first | (refine wpList_store_new rfl 53 _ _ rfl (ptC _) _ _ rfl rfl (pt_info _) (by simp [ptC_size]) (ptC_one _) ?_) | (refine wpList_load_blk (by rfl) 53 _ rfl rfl (by with_reducible assumption) Tryd.underlying53 rfl (by kernel_rfl) ?_))
        refine (hbad _).mono ?_
        rintro e w5 ⟨rfl, hE⟩
        replace hb := hb.ext hE; replace hc := hc.ext hE; replace hd := hd.ext hE; replace h1 := h1.ext hE; (replace HE := Lib.hid (HE.out.trans hE))
        clear hE
        go_wp2_with ((refine wpList_load_blk (by rfl) 53 _ rfl rfl (by with_reducible assumption) Tryd.underlying53 rfl (by kernel_rfl) ?_)); refine (hlink _).mono ?_; rintro e w' ⟨rfl, hE⟩; replace hb := hb.ext hE; replace hc := hc.ext hE; replace hd := hd.ext hE; replace h1 := h1.ext hE; (replace HE := Lib.hid (HE.out.trans hE))
        clear hE
        have hp6 := (h1.cell 5).trans hp5
        have h1k := h1
        have key := (h1).row (ptC (globP p g)); clear h1; replace hb := Blk.apart hb (show _ ≠ w3.heap.size by omega) (ptC (globP p g)); replace hc := Blk.apart hc (show _ ≠ w3.heap.size by omega) (ptC (globP p g)); replace hd := Blk.apart hd (show _ ≠ w3.heap.size by omega) (ptC (globP p g)); have h1 := key; clear key; replace HE := Lib.hid (HE.out.row (show _ ≤ w3.heap.size by omega) (ptC (globP p g)))
        have hck := hc
        have hdk := hd.apart (show w.heap.size + 1 + 1 ≠ w.heap.size + 1 by omega) (lfC ⟨(n : Int), pl, globP p g⟩)
        go_wp2_with (first | (refine wpList_store_cell rfl 4 _ _ rfl rfl rfl h1k (by simp [ptC_size]) (ptC_set5 p g) (by kernel_rfl) rfl rfl ?_) | (refine wpList_load_blk (by rfl) 53 _ rfl rfl (by with_reducible assumption) Tryd.underlying53 rfl (by kernel_rfl) ?_) | (refine wpList_build_as (by rfl) rfl (lf_build ⟨(n : Int), pl, globP p g⟩) ?_) | (refine wpList_store_row rfl 55 _ _ rfl _ (lfC _) rfl rfl _ _ hck (lf_info _) (by simp [lfC_size]) (lfC_one _) ?_) | (refine wpList_store_row rfl 57 _ _ rfl _ _ rfl rfl _ _ hdk (by kernel_rfl) (by rfl) (by simp [Value.oneCell']) ?_))
        refine bodyPost_ret (results_cc rfl _ _ rfl rfl (((hc.row _).apart (by omega) _)) (((hd.apart (by omega) _).row _)) Tryd.underlying55 rfl (by (exact lf_info _)) Tryd.underlying57 rfl (by (kernel_rfl))) rfl ?_
        exact ⟨by rw [H.out, HG.out, Bool.or_false, flt_zero, ftC_z], (HE.out.row (by omega) _).row (by omega) _⟩
      · have HG := Lib.hid hgl
        rw [hgl] at hp5
        clear hgl
        go_enter Tryd.func53, Tryd.ntmps53
        go_wp2_with fail
        refine (hix _).mono ?_
        rintro e w' ⟨rfl, rfl⟩
        rw [← HW.out]
        clear HW hix
        have hb0 := hb.cell 0
        simp only [List.getElem?_toArray, List.getElem?_cons_zero] at hb0
        go_wp2_with ((refine wpList_load_blk (by rfl) 25 _ rfl rfl (by with_reducible assumption) Tryd.underlying25 rfl (by kernel_rfl) ?_)); refine (hwd _ (hM.ext HE.out)).mono ?_; rintro e w' ⟨rfl, hE⟩; replace hb := hb.ext hE; replace hc := hc.ext hE; replace hd := hd.ext hE; (replace HE := Lib.hid (HE.out.trans hE))
        clear hE hb0
        go_wp2_with fail
        refine (hgt _).mono ?_
        rintro e w3 ⟨rfl, hE⟩
        replace hb := hb.ext hE; replace hc := hc.ext hE; replace hd := hd.ext hE; (replace HE := Lib.hid (HE.out.trans hE))
        clear hE
        have hps : w.heap.size + 3 ≤ w3.heap.size := by have := hd.lt; omega
        have hE := (Ext.refl (w3)).alloc (.cells (ptC p) 53); have hnew := Blk.new (w3) 53 (ptC p); replace hb := hb.ext hE; replace hc := hc.ext hE; replace hd := hd.ext hE; replace HE := Lib.hid (HE.out.trans hE); clear hE; have h1 := hnew; clear hnew
        go_wp2_with (first | (refine wpList_store_new rfl 53 _ _ rfl (ptC _) _ _ rfl rfl (pt_info _) (by simp [ptC_size]) (ptC_one _) ?_) | (refine wpList_load_blk (by rfl) 53 _ rfl rfl (by with_reducible assumption) Tryd.underlying53 rfl (by kernel_rfl) ?_))
        refine (hbad _).mono ?_
        rintro e w5 ⟨rfl, hE⟩
        replace hb := hb.ext hE; replace hc := hc.ext hE; replace hd := hd.ext hE; replace h1 := h1.ext hE; (replace HE := Lib.hid (HE.out.trans hE))
        clear hE
        go_wp2_with ((refine wpList_load_blk (by rfl) 53 _ rfl rfl (by with_reducible assumption) Tryd.underlying53 rfl (by kernel_rfl) ?_)); refine (hlink _).mono ?_; rintro e w' ⟨rfl, hE⟩; replace hb := hb.ext hE; replace hc := hc.ext hE; replace hd := hd.ext hE; replace h1 := h1.ext hE; (replace HE := Lib.hid (HE.out.trans hE))
        clear hE
        have hp6 := (h1.cell 5).trans hp5
        have h1k := h1
        have key := (h1).row (ptC (globP p true)); clear h1; replace hb := Blk.apart hb (show _ ≠ w3.heap.size by omega) (ptC (globP p true)); replace hc := Blk.apart hc (show _ ≠ w3.heap.size by omega) (ptC (globP p true)); replace hd := Blk.apart hd (show _ ≠ w3.heap.size by omega) (ptC (globP p true)); have h1 := key; clear key; replace HE := Lib.hid (HE.out.row (show _ ≤ w3.heap.size by omega) (ptC (globP p true)))
        have hck := hc
        have hdk := hd.apart (show w.heap.size + 1 + 1 ≠ w.heap.size + 1 by omega) (lfC ⟨(n : Int), pl, globP p true⟩)
        go_wp2_with (first | (refine wpList_store_cell rfl 4 _ _ rfl rfl rfl h1k (by simp [ptC_size]) (ptC_set5 p true) (by kernel_rfl) rfl rfl ?_) | (refine wpList_load_blk (by rfl) 53 _ rfl rfl (by with_reducible assumption) Tryd.underlying53 rfl (by kernel_rfl) ?_) | (refine wpList_build_as (by rfl) rfl (lf_build ⟨(n : Int), pl, globP p true⟩) ?_) | (refine wpList_store_row rfl 55 _ _ rfl _ (lfC _) rfl rfl _ _ hck (lf_info _) (by simp [lfC_size]) (lfC_one _) ?_) | (refine wpList_store_row rfl 57 _ _ rfl _ _ rfl rfl _ _ hdk (by kernel_rfl) (by rfl) (by simp [Value.oneCell']) ?_))
        refine bodyPost_ret (results_cc rfl _ _ rfl rfl (((hc.row _).apart (by omega) _)) (((hd.apart (by omega) _).row _)) Tryd.underlying55 rfl (by (exact lf_info _)) Tryd.underlying57 rfl (by (kernel_rfl))) rfl ?_
        exact ⟨by rw [H.out, HG.out, Bool.or_true, flt_zero, ftC_z], (HE.out.row (by omega) _).row (by omega) _⟩
    · have H := Lib.hid e1
      have hge : decide (S ≤ placeN t a (n : Int)) = false := by simp; omega
      rw [link_of hs2, hs3] at hlink
      rw [hs2] at hbad
      have hdn := fun (g : Bool) w (hM : Mem w S A L c) => ih k (by omega) (entN L (placeN t a (n : Int))).pp g w (by omega) hM hpp
      have hkn : (n : Int) - 1 = (k : Int) := by omega
      clear e1 hp8 HW8 ih hpp hs1 hs2 hs3 hk1
      generalize entN L (placeN t a (n : Int)) = p at *
      generalize wordL L (placeN t a (n : Int) / 8) = v at *
      generalize placeN t a (n : Int) = pl at *
      generalize idxI (a : Int) (n : Int) = i at *
      cases g
      all_goals
        simp only [Bool.true_or, Bool.false_or] at H
        go_enter Tryd.func53, Tryd.ntmps53
        go_wp2_with fail
        refine (hix _).mono ?_
        rintro e w' ⟨rfl, rfl⟩
        rw [← HW.out]
        clear HW hix
        have hb0 := hb.cell 0
        simp only [List.getElem?_toArray, List.getElem?_cons_zero] at hb0
        go_wp2_with ((refine wpList_load_blk (by rfl) 25 _ rfl rfl (by with_reducible assumption) Tryd.underlying25 rfl (by kernel_rfl) ?_)); refine (hwd _ (hM.ext HE.out)).mono ?_; rintro e w' ⟨rfl, hE⟩; replace hb := hb.ext hE; replace hc := hc.ext hE; replace hd := hd.ext hE; (replace HE := Lib.hid (HE.out.trans hE))
        clear hE hb0
        go_wp2_with fail
        refine (hgt _).mono ?_
        rintro e w3 ⟨rfl, hE⟩
        replace hb := hb.ext hE; replace hc := hc.ext hE; replace hd := hd.ext hE; (replace HE := Lib.hid (HE.out.trans hE))
        clear hE
        have hps : w.heap.size + 3 ≤ w3.heap.size := by have := hd.lt; omega
        have hE := (Ext.refl (w3)).alloc (.cells (ptC p) 53); have hnew := Blk.new (w3) 53 (ptC p); replace hb := hb.ext hE; replace hc := hc.ext hE; replace hd := hd.ext hE; replace HE := Lib.hid (HE.out.trans hE); clear hE; have h1 := hnew; clear hnew
        go_wp2_with (first | (refine wpList_store_new rfl 53 _ _ rfl (ptC _) _ _ rfl rfl (pt_info _) (by simp [ptC_size]) (ptC_one _) ?_) | (refine wpList_load_blk (by rfl) 53 _ rfl rfl (by with_reducible assumption) Tryd.underlying53 rfl (by kernel_rfl) ?_))
        refine (hbad _).mono ?_
        rintro e w5 ⟨rfl, hE⟩
        replace hb := hb.ext hE; replace hc := hc.ext hE; replace hd := hd.ext hE; replace h1 := h1.ext hE; (replace HE := Lib.hid (HE.out.trans hE))
        clear hE
        go_wp2_with ((refine wpList_load_blk (by rfl) 53 _ rfl rfl (by with_reducible assumption) Tryd.underlying53 rfl (by kernel_rfl) ?_)); refine (hlink _).mono ?_; rintro e w' ⟨rfl, hE⟩; replace hb := hb.ext hE; replace hc := hc.ext hE; replace hd := hd.ext hE; replace h1 := h1.ext hE; (replace HE := Lib.hid (HE.out.trans hE))
        clear hE
        have hp6 := (h1.cell 5).trans hp5
        have hp7 := (h1.cell 9).trans hp9
        go_wp2_with ((refine wpList_load_blk (by rfl) 25 _ rfl rfl (by with_reducible assumption) Tryd.underlying25 rfl (by kernel_rfl) ?_)); refine (hdn _ _ (hM.ext HE.out)).mono ?_; rintro e w' ⟨rfl, hE⟩; replace hb := hb.ext hE; replace hc := hc.ext hE; replace hd := hd.ext hE; replace h1 := h1.ext hE; (replace HE := Lib.hid (HE.out.trans hE))
        clear hE
        have hck := hc
        have hdk := hd.apart (show w.heap.size + 1 + 1 ≠ w.heap.size + 1 by omega) (lfC (downN S L a 2 0 false).lf)
        go_wp2_with (first | (refine wpList_store_row rfl 55 _ _ rfl _ (lfC _) rfl rfl _ _ hck (lf_info _) (by simp [lfC_size]) (lfC_one _) ?_) | (refine wpList_store_row rfl 57 _ _ rfl _ (ftC _) rfl rfl _ _ (hd.apart (by omega) _) (ft_info _) (by simp [ftC_size]) (ftC_one _) ?_))
        refine bodyPost_ret (results_cc rfl _ _ rfl rfl (((hc.row _).apart (by omega) _)) (((hd.apart (by omega) _).row _)) Tryd.underlying55 rfl (by (exact lf_info _)) Tryd.underlying57 rfl (by (exact ft_info _))) rfl ?_
        exact ⟨by rw [H.out], (HE.out.row (by omega) _).row (by omega) _⟩
end Go.Proofs.YtcllbidhjggjiaaDoor
/- The document's answers for walks (atlasref10): Look, Mark; Physical of both. -/
namespace Go.Proofs.YtcllbidhjggjiaaDoor
open Go.ChangeShapes Go.WideShapes Go.ChangeAt Go.RowKit
set_option linter.unusedVariables false
set_option linter.unusedSimpArgs false
set_option maxRecDepth 10000

set_option maxHeartbeats 1000000 in
theorem rlook_c {w : World} {S : Nat} {A : Option Addr} {L : List (Nat × Nat)} {c : Nat} (hM : Mem w S A L c) {r a : Nat} (hr : r < 17592186044416) (a1 : a < 18446744073709551616) (kd : Nat) (hk : kd < 3) :
    Calls Tryd.prog 24 #[.agg #[.int .u64 (S : Int), .slice A L.length c], .int .u64 (r : Int), .int .u64 (a : Int), .int .i64 (kd : Int)] w fun e w' =>
      e = .returned (.tuple #[.agg (lfC (lookN S L r a).lf), .agg (ftC (fltF (lookN S L r a).so kd a))]) ∧ Ext w w' := by
  obtain ⟨W0, hW⟩ : ∃ W0, W0 = ((w.alloc (.cells #[.int .u64 (S : Int), .slice A L.length c] 25)).alloc (.cells #[.int .i64 0, .int .u64 0, .bool false, .bool false, .bool false, .bool false, .bool false, .bool false, .bool false, .bool false, .int .u64 0, .int .u64 0, .int .u64 0] 55)).alloc (.cells #[.bool false, .int .i64 0, .int .u64 0] 57) := ⟨_, rfl⟩
  have HE : Hid (Ext w W0) := Lib.hid (by rw [hW]; exact (((Ext.refl w).alloc _).alloc _).alloc _)
  have hb : Blk W0 w.heap.size 25 #[.int .u64 (S : Int), .slice A L.length c] := by rw [hW]; exact ((Blk.new w _ _).alloc _).alloc _
  have hc : Blk W0 (w.heap.size + 1) 55 #[.int .i64 0, .int .u64 0, .bool false, .bool false, .bool false, .bool false, .bool false, .bool false, .bool false, .bool false, .int .u64 0, .int .u64 0, .int .u64 0] := by rw [hW]; exact (blk_at (by simp)).alloc _
  have hd : Blk W0 (w.heap.size + 1 + 1) 57 #[.bool false, .int .i64 0, .int .u64 0] := by rw [hW]; exact blk_at (by simp)
  have HW := Lib.hid hW
  clear hW
  have his := fun w => ris5_c (a : Int) (by omega) (by omega) w
  have hpg := rpage_x kd hk a
  have hdn := fun w (hM : Mem w S A L c) => rdown_c a1 kd hk 2 r false w (by omega) hM hr
  cases hv : vaB (a : Int)
  · have H := Lib.hid (look_not (S := S) (L := L) (r := r) hv)
    rw [hv] at his
    clear hv hdn
    go_enter Tryd.func24, Tryd.ntmps24
    go_wp2_with fail
    refine (his _).mono ?_
    rintro e w' ⟨rfl, rfl⟩
    rw [← HW.out]
    clear HW his
    go_wp2_with fail; refine (hpg _).mono ?_; rintro e w' ⟨rfl, hE⟩; replace hb := hb.ext hE; replace hc := hc.ext hE; replace hd := hd.ext hE; (replace HE := Lib.hid (HE.out.trans hE))
    clear hE
    go_wp2_with (first | (refine wpList_store_row rfl 55 _ _ rfl _ _ rfl rfl _ _ hc (by kernel_rfl) (by rfl) (by simp [Value.oneCell']) ?_) | (refine wpList_store_row rfl 57 _ _ rfl _ (ftC _) rfl rfl _ _ (hd.apart (by omega) _) (ft_info _) (by simp [ftC_size]) (ftC_one _) ?_))
    refine bodyPost_ret (results_cc rfl _ _ rfl rfl (((hc.row _).apart (by omega) _)) (((hd.apart (by omega) _).row _)) Tryd.underlying55 rfl (by (kernel_rfl)) Tryd.underlying57 rfl (by (exact ft_info _))) rfl ?_
    exact ⟨by rw [H.out, lfC_zero], (HE.out.row (by omega) _).row (by omega) _⟩
  · have H := Lib.hid (look_yes (S := S) (L := L) (r := r) hv)
    rw [hv] at his
    clear hv hpg
    go_enter Tryd.func24, Tryd.ntmps24
    go_wp2_with fail
    refine (his _).mono ?_
    rintro e w' ⟨rfl, rfl⟩
    rw [← HW.out]
    clear HW his
    go_wp2_with ((refine wpList_load_blk (by rfl) 25 _ rfl rfl (by with_reducible assumption) Tryd.underlying25 rfl (by kernel_rfl) ?_)); refine (hdn _ (hM.ext HE.out)).mono ?_; rintro e w' ⟨rfl, hE⟩; replace hb := hb.ext hE; replace hc := hc.ext hE; replace hd := hd.ext hE; (replace HE := Lib.hid (HE.out.trans hE))
    clear hE
    go_wp2_with (first | (refine wpList_store_row rfl 55 _ _ rfl _ (lfC _) rfl rfl _ _ hc (lf_info _) (by simp [lfC_size]) (lfC_one _) ?_) | (refine wpList_store_row rfl 57 _ _ rfl _ (ftC _) rfl rfl _ _ (hd.apart (by omega) _) (ft_info _) (by simp [ftC_size]) (ftC_one _) ?_))
    refine bodyPost_ret (results_cc rfl _ _ rfl rfl (((hc.row _).apart (by omega) _)) (((hd.apart (by omega) _).row _)) Tryd.underlying55 rfl (by (exact lf_info _)) Tryd.underlying57 rfl (by (exact ft_info _))) rfl ?_
    exact ⟨by rw [H.out], (HE.out.row (by omega) _).row (by omega) _⟩

theorem lfC_set8 (l : Lf) (b : Bool) : (lfC l).setIfInBounds 8 (.bool b) = lfC { l with pt := { l.pt with a := b } } := by simp only [lfC_eq, ptC_eq]; kernel_rfl
theorem lfC_set9 (l : Lf) (b : Bool) : (lfC l).setIfInBounds 9 (.bool b) = lfC { l with pt := { l.pt with d := b } } := by simp only [lfC_eq, ptC_eq]; kernel_rfl
end Go.Proofs.YtcllbidhjggjiaaDoor
/- The document's answers for walks (atlasref10): Walk; Physical of both. -/
namespace Go.Proofs.YtcllbidhjggjiaaDoor
open Go.ChangeShapes Go.WideShapes Go.ChangeAt Go.RowKit
set_option linter.unusedVariables false
set_option linter.unusedSimpArgs false
set_option maxRecDepth 10000

theorem leaf_d {S : Nat} {L : List (Nat × Nat)} {f : Lf} (h : LeafOf S L f) : f.pt.d = (entN L f.at').d := by rw [h.pt]; unfold globP; rfl
/-! Physical -/
theorem ptP_9 (l : Lf) : (lfC l)[11]? = some (.int .u64 (l.pt.pp : Int)) := by simp only [lfC_eq, ptC_eq]; rfl
/-- a leaf's address -/
def physI (l : Lf) (a : Nat) : Int := (l.pt.pp : Int) * 4096 + offI (a : Int) l.lv
theorem phys_lt {l : Lf} {a : Nat} (hp : l.pt.pp < 17592186044416) (h0 : 0 ≤ l.lv) (h2 : l.lv ≤ 2) : 0 ≤ physI l a ∧ physI l a < 144115188075855872 := by
  have ho := off_lt (a : Int) l.lv
  have hs : sizI l.lv ≤ 1073741824 := (siz_lt h0 h2).2
  unfold physI; omega
theorem rphysical_c (l : Lf) (hp : l.pt.pp < 17592186044416) (h0 : 0 ≤ l.lv) (h2 : l.lv ≤ 2) {a : Nat} (a1 : a < 18446744073709551616) (w : World) :
    Calls Tryd.prog 25 #[.agg (lfC l), .int .u64 (a : Int)] w fun e w' => e = .returned (.int .u64 (physI l a)) ∧ Ext w w' := by
  have ho := off_lt (a : Int) l.lv
  have hs : sizI l.lv ≤ 1073741824 := (siz_lt h0 h2).2
  have h1 := Blk.new w 55 (lfC l)
  have HE := Lib.hid ((Ext.refl w).alloc (.cells (lfC l) 55))
  have hof := fun w => roffset5_c (a : Int) l.lv (by omega) (by omega) h0 h2 w
  have hcm : physI l a = 4096 * (l.pt.pp : Int) + offI (a : Int) l.lv := by unfold physI; omega
  rw [hcm]
  clear hcm
  generalize offI (a : Int) l.lv = q at *
  have hw1 : IntKind.u64.wrap (4096 * (l.pt.pp : Int)) = 4096 * (l.pt.pp : Int) := IntWalk.u64_in _ (by omega)
  have hw2 : IntKind.u64.wrap (4096 * (l.pt.pp : Int) + q) = 4096 * (l.pt.pp : Int) + q := IntWalk.u64_in _ (by omega)
  go_enter Tryd.func25, Tryd.ntmps25
  go_wp2_with fail
  (try replace h1 := Blk.drew h1); (try replace h2 := Blk.drew h2); replace HE := Lib.hid HE.out.drew
  refine wp_region_seq [(0, false), (1, false), (2, false), (3, false), (4, false), (5, false), (6, false), (7, true), (8, false), (9, false)] Ext (by kernel_rfl) (by kernel_rfl) Ext.refl (fun _ _ _ => Ext.trans) ?_; simp only [List.map, nth_z, nth_s]
  (repeat (first | (refine seq_skip (by rfl) ?_; intro K hK; simp only [Act.put, List.setIfInBounds_toArray, List.set_cons_zero, List.set_cons_succ]; refine hK _ ?_; clear hK K) | (refine seq_skipc (by rfl) ?_; intro K hK; simp only [Act.put, List.setIfInBounds_toArray, List.set_cons_zero, List.set_cons_succ]; refine hK _ ?_; clear hK K) | (refine seq_read (by rfl) (by rfl) ?_; intro K hK; go_big_quiet_op; first | go_big_quiet_on | (refine ⟨_, fun _ _ => rfl, ?_⟩; go_big_quiet_on))))
  refine seq_value (.int .u64 (l.pt.pp : Int)) (by rfl) (fun x hx => by have hq := ext_cell hx ((h1.cell 11).trans (ptP_9 l)); simp [go_sem, execOp, Act.eval, hq]) ?_; intro K hK; simp only [Act.put, List.setIfInBounds_toArray, List.set_cons_zero, List.set_cons_succ]; refine hK _ ?_; clear hK K
  (repeat (first | (refine seq_skip (by rfl) ?_; intro K hK; simp only [Act.put, List.setIfInBounds_toArray, List.set_cons_zero, List.set_cons_succ]; refine hK _ ?_; clear hK K) | (refine seq_skipc (by rfl) ?_; intro K hK; simp only [Act.put, List.setIfInBounds_toArray, List.set_cons_zero, List.set_cons_succ]; refine hK _ ?_; clear hK K) | (refine seq_read (by rfl) (by rfl) ?_; intro K hK; go_big_quiet_op; first | go_big_quiet_on | (refine ⟨_, fun _ _ => rfl, ?_⟩; go_big_quiet_on))))
  refine seq_value (.int .i64 l.lv) (by rfl) (fun x hx => by have hq := ext_cell hx ((h1.cell 0).trans (lfC_lv l)); simp [go_sem, execOp, Act.eval, hq]) ?_; intro K hK; simp only [Act.put, List.setIfInBounds_toArray, List.set_cons_zero, List.set_cons_succ]; refine hK _ ?_; clear hK K
  refine seq_call (calls_ext (hof _)) rfl Tryd.func51 (by kernel_rfl) (by kernel_rfl) (by rfl) (by rfl) ?_; intro K hK; rintro e w' ⟨rfl, hE⟩; refine ⟨_, rfl, hE, ?_⟩; simp only [Act.put, List.setIfInBounds_toArray, List.set_cons_zero, List.set_cons_succ]; refine hK _ _ ?_; clear hK K; (try replace h1 := h1.ext hE); (try replace h2 := h2.ext hE); (try replace HE := Lib.hid (HE.out.trans hE))
  clear hE
  (repeat (first | (refine seq_skip (by rfl) ?_; intro K hK; simp only [Act.put, List.setIfInBounds_toArray, List.set_cons_zero, List.set_cons_succ]; refine hK _ ?_; clear hK K) | (refine seq_skipc (by rfl) ?_; intro K hK; simp only [Act.put, List.setIfInBounds_toArray, List.set_cons_zero, List.set_cons_succ]; refine hK _ ?_; clear hK K) | (refine seq_read (by rfl) (by rfl) ?_; intro K hK; go_big_quiet_op; first | go_big_quiet_on | (refine ⟨_, fun _ _ => rfl, ?_⟩; go_big_quiet_on))))
  refine seq_done ?_
  go_wp2
  go_ret
  first | exact ⟨rfl, HE.out⟩ | exact ⟨by simp only [hw1, hw2], HE.out⟩
end Go.Proofs.YtcllbidhjggjiaaDoor
