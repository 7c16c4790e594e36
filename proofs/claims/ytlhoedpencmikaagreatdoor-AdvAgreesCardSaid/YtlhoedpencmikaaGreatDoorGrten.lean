/- The document's answers for walks (atlasref10): Look, down. -/
import Derived.Test.YtlhoedpencmikaaGreatDoorGcten
import Derived.Test.YtlhoedpencmikaaGreatDoorRfive
import Derived.Test.YtlhoedpencmikaaGreatDoorGrsix
import Derived.Test.YtlhoedpencmikaaGreatDoorGnine
import Derived.Test.YtlhoedpencmikaaGreatDoorGeight
import Derived.IntWalk
namespace Go.Proofs.YtlhoedpencmikaaGreatDoor
open Go.ChangeShapes Go.WideShapes Go.ChangeAt Go.RowKit
set_option linter.unusedVariables false
set_option linter.unusedSimpArgs false
set_option maxRecDepth 10000

theorem rpage_x (kd : Nat) (hk : kd < 3) (a : Nat) (w : World) : Calls Tryz.prog 61 #[.int .i64 3, .int .i64 (kd : Int), .int .u64 (a : Int)] w fun e w' => e = .returned (.agg (ftC (fltF 2 kd a))) ∧ Ext w w' := by
  rw [flt_page]; exact rfault9_c 2 kd (by decide) hk a w
theorem raccess_x (kd : Nat) (hk : kd < 3) (a : Nat) (w : World) : Calls Tryz.prog 61 #[.int .i64 2, .int .i64 (kd : Int), .int .u64 (a : Int)] w fun e w' => e = .returned (.agg (ftC (fltF 1 kd a))) ∧ Ext w w' := by
  rw [flt_access]; exact rfault9_c 1 kd (by decide) hk a w

set_option maxHeartbeats 4000000 in
theorem rdown_c {S : Nat} {A : Option Addr} {L : List (Nat × Nat)} {c a : Nat} (a1 : a < 18446744073709551616) (kd : Nat) (hk : kd < 3) : ∀ (n t : Nat) (g : Bool) (w : World), n ≤ 2 → Mem w S A L c → t < 17592186044416 →
    Calls Tryz.prog 62 #[.agg #[.int .u64 (S : Int), .slice A L.length c], .int .u64 (t : Int), .int .u64 (a : Int), .int .i64 (kd : Int), .int .i64 (n : Int), .bool g] w fun e w' =>
      e = .returned (.tuple #[.agg (lfC (downN S L a n t g).lf), .agg (ftC (fltF (downN S L a n t g).so kd a))]) ∧ Ext w w' := by
  intro n
  induction n using Nat.strongRecOn with
  | ind n ih =>
    intro t g w hn hM ht
    obtain ⟨W0, hW⟩ : ∃ W0, W0 = ((w.alloc (.cells #[.int .u64 (S : Int), .slice A L.length c] 32)).alloc (.cells #[.int .i64 0, .int .u64 0, .bool false, .bool false, .bool false, .bool false, .bool false, .bool false, .bool false, .bool false, .int .u64 0, .int .u64 0, .int .u64 0] 75)).alloc (.cells #[.bool false, .int .i64 0, .int .u64 0] 54) := ⟨_, rfl⟩
    have HE : Hid (Ext w W0) := Lib.hid (by rw [hW]; exact (((Ext.refl w).alloc _).alloc _).alloc _)
    have hb : Blk W0 w.heap.size 32 #[.int .u64 (S : Int), .slice A L.length c] := by rw [hW]; exact ((Blk.new w _ _).alloc _).alloc _
    have hc : Blk W0 (w.heap.size + 1) 75 #[.int .i64 0, .int .u64 0, .bool false, .bool false, .bool false, .bool false, .bool false, .bool false, .bool false, .bool false, .int .u64 0, .int .u64 0, .int .u64 0] := by rw [hW]; exact (blk_at (by simp)).alloc _
    have hd : Blk W0 (w.heap.size + 1 + 1) 54 #[.bool false, .int .i64 0, .int .u64 0] := by rw [hW]; exact blk_at (by simp)
    have HW := Lib.hid hW
    clear hW
    have hp8 := place_8 t a (n : Int)
    have hpl := place_lt (a := a) (n : Int) ht
    have hi := idx_lt (a : Int) (n : Int)
    have hat : 4096 * (t : Int) + 8 * idxI (a : Int) (n : Int) = ((placeN t a (n : Int) : Nat) : Int) := by
      have := idx_cast a (n : Int)
      unfold placeN; omega
    have hix := fun w => rindex5_c (a : Int) (n : Int) (by omega) (by omega) (by omega) (by omega) w
    have HW8 := wordL_lt hM.rl (placeN t a (n : Int) / 8)
    have hpg := rpage_x kd hk a
    have hac := raccess_x kd hk a
    have hSS := hM.ok.le
    have hwd := fun w (hM : Mem w S A L c) => rword_x hM (a := placeN t a (n : Int)) (by omega)
    have hgt : ∀ w, Calls Tryz.prog 107 #[.int .u64 ((wordL L (placeN t a (n : Int) / 8) : Nat) : Int)] w fun e w' => e = .returned (.agg (ptC (entN L (placeN t a (n : Int))))) ∧ Ext w w' := by unfold entN; exact rget_pte _ HW8
    have hbad := fun w => rbad_c (entN L (placeN t a (n : Int))) (n : Int) (by omega) (by omega) w
    have hlink := fun w => rlink_c (entN L (placeN t a (n : Int))) w
    have hpp := ent_pp L (placeN t a (n : Int))
    have hp5 := ptC_5 (entN L (placeN t a (n : Int)))
    have hp9 := ptC_9 (entN L (placeN t a (n : Int)))
    rcases down_cases S L a n t g with ⟨hs1, e1⟩ | ⟨hs1, hs2, e1⟩ | ⟨hs1, hs2, hs3, e1⟩ | ⟨hs1, hs2, hs3, k, hk1, e1⟩
    · have H := Lib.hid e1
      have hge : decide (S ≤ placeN t a (n : Int)) = true := by simpa using hs1
      clear e1 hp8 HW8 hwd hgt hbad hlink hp5 hp9 ih hpp hs1
      generalize placeN t a (n : Int) = pl at *
      generalize idxI (a : Int) (n : Int) = i at *
      go_enter Tryz.func62, Tryz.ntmps62
      go_wp2_with fail
      refine (hix _).mono ?_
      rintro e w' ⟨rfl, rfl⟩
      rw [← HW.out]
      clear HW hix
      have hb0 := hb.cell 0
      simp only [List.getElem?_toArray, List.getElem?_cons_zero] at hb0
      go_wp2_with fail; refine (hac _).mono ?_; rintro e w' ⟨rfl, hE⟩; replace hb := hb.ext hE; replace hc := hc.ext hE; replace hd := hd.ext hE; (replace HE := Lib.hid (HE.out.trans hE))
      clear hE
      have hck := hc
      have hdk := hd.apart (show w.heap.size + 1 + 1 ≠ w.heap.size + 1 by omega) #[.int .i64 0, .int .u64 0, .bool false, .bool false, .bool false, .bool false, .bool false, .bool false, .bool false, .bool false, .int .u64 0, .int .u64 0, .int .u64 0]
      go_wp2_with (first | (refine wpList_store_row rfl 75 _ _ rfl _ _ rfl rfl _ _ hck (by kernel_rfl) (by rfl) (by simp [Value.oneCell']) ?_) | (refine wpList_store_row rfl 54 _ _ rfl _ (ftC _) rfl rfl _ _ hdk (ft_info _) (by simp [ftC_size]) (ftC_one _) ?_))
      refine bodyPost_ret (results_cc rfl _ _ rfl rfl (((hc.row _).apart (by omega) _)) (((hd.apart (by omega) _).row _)) Tryz.underlying75 rfl (by (kernel_rfl)) Tryz.underlying54 rfl (by (exact ft_info _))) rfl ?_
      exact ⟨by rw [H.out, lfC_zero], (HE.out.row (by omega) _).row (by omega) _⟩
    · have H := Lib.hid e1
      have hge : decide (S ≤ placeN t a (n : Int)) = false := by simp; omega
      rw [hs2] at hbad
      clear e1 hp8 HW8 hlink hp9 ih hpp hs1 hs2
      generalize entN L (placeN t a (n : Int)) = p at *
      generalize wordL L (placeN t a (n : Int) / 8) = v at *
      generalize placeN t a (n : Int) = pl at *
      generalize idxI (a : Int) (n : Int) = i at *
      go_enter Tryz.func62, Tryz.ntmps62
      go_wp2_with fail
      refine (hix _).mono ?_
      rintro e w' ⟨rfl, rfl⟩
      rw [← HW.out]
      clear HW hix
      have hb0 := hb.cell 0
      simp only [List.getElem?_toArray, List.getElem?_cons_zero] at hb0
      go_wp2_with ((refine wpList_load_blk (by rfl) 32 _ rfl rfl (by with_reducible assumption) Tryz.underlying32 rfl (by kernel_rfl) ?_)); refine (hwd _ (hM.ext HE.out)).mono ?_; rintro e w' ⟨rfl, hE⟩; replace hb := hb.ext hE; replace hc := hc.ext hE; replace hd := hd.ext hE; (replace HE := Lib.hid (HE.out.trans hE))
      clear hE hb0
      go_wp2_with fail
      refine (hgt _).mono ?_
      rintro e w3 ⟨rfl, hE⟩
      replace hb := hb.ext hE; replace hc := hc.ext hE; replace hd := hd.ext hE; (replace HE := Lib.hid (HE.out.trans hE))
      clear hE
      have hps : w.heap.size + 3 ≤ w3.heap.size := by have := hd.lt; omega
      have hE := (Ext.refl (w3)).alloc (.cells (ptC p) 73); have hnew := Blk.new (w3) 73 (ptC p); replace hb := hb.ext hE; replace hc := hc.ext hE; replace hd := hd.ext hE; replace HE := Lib.hid (HE.out.trans hE); clear hE; have h1 := hnew; clear hnew
      go_wp2_with (first | (refine wpList_store_new rfl 73 _ _ rfl (ptC _) _ _ rfl rfl (pt_info _) (by simp [ptC_size]) (ptC_one _) ?_) | (refine wpList_load_blk (by rfl) 73 _ rfl rfl (by with_reducible assumption) Tryz.underlying73 rfl (by kernel_rfl) ?_))
      refine (hbad _).mono ?_
      rintro e w5 ⟨rfl, hE⟩
      replace hb := hb.ext hE; replace hc := hc.ext hE; replace hd := hd.ext hE; replace h1 := h1.ext hE; (replace HE := Lib.hid (HE.out.trans hE))
      clear hE
      go_wp2_with fail; refine (hpg _).mono ?_; rintro e w' ⟨rfl, hE⟩; replace hb := hb.ext hE; replace hc := hc.ext hE; replace hd := hd.ext hE; replace h1 := h1.ext hE; (replace HE := Lib.hid (HE.out.trans hE))
      clear hE
      have hck := hc
      have hdk := hd.apart (show w.heap.size + 1 + 1 ≠ w.heap.size + 1 by omega) #[.int .i64 0, .int .u64 0, .bool false, .bool false, .bool false, .bool false, .bool false, .bool false, .bool false, .bool false, .int .u64 0, .int .u64 0, .int .u64 0]
      go_wp2_with (first | (refine wpList_store_row rfl 75 _ _ rfl _ _ rfl rfl _ _ hck (by kernel_rfl) (by rfl) (by simp [Value.oneCell']) ?_) | (refine wpList_store_row rfl 54 _ _ rfl _ (ftC _) rfl rfl _ _ hdk (ft_info _) (by simp [ftC_size]) (ftC_one _) ?_))
      refine bodyPost_ret (results_cc rfl _ _ rfl rfl (((hc.row _).apart (by omega) _)) (((hd.apart (by omega) _).row _)) Tryz.underlying75 rfl (by (kernel_rfl)) Tryz.underlying54 rfl (by (exact ft_info _))) rfl ?_
      exact ⟨by rw [H.out, lfC_zero], (HE.out.row (by omega) _).row (by omega) _⟩
    · have H := Lib.hid e1
      have hge : decide (S ≤ placeN t a (n : Int)) = false := by simp; omega
      rw [link_of hs2, hs3] at hlink
      rw [hs2] at hbad
      clear e1 hp8 HW8 hp9 ih hpp hs1 hs2 hs3
      generalize entN L (placeN t a (n : Int)) = p at *
      generalize wordL L (placeN t a (n : Int) / 8) = v at *
      generalize placeN t a (n : Int) = pl at *
      generalize idxI (a : Int) (n : Int) = i at *
      cases hgl : p.g
      · have HG := Lib.hid hgl
        rw [hgl] at hp5
        clear hgl
        go_enter Tryz.func62, Tryz.ntmps62
        go_wp2_with fail
        refine (hix _).mono ?_
        rintro e w' ⟨rfl, rfl⟩
        rw [← HW.out]
        clear HW hix
        have hb0 := hb.cell 0
        simp only [List.getElem?_toArray, List.getElem?_cons_zero] at hb0
        go_wp2_with ((refine wpList_load_blk (by rfl) 32 _ rfl rfl (by with_reducible assumption) Tryz.underlying32 rfl (by kernel_rfl) ?_)); refine (hwd _ (hM.ext HE.out)).mono ?_; rintro e w' ⟨rfl, hE⟩; replace hb := hb.ext hE; replace hc := hc.ext hE; replace hd := hd.ext hE; (replace HE := Lib.hid (HE.out.trans hE))
        clear hE hb0
        go_wp2_with fail
        refine (hgt _).mono ?_
        rintro e w3 ⟨rfl, hE⟩
        replace hb := hb.ext hE; replace hc := hc.ext hE; replace hd := hd.ext hE; (replace HE := Lib.hid (HE.out.trans hE))
        clear hE
        have hps : w.heap.size + 3 ≤ w3.heap.size := by have := hd.lt; omega
        have hE := (Ext.refl (w3)).alloc (.cells (ptC p) 73); have hnew := Blk.new (w3) 73 (ptC p); replace hb := hb.ext hE; replace hc := hc.ext hE; replace hd := hd.ext hE; replace HE := Lib.hid (HE.out.trans hE); clear hE; have h1 := hnew; clear hnew
        go_wp2_with (first | (refine wpList_store_new rfl 73 _ _ rfl (ptC _) _ _ rfl rfl (pt_info _) (by simp [ptC_size]) (ptC_one _) ?_) | (refine wpList_load_blk (by rfl) 73 _ rfl rfl (by with_reducible assumption) Tryz.underlying73 rfl (by kernel_rfl) ?_))
        refine (hbad _).mono ?_
        rintro e w5 ⟨rfl, hE⟩
        replace hb := hb.ext hE; replace hc := hc.ext hE; replace hd := hd.ext hE; replace h1 := h1.ext hE; (replace HE := Lib.hid (HE.out.trans hE))
        clear hE
        go_wp2_with ((refine wpList_load_blk (by rfl) 73 _ rfl rfl (by with_reducible assumption) Tryz.underlying73 rfl (by kernel_rfl) ?_)); refine (hlink _).mono ?_; rintro e w' ⟨rfl, hE⟩; replace hb := hb.ext hE; replace hc := hc.ext hE; replace hd := hd.ext hE; replace h1 := h1.ext hE; (replace HE := Lib.hid (HE.out.trans hE))
        clear hE
        have hp6 := (h1.cell 5).trans hp5
        have h1k := h1
        have key := (h1).row (ptC (globP p g)); clear h1; replace hb := Blk.apart hb (show _ ≠ w3.heap.size by omega) (ptC (globP p g)); replace hc := Blk.apart hc (show _ ≠ w3.heap.size by omega) (ptC (globP p g)); replace hd := Blk.apart hd (show _ ≠ w3.heap.size by omega) (ptC (globP p g)); have h1 := key; clear key; replace HE := Lib.hid (HE.out.row (show _ ≤ w3.heap.size by omega) (ptC (globP p g)))
        have hck := hc
        have hdk := hd.apart (show w.heap.size + 1 + 1 ≠ w.heap.size + 1 by omega) (lfC ⟨(n : Int), pl, globP p g⟩)
        go_wp2_with (first | (refine wpList_store_cell rfl 4 _ _ rfl rfl rfl h1k (by simp [ptC_size]) (ptC_set5 p g) (by kernel_rfl) rfl rfl ?_) | (refine wpList_load_blk (by rfl) 73 _ rfl rfl (by with_reducible assumption) Tryz.underlying73 rfl (by kernel_rfl) ?_) | (refine wpList_build_as (by rfl) rfl (lf_build ⟨(n : Int), pl, globP p g⟩) ?_) | (refine wpList_store_row rfl 75 _ _ rfl _ (lfC _) rfl rfl _ _ hck (lf_info _) (by simp [lfC_size]) (lfC_one _) ?_) | (refine wpList_store_row rfl 54 _ _ rfl _ _ rfl rfl _ _ hdk (by kernel_rfl) (by rfl) (by simp [Value.oneCell']) ?_))
        refine bodyPost_ret (results_cc rfl _ _ rfl rfl (((hc.row _).apart (by omega) _)) (((hd.apart (by omega) _).row _)) Tryz.underlying75 rfl (by (exact lf_info _)) Tryz.underlying54 rfl (by (kernel_rfl))) rfl ?_
        exact ⟨by rw [H.out, HG.out, Bool.or_false, flt_zero, ftC_z], (HE.out.row (by omega) _).row (by omega) _⟩
      · have HG := Lib.hid hgl
        rw [hgl] at hp5
        clear hgl
        go_enter Tryz.func62, Tryz.ntmps62
        go_wp2_with fail
        refine (hix _).mono ?_
        rintro e w' ⟨rfl, rfl⟩
        rw [← HW.out]
        clear HW hix
        have hb0 := hb.cell 0
        simp only [List.getElem?_toArray, List.getElem?_cons_zero] at hb0
        go_wp2_with ((refine wpList_load_blk (by rfl) 32 _ rfl rfl (by with_reducible assumption) Tryz.underlying32 rfl (by kernel_rfl) ?_)); refine (hwd _ (hM.ext HE.out)).mono ?_; rintro e w' ⟨rfl, hE⟩; replace hb := hb.ext hE; replace hc := hc.ext hE; replace hd := hd.ext hE; (replace HE := Lib.hid (HE.out.trans hE))
        clear hE hb0
        go_wp2_with fail
        refine (hgt _).mono ?_
        rintro e w3 ⟨rfl, hE⟩
        replace hb := hb.ext hE; replace hc := hc.ext hE; replace hd := hd.ext hE; (replace HE := Lib.hid (HE.out.trans hE))
        clear hE
        have hps : w.heap.size + 3 ≤ w3.heap.size := by have := hd.lt; omega
        have hE := (Ext.refl (w3)).alloc (.cells (ptC p) 73); have hnew := Blk.new (w3) 73 (ptC p); replace hb := hb.ext hE; replace hc := hc.ext hE; replace hd := hd.ext hE; replace HE := Lib.hid (HE.out.trans hE); clear hE; have h1 := hnew; clear hnew
        go_wp2_with (first | (refine wpList_store_new rfl 73 _ _ rfl (ptC _) _ _ rfl rfl (pt_info _) (by simp [ptC_size]) (ptC_one _) ?_) | (refine wpList_load_blk (by rfl) 73 _ rfl rfl (by with_reducible assumption) Tryz.underlying73 rfl (by kernel_rfl) ?_))
        refine (hbad _).mono ?_
        rintro e w5 ⟨rfl, hE⟩
        replace hb := hb.ext hE; replace hc := hc.ext hE; replace hd := hd.ext hE; replace h1 := h1.ext hE; (replace HE := Lib.hid (HE.out.trans hE))
        clear hE
        go_wp2_with ((refine wpList_load_blk (by rfl) 73 _ rfl rfl (by with_reducible assumption) Tryz.underlying73 rfl (by kernel_rfl) ?_)); refine (hlink _).mono ?_; rintro e w' ⟨rfl, hE⟩; replace hb := hb.ext hE; replace hc := hc.ext hE; replace hd := hd.ext hE; replace h1 := h1.ext hE; (replace HE := Lib.hid (HE.out.trans hE))
        clear hE
        have hp6 := (h1.cell 5).trans hp5
        have h1k := h1
        have key := (h1).row (ptC (globP p true)); clear h1; replace hb := Blk.apart hb (show _ ≠ w3.heap.size by omega) (ptC (globP p true)); replace hc := Blk.apart hc (show _ ≠ w3.heap.size by omega) (ptC (globP p true)); replace hd := Blk.apart hd (show _ ≠ w3.heap.size by omega) (ptC (globP p true)); have h1 := key; clear key; replace HE := Lib.hid (HE.out.row (show _ ≤ w3.heap.size by omega) (ptC (globP p true)))
        have hck := hc
        have hdk := hd.apart (show w.heap.size + 1 + 1 ≠ w.heap.size + 1 by omega) (lfC ⟨(n : Int), pl, globP p true⟩)
        go_wp2_with (first | (refine wpList_store_cell rfl 4 _ _ rfl rfl rfl h1k (by simp [ptC_size]) (ptC_set5 p true) (by kernel_rfl) rfl rfl ?_) | (refine wpList_load_blk (by rfl) 73 _ rfl rfl (by with_reducible assumption) Tryz.underlying73 rfl (by kernel_rfl) ?_) | (refine wpList_build_as (by rfl) rfl (lf_build ⟨(n : Int), pl, globP p true⟩) ?_) | (refine wpList_store_row rfl 75 _ _ rfl _ (lfC _) rfl rfl _ _ hck (lf_info _) (by simp [lfC_size]) (lfC_one _) ?_) | (refine wpList_store_row rfl 54 _ _ rfl _ _ rfl rfl _ _ hdk (by kernel_rfl) (by rfl) (by simp [Value.oneCell']) ?_))
        refine bodyPost_ret (results_cc rfl _ _ rfl rfl (((hc.row _).apart (by omega) _)) (((hd.apart (by omega) _).row _)) Tryz.underlying75 rfl (by (exact lf_info _)) Tryz.underlying54 rfl (by (kernel_rfl))) rfl ?_
        exact ⟨by rw [H.out, HG.out, Bool.or_true, flt_zero, ftC_z], (HE.out.row (by omega) _).row (by omega) _⟩
    · have H := Lib.hid e1
      have hge : decide (S ≤ placeN t a (n : Int)) = false := by simp; omega
      rw [link_of hs2, hs3] at hlink
      rw [hs2] at hbad
      have hdn := fun (g : Bool) w (hM : Mem w S A L c) => ih k (by omega) (entN L (placeN t a (n : Int))).pp g w (by omega) hM hpp
      have hkn : (n : Int) - 1 = (k : Int) := by omega
      clear e1 hp8 HW8 ih hpp hs1 hs2 hs3 hk1
      generalize entN L (placeN t a (n : Int)) = p at *
      generalize wordL L (placeN t a (n : Int) / 8) = v at *
      generalize placeN t a (n : Int) = pl at *
      generalize idxI (a : Int) (n : Int) = i at *
      cases g
      all_goals
        simp only [Bool.true_or, Bool.false_or] at H
        go_enter Tryz.func62, Tryz.ntmps62
        go_wp2_with fail
        refine (hix _).mono ?_
        rintro e w' ⟨rfl, rfl⟩
        rw [← HW.out]
        clear HW hix
        have hb0 := hb.cell 0
        simp only [List.getElem?_toArray, List.getElem?_cons_zero] at hb0
        go_wp2_with ((refine wpList_load_blk (by rfl) 32 _ rfl rfl (by with_reducible assumption) Tryz.underlying32 rfl (by kernel_rfl) ?_)); refine (hwd _ (hM.ext HE.out)).mono ?_; rintro e w' ⟨rfl, hE⟩; replace hb := hb.ext hE; replace hc := hc.ext hE; replace hd := hd.ext hE; (replace HE := Lib.hid (HE.out.trans hE))
        clear hE hb0
        go_wp2_with fail
        refine (hgt _).mono ?_
        rintro e w3 ⟨rfl, hE⟩
        replace hb := hb.ext hE; replace hc := hc.ext hE; replace hd := hd.ext hE; (replace HE := Lib.hid (HE.out.trans hE))
        clear hE
        have hps : w.heap.size + 3 ≤ w3.heap.size := by have := hd.lt; omega
        have hE := (Ext.refl (w3)).alloc (.cells (ptC p) 73); have hnew := Blk.new (w3) 73 (ptC p); replace hb := hb.ext hE; replace hc := hc.ext hE; replace hd := hd.ext hE; replace HE := Lib.hid (HE.out.trans hE); clear hE; have h1 := hnew; clear hnew
        go_wp2_with (first | (refine wpList_store_new rfl 73 _ _ rfl (ptC _) _ _ rfl rfl (pt_info _) (by simp [ptC_size]) (ptC_one _) ?_) | (refine wpList_load_blk (by rfl) 73 _ rfl rfl (by with_reducible assumption) Tryz.underlying73 rfl (by kernel_rfl) ?_))
        refine (hbad _).mono ?_
        rintro e w5 ⟨rfl, hE⟩
        replace hb := hb.ext hE; replace hc := hc.ext hE; replace hd := hd.ext hE; replace h1 := h1.ext hE; (replace HE := Lib.hid (HE.out.trans hE))
        clear hE
        go_wp2_with ((refine wpList_load_blk (by rfl) 73 _ rfl rfl (by with_reducible assumption) Tryz.underlying73 rfl (by kernel_rfl) ?_)); refine (hlink _).mono ?_; rintro e w' ⟨rfl, hE⟩; replace hb := hb.ext hE; replace hc := hc.ext hE; replace hd := hd.ext hE; replace h1 := h1.ext hE; (replace HE := Lib.hid (HE.out.trans hE))
        clear hE
        have hp6 := (h1.cell 5).trans hp5
        have hp7 := (h1.cell 9).trans hp9
        go_wp2_with ((refine wpList_load_blk (by rfl) 32 _ rfl rfl (by with_reducible assumption) Tryz.underlying32 rfl (by kernel_rfl) ?_)); refine (hdn _ _ (hM.ext HE.out)).mono ?_; rintro e w' ⟨rfl, hE⟩; replace hb := hb.ext hE; replace hc := hc.ext hE; replace hd := hd.ext hE; replace h1 := h1.ext hE; (replace HE := Lib.hid (HE.out.trans hE))
        clear hE
        have hck := hc
        have hdk := hd.apart (show w.heap.size + 1 + 1 ≠ w.heap.size + 1 by omega) (lfC (downN S L a 2 0 false).lf)
        go_wp2_with (first | (refine wpList_store_row rfl 75 _ _ rfl _ (lfC _) rfl rfl _ _ hck (lf_info _) (by simp [lfC_size]) (lfC_one _) ?_) | (refine wpList_store_row rfl 54 _ _ rfl _ (ftC _) rfl rfl _ _ (hd.apart (by omega) _) (ft_info _) (by simp [ftC_size]) (ftC_one _) ?_))
        refine bodyPost_ret (results_cc rfl _ _ rfl rfl (((hc.row _).apart (by omega) _)) (((hd.apart (by omega) _).row _)) Tryz.underlying75 rfl (by (exact lf_info _)) Tryz.underlying54 rfl (by (exact ft_info _))) rfl ?_
        exact ⟨by rw [H.out], (HE.out.row (by omega) _).row (by omega) _⟩
end Go.Proofs.YtlhoedpencmikaaGreatDoor
/- The document's answers for walks (atlasref10): Look, Mark; Physical of both. -/
namespace Go.Proofs.YtlhoedpencmikaaGreatDoor
open Go.ChangeShapes Go.WideShapes Go.ChangeAt Go.RowKit
set_option linter.unusedVariables false
set_option linter.unusedSimpArgs false
set_option maxRecDepth 10000

set_option maxHeartbeats 1000000 in
theorem rlook_c {w : World} {S : Nat} {A : Option Addr} {L : List (Nat × Nat)} {c : Nat} (hM : Mem w S A L c) {r a : Nat} (hr : r < 17592186044416) (a1 : a < 18446744073709551616) (kd : Nat) (hk : kd < 3) :
    Calls Tryz.prog 30 #[.agg #[.int .u64 (S : Int), .slice A L.length c], .int .u64 (r : Int), .int .u64 (a : Int), .int .i64 (kd : Int)] w fun e w' =>
      e = .returned (.tuple #[.agg (lfC (lookN S L r a).lf), .agg (ftC (fltF (lookN S L r a).so kd a))]) ∧ Ext w w' := by
  obtain ⟨W0, hW⟩ : ∃ W0, W0 = ((w.alloc (.cells #[.int .u64 (S : Int), .slice A L.length c] 32)).alloc (.cells #[.int .i64 0, .int .u64 0, .bool false, .bool false, .bool false, .bool false, .bool false, .bool false, .bool false, .bool false, .int .u64 0, .int .u64 0, .int .u64 0] 75)).alloc (.cells #[.bool false, .int .i64 0, .int .u64 0] 54) := ⟨_, rfl⟩
  have HE : Hid (Ext w W0) := Lib.hid (by rw [hW]; exact (((Ext.refl w).alloc _).alloc _).alloc _)
  have hb : Blk W0 w.heap.size 32 #[.int .u64 (S : Int), .slice A L.length c] := by rw [hW]; exact ((Blk.new w _ _).alloc _).alloc _
  have hc : Blk W0 (w.heap.size + 1) 75 #[.int .i64 0, .int .u64 0, .bool false, .bool false, .bool false, .bool false, .bool false, .bool false, .bool false, .bool false, .int .u64 0, .int .u64 0, .int .u64 0] := by rw [hW]; exact (blk_at (by simp)).alloc _
  have hd : Blk W0 (w.heap.size + 1 + 1) 54 #[.bool false, .int .i64 0, .int .u64 0] := by rw [hW]; exact blk_at (by simp)
  have HW := Lib.hid hW
  clear hW
  have his := fun w => ris5_c (a : Int) (by omega) (by omega) w
  have hpg := rpage_x kd hk a
  have hdn := fun w (hM : Mem w S A L c) => rdown_c a1 kd hk 2 r false w (by omega) hM hr
  cases hv : vaB (a : Int)
  · have H := Lib.hid (look_not (S := S) (L := L) (r := r) hv)
    rw [hv] at his
    clear hv hdn
    go_enter Tryz.func30, Tryz.ntmps30
    go_wp2_with fail
    refine (his _).mono ?_
    rintro e w' ⟨rfl, rfl⟩
    rw [← HW.out]
    clear HW his
    go_wp2_with fail; refine (hpg _).mono ?_; rintro e w' ⟨rfl, hE⟩; replace hb := hb.ext hE; replace hc := hc.ext hE; replace hd := hd.ext hE; (replace HE := Lib.hid (HE.out.trans hE))
    clear hE
    go_wp2_with (first | (refine wpList_store_row rfl 75 _ _ rfl _ _ rfl rfl _ _ hc (by kernel_rfl) (by rfl) (by simp [Value.oneCell']) ?_) | (refine wpList_store_row rfl 54 _ _ rfl _ (ftC _) rfl rfl _ _ (hd.apart (by omega) _) (ft_info _) (by simp [ftC_size]) (ftC_one _) ?_))
    refine bodyPost_ret (results_cc rfl _ _ rfl rfl (((hc.row _).apart (by omega) _)) (((hd.apart (by omega) _).row _)) Tryz.underlying75 rfl (by (kernel_rfl)) Tryz.underlying54 rfl (by (exact ft_info _))) rfl ?_
    exact ⟨by rw [H.out, lfC_zero], (HE.out.row (by omega) _).row (by omega) _⟩
  · have H := Lib.hid (look_yes (S := S) (L := L) (r := r) hv)
    rw [hv] at his
    clear hv hpg
    go_enter Tryz.func30, Tryz.ntmps30
    go_wp2_with fail
    refine (his _).mono ?_
    rintro e w' ⟨rfl, rfl⟩
    rw [← HW.out]
    clear HW his
    go_wp2_with ((refine wpList_load_blk (by rfl) 32 _ rfl rfl (by with_reducible assumption) Tryz.underlying32 rfl (by kernel_rfl) ?_)); refine (hdn _ (hM.ext HE.out)).mono ?_; rintro e w' ⟨rfl, hE⟩; replace hb := hb.ext hE; replace hc := hc.ext hE; replace hd := hd.ext hE; (replace HE := Lib.hid (HE.out.trans hE))
    clear hE
    go_wp2_with (first | (refine wpList_store_row rfl 75 _ _ rfl _ (lfC _) rfl rfl _ _ hc (lf_info _) (by simp [lfC_size]) (lfC_one _) ?_) | (refine wpList_store_row rfl 54 _ _ rfl _ (ftC _) rfl rfl _ _ (hd.apart (by omega) _) (ft_info _) (by simp [ftC_size]) (ftC_one _) ?_))
    refine bodyPost_ret (results_cc rfl _ _ rfl rfl (((hc.row _).apart (by omega) _)) (((hd.apart (by omega) _).row _)) Tryz.underlying75 rfl (by (exact lf_info _)) Tryz.underlying54 rfl (by (exact ft_info _))) rfl ?_
    exact ⟨by rw [H.out], (HE.out.row (by omega) _).row (by omega) _⟩

theorem lfC_set8 (l : Lf) (b : Bool) : (lfC l).setIfInBounds 8 (.bool b) = lfC { l with pt := { l.pt with a := b } } := by simp only [lfC_eq, ptC_eq]; kernel_rfl
theorem lfC_set9 (l : Lf) (b : Bool) : (lfC l).setIfInBounds 9 (.bool b) = lfC { l with pt := { l.pt with d := b } } := by simp only [lfC_eq, ptC_eq]; kernel_rfl
set_option maxHeartbeats 4000000 in
theorem rmark_c {w : World} {S : Nat} {A : Option Addr} {L : List (Nat × Nat)} {c : Nat} (hM : Mem w S A L c) (hf : L.length ≤ 999) (l : Lf) (hat : l.at' % 8 = 0) (hlt : l.at' < S) (hld : l.pt.d = (entN L l.at').d) (d : Bool) :
    Calls Tryz.prog 31 #[.agg #[.int .u64 (S : Int), .slice A L.length c], .agg (lfC l), .bool d] w (Marked A S L l d w) := by
  obtain ⟨W0, hW⟩ : ∃ W0, W0 = (((w.alloc (.cells #[.int .u64 (S : Int), .slice A L.length c] 32)).alloc (.cells (lfC l) 75)).alloc (.cells #[.int .u64 0, .slice none 0 0] 32)).alloc (.cells #[.int .i64 0, .int .u64 0, .bool false, .bool false, .bool false, .bool false, .bool false, .bool false, .bool false, .bool false, .int .u64 0, .int .u64 0, .int .u64 0] 75) := ⟨_, rfl⟩
  have HE : Hid (Ext w W0) := Lib.hid (by rw [hW]; exact ((((Ext.refl w).alloc _).alloc _).alloc _).alloc _)
  have hb : Blk W0 w.heap.size 32 #[.int .u64 (S : Int), .slice A L.length c] := by rw [hW]; exact (((Blk.new w _ _).alloc _).alloc _).alloc _
  have h1 : Blk W0 (w.heap.size + 1) 75 (lfC l) := by rw [hW]; exact ((blk_at (by simp)).alloc _).alloc _
  have hc : Blk W0 (w.heap.size + 1 + 1) 32 #[.int .u64 0, .slice none 0 0] := by rw [hW]; exact (blk_at (by simp)).alloc _
  have hd : Blk W0 (w.heap.size + 1 + 1 + 1) 75 #[.int .i64 0, .int .u64 0, .bool false, .bool false, .bool false, .bool false, .bool false, .bool false, .bool false, .bool false, .int .u64 0, .int .u64 0, .int .u64 0] := by rw [hW]; exact blk_at (by simp)
  have HW := Lib.hid hW
  have h1L := h1
  have hbL := hb
  rw [hW] at h1L hbL
  clear hW
  have HW8 := wordL_lt hM.rl (l.at' / 8)
  have hSS := hM.ok.le
  have hS8 := hM.ok.mod8
  have hwd := fun w (hM : Mem w S A L c) => rword_x hM (a := l.at') (by omega)
  have ha1 := lfC_at' l
  have h1c := (h1L.cell 1).trans ha1
  have hml := mark_lt HW8 d
  have hq8 : ((l.at' / 8 : Nat) : Int) = (l.at' : Int) / 8 := by omega
  have hmp := mark_pos HW8 d
  have hma := mark_ar HW8 d
  have hst := fun w (hM : Mem w S A L c) => rset_o hM (p := l.at' / 8) (v := markN (wordL L (l.at' / 8)) d) (by omega) hml (K := markL L l.at' d) (by unfold markL; exact store8_cut hat hml) (mark_is hM.rl (by omega) d) (by have := markL_len L l.at' d; omega)
  have hwr : IntKind.u64.wrap ((l.at' : Int) / 8) = (l.at' : Int) / 8 := IntWalk.u64_in _ (by omega)
  rw [hq8, ← hwr] at hst
  have hD : l.pt.d = decide (wordL L (l.at' / 8) / 128 % 2 = 1) := by rw [hld]; unfold entN; exact get_d _
  obtain ⟨l1, hl1⟩ : ∃ l1 : Lf, l1 = { l with pt := { l.pt with a := true } } := ⟨_, rfl⟩
  obtain ⟨l2, hl2⟩ : ∃ l2 : Lf, l2 = { l with pt := usedP l.pt d } := ⟨_, rfl⟩
  have hs8 : (lfC l).setIfInBounds 8 (.bool true) = lfC l1 := by rw [hl1]; exact lfC_set8 l true
  have hs9 : (lfC l1).setIfInBounds 9 (.bool (l.pt.d || d)) = lfC l2 := by rw [hl1, hl2, lfC_set9]; unfold usedP; rfl
  have HL2 := Lib.hid hl2
  have hat2 : l2.at' = l.at' := by rw [hl2]
  clear hmp hat hlt hld hl1 hl2 hq8 hwr
  generalize l.pt.d = ld at hs9 hD
  generalize markN (wordL L (l.at' / 8)) d = mv at *
  generalize wordL L (l.at' / 8) = v at *
  by_cases h6 : v / 64 % 2 = 1
  · have t6 : ((v : Int) / 64 % 2 == 0) = false := by simp; omega
    rw [if_pos h6, Nat.add_zero] at hma
    cases d
    · rw [if_neg (by simp)] at hma
      cases ld
      · simp only [Bool.or_false, Bool.or_true, Bool.true_or, Bool.false_or] at hs9
        have h7 : ¬ v / 128 % 2 = 1 := by simpa using hD
        have t7 : (((v : Int)) / 128 % 2 == 1) = false := by simp; omega
        rw [show ((mv : Nat) : Int) = (v : Int) by omega] at hst
        clear hD hma h6 h7
        go_enter Tryz.func31, Tryz.ntmps31
        go_wp2_with (refine wpList_load_blk (by rfl) 32 _ rfl rfl (by with_reducible assumption) Tryz.underlying32 rfl (by kernel_rfl) ?_)
        refine (hwd _ (hM.ext (HW.out ▸ HE.out))).mono ?_
        rintro e w' ⟨rfl, hE⟩
        rw [← HW.out] at hE
        (try replace hb := hb.ext hE); (try replace hc := hc.ext hE); (try replace hd := hd.ext hE); (try replace h1 := h1.ext hE); (try replace h6 := h6.ext hE); (try replace h7 := h7.ext hE); (try replace hM := hM.ext hE); (try replace HE := Lib.hid (HE.out.trans hE))
        clear hE HW h1L hbL h1c hwd
        have h1a := h1
        have h1b := h1.row (lfC l1)
        have key := (h1).row (lfC l1); clear h1; (try replace hb := Blk.apart hb (show _ ≠ w.heap.size + 1 by omega) (lfC l1)); (try replace hc := Blk.apart hc (show _ ≠ w.heap.size + 1 by omega) (lfC l1)); (try replace hd := Blk.apart hd (show _ ≠ w.heap.size + 1 by omega) (lfC l1)); (try replace h1 := Blk.apart h1 (show _ ≠ w.heap.size + 1 by omega) (lfC l1)); (try replace h6 := Blk.apart h6 (show _ ≠ w.heap.size + 1 by omega) (lfC l1)); (try replace h7 := Blk.apart h7 (show _ ≠ w.heap.size + 1 by omega) (lfC l1)); have h1 := key; clear key; replace HE := Lib.hid (HE.out.row (show _ ≤ w.heap.size + 1 by omega) (lfC l1))
        have key := (h1).row (lfC l2); clear h1; (try replace hb := Blk.apart hb (show _ ≠ w.heap.size + 1 by omega) (lfC l2)); (try replace hc := Blk.apart hc (show _ ≠ w.heap.size + 1 by omega) (lfC l2)); (try replace hd := Blk.apart hd (show _ ≠ w.heap.size + 1 by omega) (lfC l2)); (try replace h1 := Blk.apart h1 (show _ ≠ w.heap.size + 1 by omega) (lfC l2)); (try replace h6 := Blk.apart h6 (show _ ≠ w.heap.size + 1 by omega) (lfC l2)); (try replace h7 := Blk.apart h7 (show _ ≠ w.heap.size + 1 by omega) (lfC l2)); have h1 := key; clear key; replace HE := Lib.hid (HE.out.row (show _ ≤ w.heap.size + 1 by omega) (lfC l2))
        have ha2 := lfC_at' l2
        go_wp2_with (first | (refine wpList_store_cell rfl 4 _ _ rfl rfl rfl h1a (by simp [lfC_size]) (hs8) (by kernel_rfl) rfl rfl ?_) | (refine wpList_store_cell rfl 4 _ _ rfl rfl rfl h1b (by simp [lfC_size]) (hs9) (by kernel_rfl) rfl rfl ?_))
        clear h1a h1b
        rw [hat2] at ha2
        generalize (w'.setRow (w.heap.size + 1) (lfC l1)).setRow (w.heap.size + 1) (lfC l2) = X at hb hc hd h1 HE ⊢
        (try replace hb := Blk.drew hb); (try replace hc := Blk.drew hc); (try replace hd := Blk.drew hd); (try replace h1 := Blk.drew h1); (try replace h6 := Blk.drew h6); (try replace h7 := Blk.drew h7); replace HE := Lib.hid HE.out.drew
        refine wp_region_seq [(0, false), (1, false), (2, false), (3, false), (4, false), (6, false), (5, true), (7, true), (8, true)] (Gap (w.heap.size + 1 + 1) (w.heap.size + 4)) (by kernel_rfl) (by kernel_rfl) (Gap.refl _ _) (fun _ _ _ => Gap.trans) ?_; simp only [List.map, nth_z, nth_s]
        refine seq_load rfl rfl (fun x hx => Gap.blk hx (hb) (by omega)) rfl Tryz.underlying32 (by kernel_rfl) (by rfl) ?_; intro K hK; simp only [Act.put, List.setIfInBounds_toArray, List.set_cons_zero, List.set_cons_succ]; refine hK _ ?_; clear hK K
        (repeat (first | (refine seq_skip (by rfl) ?_; intro K hK; simp only [Act.put, List.setIfInBounds_toArray, List.set_cons_zero, List.set_cons_succ]; refine hK _ ?_; clear hK K) | (refine seq_skipc (by rfl) ?_; intro K hK; simp only [Act.put, List.setIfInBounds_toArray, List.set_cons_zero, List.set_cons_succ]; refine hK _ ?_; clear hK K) | (refine seq_read (by rfl) (by rfl) ?_; intro K hK; go_big_quiet_op; first | go_big_quiet_on | (refine ⟨_, fun _ _ => rfl, ?_⟩; go_big_quiet_on))))
        refine seq_value (.int .u64 (l.at' : Int)) (by rfl) (fun x hx => by have hq := ((Gap.blk hx (h1) (by omega)).cell 1).trans (ha2); simp [go_sem, execOp, Act.eval, hq]) ?_; intro K hK; simp only [Act.put, List.setIfInBounds_toArray, List.set_cons_zero, List.set_cons_succ]; refine hK _ ?_; clear hK K
        (repeat (first | (refine seq_skip (by rfl) ?_; intro K hK; simp only [Act.put, List.setIfInBounds_toArray, List.set_cons_zero, List.set_cons_succ]; refine hK _ ?_; clear hK K) | (refine seq_skipc (by rfl) ?_; intro K hK; simp only [Act.put, List.setIfInBounds_toArray, List.set_cons_zero, List.set_cons_succ]; refine hK _ ?_; clear hK K) | (refine seq_read (by rfl) (by rfl) ?_; intro K hK; go_big_quiet_op; first | go_big_quiet_on | (refine ⟨_, fun _ _ => rfl, ?_⟩; go_big_quiet_on))))
        refine seq_load rfl rfl (fun x hx => Gap.blk hx (h1) (by omega)) rfl Tryz.underlying75 (lf_info _) (by rfl) ?_; intro K hK; simp only [Act.put, List.setIfInBounds_toArray, List.set_cons_zero, List.set_cons_succ]; refine hK _ ?_; clear hK K
        have hq1 := hc.lt
        have hq2 := hd.lt
        refine seq_call (hst _ (hM.ext HE.out)) rfl Tryz.func63 (by kernel_rfl) (by kernel_rfl) (by rfl) (by rfl) ?_; intro K hK; rintro e w' ⟨A2, c2, rfl, hM2, ho, hE⟩; refine ⟨_, rfl, (Gap.ext hE), ?_⟩; simp only [Act.put, List.setIfInBounds_toArray, List.set_cons_zero, List.set_cons_succ]; refine hK _ _ ?_; clear hK K; (try replace hb := hb.ext hE); (try replace hc := hc.ext hE); (try replace hd := hd.ext hE); (try replace h1 := h1.ext hE); (try replace h6 := h6.ext hE); (try replace h7 := h7.ext hE); (try replace hM := hM.ext hE); (try replace HE := Lib.hid (HE.out.trans hE))
        clear hE
        refine seq_store_row rfl rfl rfl (hc) (by kernel_rfl) (by rfl) (by simp [Value.oneCell']) (by rfl) (Gap.row _ (by omega) (by omega) _) ?_; intro K hK; simp only [Act.put, List.setIfInBounds_toArray, List.set_cons_zero, List.set_cons_succ]; refine hK _ _ ?_; clear hK K
        refine seq_store_row rfl rfl rfl ((hd.apart (by omega) _)) (lf_info _) (by simp [lfC_size]) (lfC_one _) (by rfl) (Gap.row _ (by omega) (by omega) _) ?_; intro K hK; simp only [Act.put, List.setIfInBounds_toArray, List.set_cons_zero, List.set_cons_succ]; refine hK _ _ ?_; clear hK K
        refine seq_done ?_
        go_wp2
        (try simp only [Exit.inBlock, Exit.then]); (try rw [Exit.noGoto_ret]); refine bodyPost_ret (results_cc rfl _ _ rfl rfl (((hc.row _).apart (by omega) _)) (((hd.apart (by omega) _).row _)) Tryz.underlying32 rfl (by first | exact lf_info _ | kernel_rfl) Tryz.underlying75 rfl (by first | exact lf_info _ | kernel_rfl)) rfl ?_
        exact ⟨A2, c2, by rw [HL2.out], ((hM2.row' (ho w.heap.size) (by omega) hq1 _).row' (ho w.heap.size) (by omega) hq2 _), fun lo hi hh _ => (ho lo).mono (by have := HE.out.size; omega), (HE.out.row (by omega) _).row (by omega) _⟩
      · simp only [Bool.or_false, Bool.or_true, Bool.true_or, Bool.false_or] at hs9
        have h7 : v / 128 % 2 = 1 := by simpa using hD
        have t7 : (((v : Int)) / 128 % 2 == 1) = true := by simp; omega
        rw [show ((mv : Nat) : Int) = (v : Int) by omega] at hst
        clear hD hma h6 h7
        go_enter Tryz.func31, Tryz.ntmps31
        go_wp2_with (refine wpList_load_blk (by rfl) 32 _ rfl rfl (by with_reducible assumption) Tryz.underlying32 rfl (by kernel_rfl) ?_)
        refine (hwd _ (hM.ext (HW.out ▸ HE.out))).mono ?_
        rintro e w' ⟨rfl, hE⟩
        rw [← HW.out] at hE
        (try replace hb := hb.ext hE); (try replace hc := hc.ext hE); (try replace hd := hd.ext hE); (try replace h1 := h1.ext hE); (try replace h6 := h6.ext hE); (try replace h7 := h7.ext hE); (try replace hM := hM.ext hE); (try replace HE := Lib.hid (HE.out.trans hE))
        clear hE HW h1L hbL h1c hwd
        have h1a := h1
        have h1b := h1.row (lfC l1)
        have key := (h1).row (lfC l1); clear h1; (try replace hb := Blk.apart hb (show _ ≠ w.heap.size + 1 by omega) (lfC l1)); (try replace hc := Blk.apart hc (show _ ≠ w.heap.size + 1 by omega) (lfC l1)); (try replace hd := Blk.apart hd (show _ ≠ w.heap.size + 1 by omega) (lfC l1)); (try replace h1 := Blk.apart h1 (show _ ≠ w.heap.size + 1 by omega) (lfC l1)); (try replace h6 := Blk.apart h6 (show _ ≠ w.heap.size + 1 by omega) (lfC l1)); (try replace h7 := Blk.apart h7 (show _ ≠ w.heap.size + 1 by omega) (lfC l1)); have h1 := key; clear key; replace HE := Lib.hid (HE.out.row (show _ ≤ w.heap.size + 1 by omega) (lfC l1))
        have key := (h1).row (lfC l2); clear h1; (try replace hb := Blk.apart hb (show _ ≠ w.heap.size + 1 by omega) (lfC l2)); (try replace hc := Blk.apart hc (show _ ≠ w.heap.size + 1 by omega) (lfC l2)); (try replace hd := Blk.apart hd (show _ ≠ w.heap.size + 1 by omega) (lfC l2)); (try replace h1 := Blk.apart h1 (show _ ≠ w.heap.size + 1 by omega) (lfC l2)); (try replace h6 := Blk.apart h6 (show _ ≠ w.heap.size + 1 by omega) (lfC l2)); (try replace h7 := Blk.apart h7 (show _ ≠ w.heap.size + 1 by omega) (lfC l2)); have h1 := key; clear key; replace HE := Lib.hid (HE.out.row (show _ ≤ w.heap.size + 1 by omega) (lfC l2))
        have ha2 := lfC_at' l2
        go_wp2_with (first | (refine wpList_store_cell rfl 4 _ _ rfl rfl rfl h1a (by simp [lfC_size]) (hs8) (by kernel_rfl) rfl rfl ?_) | (refine wpList_store_cell rfl 4 _ _ rfl rfl rfl h1b (by simp [lfC_size]) (hs9) (by kernel_rfl) rfl rfl ?_))
        clear h1a h1b
        rw [hat2] at ha2
        generalize (w'.setRow (w.heap.size + 1) (lfC l1)).setRow (w.heap.size + 1) (lfC l2) = X at hb hc hd h1 HE ⊢
        (try replace hb := Blk.drew hb); (try replace hc := Blk.drew hc); (try replace hd := Blk.drew hd); (try replace h1 := Blk.drew h1); (try replace h6 := Blk.drew h6); (try replace h7 := Blk.drew h7); replace HE := Lib.hid HE.out.drew
        refine wp_region_seq [(0, false), (1, false), (2, false), (3, false), (4, false), (6, false), (5, true), (7, true), (8, true)] (Gap (w.heap.size + 1 + 1) (w.heap.size + 4)) (by kernel_rfl) (by kernel_rfl) (Gap.refl _ _) (fun _ _ _ => Gap.trans) ?_; simp only [List.map, nth_z, nth_s]
        refine seq_load rfl rfl (fun x hx => Gap.blk hx (hb) (by omega)) rfl Tryz.underlying32 (by kernel_rfl) (by rfl) ?_; intro K hK; simp only [Act.put, List.setIfInBounds_toArray, List.set_cons_zero, List.set_cons_succ]; refine hK _ ?_; clear hK K
        (repeat (first | (refine seq_skip (by rfl) ?_; intro K hK; simp only [Act.put, List.setIfInBounds_toArray, List.set_cons_zero, List.set_cons_succ]; refine hK _ ?_; clear hK K) | (refine seq_skipc (by rfl) ?_; intro K hK; simp only [Act.put, List.setIfInBounds_toArray, List.set_cons_zero, List.set_cons_succ]; refine hK _ ?_; clear hK K) | (refine seq_read (by rfl) (by rfl) ?_; intro K hK; go_big_quiet_op; first | go_big_quiet_on | (refine ⟨_, fun _ _ => rfl, ?_⟩; go_big_quiet_on))))
        refine seq_value (.int .u64 (l.at' : Int)) (by rfl) (fun x hx => by have hq := ((Gap.blk hx (h1) (by omega)).cell 1).trans (ha2); simp [go_sem, execOp, Act.eval, hq]) ?_; intro K hK; simp only [Act.put, List.setIfInBounds_toArray, List.set_cons_zero, List.set_cons_succ]; refine hK _ ?_; clear hK K
        (repeat (first | (refine seq_skip (by rfl) ?_; intro K hK; simp only [Act.put, List.setIfInBounds_toArray, List.set_cons_zero, List.set_cons_succ]; refine hK _ ?_; clear hK K) | (refine seq_skipc (by rfl) ?_; intro K hK; simp only [Act.put, List.setIfInBounds_toArray, List.set_cons_zero, List.set_cons_succ]; refine hK _ ?_; clear hK K) | (refine seq_read (by rfl) (by rfl) ?_; intro K hK; go_big_quiet_op; first | go_big_quiet_on | (refine ⟨_, fun _ _ => rfl, ?_⟩; go_big_quiet_on))))
        refine seq_load rfl rfl (fun x hx => Gap.blk hx (h1) (by omega)) rfl Tryz.underlying75 (lf_info _) (by rfl) ?_; intro K hK; simp only [Act.put, List.setIfInBounds_toArray, List.set_cons_zero, List.set_cons_succ]; refine hK _ ?_; clear hK K
        have hq1 := hc.lt
        have hq2 := hd.lt
        refine seq_call (hst _ (hM.ext HE.out)) rfl Tryz.func63 (by kernel_rfl) (by kernel_rfl) (by rfl) (by rfl) ?_; intro K hK; rintro e w' ⟨A2, c2, rfl, hM2, ho, hE⟩; refine ⟨_, rfl, (Gap.ext hE), ?_⟩; simp only [Act.put, List.setIfInBounds_toArray, List.set_cons_zero, List.set_cons_succ]; refine hK _ _ ?_; clear hK K; (try replace hb := hb.ext hE); (try replace hc := hc.ext hE); (try replace hd := hd.ext hE); (try replace h1 := h1.ext hE); (try replace h6 := h6.ext hE); (try replace h7 := h7.ext hE); (try replace hM := hM.ext hE); (try replace HE := Lib.hid (HE.out.trans hE))
        clear hE
        refine seq_store_row rfl rfl rfl (hc) (by kernel_rfl) (by rfl) (by simp [Value.oneCell']) (by rfl) (Gap.row _ (by omega) (by omega) _) ?_; intro K hK; simp only [Act.put, List.setIfInBounds_toArray, List.set_cons_zero, List.set_cons_succ]; refine hK _ _ ?_; clear hK K
        refine seq_store_row rfl rfl rfl ((hd.apart (by omega) _)) (lf_info _) (by simp [lfC_size]) (lfC_one _) (by rfl) (Gap.row _ (by omega) (by omega) _) ?_; intro K hK; simp only [Act.put, List.setIfInBounds_toArray, List.set_cons_zero, List.set_cons_succ]; refine hK _ _ ?_; clear hK K
        refine seq_done ?_
        go_wp2
        (try simp only [Exit.inBlock, Exit.then]); (try rw [Exit.noGoto_ret]); refine bodyPost_ret (results_cc rfl _ _ rfl rfl (((hc.row _).apart (by omega) _)) (((hd.apart (by omega) _).row _)) Tryz.underlying32 rfl (by first | exact lf_info _ | kernel_rfl) Tryz.underlying75 rfl (by first | exact lf_info _ | kernel_rfl)) rfl ?_
        exact ⟨A2, c2, by rw [HL2.out], ((hM2.row' (ho w.heap.size) (by omega) hq1 _).row' (ho w.heap.size) (by omega) hq2 _), fun lo hi hh _ => (ho lo).mono (by have := HE.out.size; omega), (HE.out.row (by omega) _).row (by omega) _⟩
    · skip
      cases ld
      · simp only [Bool.or_false, Bool.or_true, Bool.true_or, Bool.false_or] at hs9
        have h7 : ¬ v / 128 % 2 = 1 := by simpa using hD
        rw [if_pos (by simp [h7])] at hma
        have t9 : ((v : Int) / 128 % 2 == 0) = true := by simp; omega
        have t10 : (v : Int) + 128 < 18446744073709551616 := by omega
        have t7 : (((v : Int) + 128) / 128 % 2 == 1) = true := by simp; omega
        rw [show ((mv : Nat) : Int) = (v : Int) + 128 by omega] at hst
        clear hD hma h6 h7
        go_enter Tryz.func31, Tryz.ntmps31
        go_wp2_with (refine wpList_load_blk (by rfl) 32 _ rfl rfl (by with_reducible assumption) Tryz.underlying32 rfl (by kernel_rfl) ?_)
        refine (hwd _ (hM.ext (HW.out ▸ HE.out))).mono ?_
        rintro e w' ⟨rfl, hE⟩
        rw [← HW.out] at hE
        (try replace hb := hb.ext hE); (try replace hc := hc.ext hE); (try replace hd := hd.ext hE); (try replace h1 := h1.ext hE); (try replace h6 := h6.ext hE); (try replace h7 := h7.ext hE); (try replace hM := hM.ext hE); (try replace HE := Lib.hid (HE.out.trans hE))
        clear hE HW h1L hbL h1c hwd
        have h1a := h1
        have h1b := h1.row (lfC l1)
        have key := (h1).row (lfC l1); clear h1; (try replace hb := Blk.apart hb (show _ ≠ w.heap.size + 1 by omega) (lfC l1)); (try replace hc := Blk.apart hc (show _ ≠ w.heap.size + 1 by omega) (lfC l1)); (try replace hd := Blk.apart hd (show _ ≠ w.heap.size + 1 by omega) (lfC l1)); (try replace h1 := Blk.apart h1 (show _ ≠ w.heap.size + 1 by omega) (lfC l1)); (try replace h6 := Blk.apart h6 (show _ ≠ w.heap.size + 1 by omega) (lfC l1)); (try replace h7 := Blk.apart h7 (show _ ≠ w.heap.size + 1 by omega) (lfC l1)); have h1 := key; clear key; replace HE := Lib.hid (HE.out.row (show _ ≤ w.heap.size + 1 by omega) (lfC l1))
        have key := (h1).row (lfC l2); clear h1; (try replace hb := Blk.apart hb (show _ ≠ w.heap.size + 1 by omega) (lfC l2)); (try replace hc := Blk.apart hc (show _ ≠ w.heap.size + 1 by omega) (lfC l2)); (try replace hd := Blk.apart hd (show _ ≠ w.heap.size + 1 by omega) (lfC l2)); (try replace h1 := Blk.apart h1 (show _ ≠ w.heap.size + 1 by omega) (lfC l2)); (try replace h6 := Blk.apart h6 (show _ ≠ w.heap.size + 1 by omega) (lfC l2)); (try replace h7 := Blk.apart h7 (show _ ≠ w.heap.size + 1 by omega) (lfC l2)); have h1 := key; clear key; replace HE := Lib.hid (HE.out.row (show _ ≤ w.heap.size + 1 by omega) (lfC l2))
        have ha2 := lfC_at' l2
        go_wp2_with (first | (refine wpList_store_cell rfl 4 _ _ rfl rfl rfl h1a (by simp [lfC_size]) (hs8) (by kernel_rfl) rfl rfl ?_) | (refine wpList_store_cell rfl 4 _ _ rfl rfl rfl h1b (by simp [lfC_size]) (hs9) (by kernel_rfl) rfl rfl ?_))
        clear h1a h1b
        rw [hat2] at ha2
        generalize (w'.setRow (w.heap.size + 1) (lfC l1)).setRow (w.heap.size + 1) (lfC l2) = X at hb hc hd h1 HE ⊢
        (try replace hb := Blk.drew hb); (try replace hc := Blk.drew hc); (try replace hd := Blk.drew hd); (try replace h1 := Blk.drew h1); (try replace h6 := Blk.drew h6); (try replace h7 := Blk.drew h7); replace HE := Lib.hid HE.out.drew
        refine wp_region_seq [(0, false), (1, false), (2, false), (3, false), (4, false), (6, false), (5, true), (7, true), (8, true)] (Gap (w.heap.size + 1 + 1) (w.heap.size + 4)) (by kernel_rfl) (by kernel_rfl) (Gap.refl _ _) (fun _ _ _ => Gap.trans) ?_; simp only [List.map, nth_z, nth_s]
        refine seq_load rfl rfl (fun x hx => Gap.blk hx (hb) (by omega)) rfl Tryz.underlying32 (by kernel_rfl) (by rfl) ?_; intro K hK; simp only [Act.put, List.setIfInBounds_toArray, List.set_cons_zero, List.set_cons_succ]; refine hK _ ?_; clear hK K
        (repeat (first | (refine seq_skip (by rfl) ?_; intro K hK; simp only [Act.put, List.setIfInBounds_toArray, List.set_cons_zero, List.set_cons_succ]; refine hK _ ?_; clear hK K) | (refine seq_skipc (by rfl) ?_; intro K hK; simp only [Act.put, List.setIfInBounds_toArray, List.set_cons_zero, List.set_cons_succ]; refine hK _ ?_; clear hK K) | (refine seq_read (by rfl) (by rfl) ?_; intro K hK; go_big_quiet_op; first | go_big_quiet_on | (refine ⟨_, fun _ _ => rfl, ?_⟩; go_big_quiet_on))))
        refine seq_value (.int .u64 (l.at' : Int)) (by rfl) (fun x hx => by have hq := ((Gap.blk hx (h1) (by omega)).cell 1).trans (ha2); simp [go_sem, execOp, Act.eval, hq]) ?_; intro K hK; simp only [Act.put, List.setIfInBounds_toArray, List.set_cons_zero, List.set_cons_succ]; refine hK _ ?_; clear hK K
        (repeat (first | (refine seq_skip (by rfl) ?_; intro K hK; simp only [Act.put, List.setIfInBounds_toArray, List.set_cons_zero, List.set_cons_succ]; refine hK _ ?_; clear hK K) | (refine seq_skipc (by rfl) ?_; intro K hK; simp only [Act.put, List.setIfInBounds_toArray, List.set_cons_zero, List.set_cons_succ]; refine hK _ ?_; clear hK K) | (refine seq_read (by rfl) (by rfl) ?_; intro K hK; go_big_quiet_op; first | go_big_quiet_on | (refine ⟨_, fun _ _ => rfl, ?_⟩; go_big_quiet_on))))
        refine seq_load rfl rfl (fun x hx => Gap.blk hx (h1) (by omega)) rfl Tryz.underlying75 (lf_info _) (by rfl) ?_; intro K hK; simp only [Act.put, List.setIfInBounds_toArray, List.set_cons_zero, List.set_cons_succ]; refine hK _ ?_; clear hK K
        have hq1 := hc.lt
        have hq2 := hd.lt
        refine seq_call (hst _ (hM.ext HE.out)) rfl Tryz.func63 (by kernel_rfl) (by kernel_rfl) (by rfl) (by rfl) ?_; intro K hK; rintro e w' ⟨A2, c2, rfl, hM2, ho, hE⟩; refine ⟨_, rfl, (Gap.ext hE), ?_⟩; simp only [Act.put, List.setIfInBounds_toArray, List.set_cons_zero, List.set_cons_succ]; refine hK _ _ ?_; clear hK K; (try replace hb := hb.ext hE); (try replace hc := hc.ext hE); (try replace hd := hd.ext hE); (try replace h1 := h1.ext hE); (try replace h6 := h6.ext hE); (try replace h7 := h7.ext hE); (try replace hM := hM.ext hE); (try replace HE := Lib.hid (HE.out.trans hE))
        clear hE
        refine seq_store_row rfl rfl rfl (hc) (by kernel_rfl) (by rfl) (by simp [Value.oneCell']) (by rfl) (Gap.row _ (by omega) (by omega) _) ?_; intro K hK; simp only [Act.put, List.setIfInBounds_toArray, List.set_cons_zero, List.set_cons_succ]; refine hK _ _ ?_; clear hK K
        refine seq_store_row rfl rfl rfl ((hd.apart (by omega) _)) (lf_info _) (by simp [lfC_size]) (lfC_one _) (by rfl) (Gap.row _ (by omega) (by omega) _) ?_; intro K hK; simp only [Act.put, List.setIfInBounds_toArray, List.set_cons_zero, List.set_cons_succ]; refine hK _ _ ?_; clear hK K
        refine seq_done ?_
        go_wp2
        (try simp only [Exit.inBlock, Exit.then]); (try rw [Exit.noGoto_ret]); refine bodyPost_ret (results_cc rfl _ _ rfl rfl (((hc.row _).apart (by omega) _)) (((hd.apart (by omega) _).row _)) Tryz.underlying32 rfl (by first | exact lf_info _ | kernel_rfl) Tryz.underlying75 rfl (by first | exact lf_info _ | kernel_rfl)) rfl ?_
        exact ⟨A2, c2, by rw [HL2.out], ((hM2.row' (ho w.heap.size) (by omega) hq1 _).row' (ho w.heap.size) (by omega) hq2 _), fun lo hi hh _ => (ho lo).mono (by have := HE.out.size; omega), (HE.out.row (by omega) _).row (by omega) _⟩
      · simp only [Bool.or_false, Bool.or_true, Bool.true_or, Bool.false_or] at hs9
        have h7 : v / 128 % 2 = 1 := by simpa using hD
        rw [if_neg (by simp [h7])] at hma
        have t9 : ((v : Int) / 128 % 2 == 0) = false := by simp; omega
        have t7 : (((v : Int)) / 128 % 2 == 1) = true := by simp; omega
        rw [show ((mv : Nat) : Int) = (v : Int) by omega] at hst
        clear hD hma h6 h7
        go_enter Tryz.func31, Tryz.ntmps31
        go_wp2_with (refine wpList_load_blk (by rfl) 32 _ rfl rfl (by with_reducible assumption) Tryz.underlying32 rfl (by kernel_rfl) ?_)
        refine (hwd _ (hM.ext (HW.out ▸ HE.out))).mono ?_
        rintro e w' ⟨rfl, hE⟩
        rw [← HW.out] at hE
        (try replace hb := hb.ext hE); (try replace hc := hc.ext hE); (try replace hd := hd.ext hE); (try replace h1 := h1.ext hE); (try replace h6 := h6.ext hE); (try replace h7 := h7.ext hE); (try replace hM := hM.ext hE); (try replace HE := Lib.hid (HE.out.trans hE))
        clear hE HW h1L hbL h1c hwd
        have h1a := h1
        have h1b := h1.row (lfC l1)
        have key := (h1).row (lfC l1); clear h1; (try replace hb := Blk.apart hb (show _ ≠ w.heap.size + 1 by omega) (lfC l1)); (try replace hc := Blk.apart hc (show _ ≠ w.heap.size + 1 by omega) (lfC l1)); (try replace hd := Blk.apart hd (show _ ≠ w.heap.size + 1 by omega) (lfC l1)); (try replace h1 := Blk.apart h1 (show _ ≠ w.heap.size + 1 by omega) (lfC l1)); (try replace h6 := Blk.apart h6 (show _ ≠ w.heap.size + 1 by omega) (lfC l1)); (try replace h7 := Blk.apart h7 (show _ ≠ w.heap.size + 1 by omega) (lfC l1)); have h1 := key; clear key; replace HE := Lib.hid (HE.out.row (show _ ≤ w.heap.size + 1 by omega) (lfC l1))
        have key := (h1).row (lfC l2); clear h1; (try replace hb := Blk.apart hb (show _ ≠ w.heap.size + 1 by omega) (lfC l2)); (try replace hc := Blk.apart hc (show _ ≠ w.heap.size + 1 by omega) (lfC l2)); (try replace hd := Blk.apart hd (show _ ≠ w.heap.size + 1 by omega) (lfC l2)); (try replace h1 := Blk.apart h1 (show _ ≠ w.heap.size + 1 by omega) (lfC l2)); (try replace h6 := Blk.apart h6 (show _ ≠ w.heap.size + 1 by omega) (lfC l2)); (try replace h7 := Blk.apart h7 (show _ ≠ w.heap.size + 1 by omega) (lfC l2)); have h1 := key; clear key; replace HE := Lib.hid (HE.out.row (show _ ≤ w.heap.size + 1 by omega) (lfC l2))
        have ha2 := lfC_at' l2
        go_wp2_with (first | (refine wpList_store_cell rfl 4 _ _ rfl rfl rfl h1a (by simp [lfC_size]) (hs8) (by kernel_rfl) rfl rfl ?_) | (refine wpList_store_cell rfl 4 _ _ rfl rfl rfl h1b (by simp [lfC_size]) (hs9) (by kernel_rfl) rfl rfl ?_))
        clear h1a h1b
        rw [hat2] at ha2
        generalize (w'.setRow (w.heap.size + 1) (lfC l1)).setRow (w.heap.size + 1) (lfC l2) = X at hb hc hd h1 HE ⊢
        (try replace hb := Blk.drew hb); (try replace hc := Blk.drew hc); (try replace hd := Blk.drew hd); (try replace h1 := Blk.drew h1); (try replace h6 := Blk.drew h6); (try replace h7 := Blk.drew h7); replace HE := Lib.hid HE.out.drew
        refine wp_region_seq [(0, false), (1, false), (2, false), (3, false), (4, false), (6, false), (5, true), (7, true), (8, true)] (Gap (w.heap.size + 1 + 1) (w.heap.size + 4)) (by kernel_rfl) (by kernel_rfl) (Gap.refl _ _) (fun _ _ _ => Gap.trans) ?_; simp only [List.map, nth_z, nth_s]
        refine seq_load rfl rfl (fun x hx => Gap.blk hx (hb) (by omega)) rfl Tryz.underlying32 (by kernel_rfl) (by rfl) ?_; intro K hK; simp only [Act.put, List.setIfInBounds_toArray, List.set_cons_zero, List.set_cons_succ]; refine hK _ ?_; clear hK K
        (repeat (first | (refine seq_skip (by rfl) ?_; intro K hK; simp only [Act.put, List.setIfInBounds_toArray, List.set_cons_zero, List.set_cons_succ]; refine hK _ ?_; clear hK K) | (refine seq_skipc (by rfl) ?_; intro K hK; simp only [Act.put, List.setIfInBounds_toArray, List.set_cons_zero, List.set_cons_succ]; refine hK _ ?_; clear hK K) | (refine seq_read (by rfl) (by rfl) ?_; intro K hK; go_big_quiet_op; first | go_big_quiet_on | (refine ⟨_, fun _ _ => rfl, ?_⟩; go_big_quiet_on))))
        refine seq_value (.int .u64 (l.at' : Int)) (by rfl) (fun x hx => by have hq := ((Gap.blk hx (h1) (by omega)).cell 1).trans (ha2); simp [go_sem, execOp, Act.eval, hq]) ?_; intro K hK; simp only [Act.put, List.setIfInBounds_toArray, List.set_cons_zero, List.set_cons_succ]; refine hK _ ?_; clear hK K
        (repeat (first | (refine seq_skip (by rfl) ?_; intro K hK; simp only [Act.put, List.setIfInBounds_toArray, List.set_cons_zero, List.set_cons_succ]; refine hK _ ?_; clear hK K) | (refine seq_skipc (by rfl) ?_; intro K hK; simp only [Act.put, List.setIfInBounds_toArray, List.set_cons_zero, List.set_cons_succ]; refine hK _ ?_; clear hK K) | (refine seq_read (by rfl) (by rfl) ?_; intro K hK; go_big_quiet_op; first | go_big_quiet_on | (refine ⟨_, fun _ _ => rfl, ?_⟩; go_big_quiet_on))))
        refine seq_load rfl rfl (fun x hx => Gap.blk hx (h1) (by omega)) rfl Tryz.underlying75 (lf_info _) (by rfl) ?_; intro K hK; simp only [Act.put, List.setIfInBounds_toArray, List.set_cons_zero, List.set_cons_succ]; refine hK _ ?_; clear hK K
        have hq1 := hc.lt
        have hq2 := hd.lt
        refine seq_call (hst _ (hM.ext HE.out)) rfl Tryz.func63 (by kernel_rfl) (by kernel_rfl) (by rfl) (by rfl) ?_; intro K hK; rintro e w' ⟨A2, c2, rfl, hM2, ho, hE⟩; refine ⟨_, rfl, (Gap.ext hE), ?_⟩; simp only [Act.put, List.setIfInBounds_toArray, List.set_cons_zero, List.set_cons_succ]; refine hK _ _ ?_; clear hK K; (try replace hb := hb.ext hE); (try replace hc := hc.ext hE); (try replace hd := hd.ext hE); (try replace h1 := h1.ext hE); (try replace h6 := h6.ext hE); (try replace h7 := h7.ext hE); (try replace hM := hM.ext hE); (try replace HE := Lib.hid (HE.out.trans hE))
        clear hE
        refine seq_store_row rfl rfl rfl (hc) (by kernel_rfl) (by rfl) (by simp [Value.oneCell']) (by rfl) (Gap.row _ (by omega) (by omega) _) ?_; intro K hK; simp only [Act.put, List.setIfInBounds_toArray, List.set_cons_zero, List.set_cons_succ]; refine hK _ _ ?_; clear hK K
        refine seq_store_row rfl rfl rfl ((hd.apart (by omega) _)) (lf_info _) (by simp [lfC_size]) (lfC_one _) (by rfl) (Gap.row _ (by omega) (by omega) _) ?_; intro K hK; simp only [Act.put, List.setIfInBounds_toArray, List.set_cons_zero, List.set_cons_succ]; refine hK _ _ ?_; clear hK K
        refine seq_done ?_
        go_wp2
        (try simp only [Exit.inBlock, Exit.then]); (try rw [Exit.noGoto_ret]); refine bodyPost_ret (results_cc rfl _ _ rfl rfl (((hc.row _).apart (by omega) _)) (((hd.apart (by omega) _).row _)) Tryz.underlying32 rfl (by first | exact lf_info _ | kernel_rfl) Tryz.underlying75 rfl (by first | exact lf_info _ | kernel_rfl)) rfl ?_
        exact ⟨A2, c2, by rw [HL2.out], ((hM2.row' (ho w.heap.size) (by omega) hq1 _).row' (ho w.heap.size) (by omega) hq2 _), fun lo hi hh _ => (ho lo).mono (by have := HE.out.size; omega), (HE.out.row (by omega) _).row (by omega) _⟩
  · have t6 : ((v : Int) / 64 % 2 == 0) = true := by simp; omega
    rw [if_neg h6] at hma
    have t8 : (v : Int) + 64 < 18446744073709551616 := by omega
    cases d
    · rw [if_neg (by simp)] at hma
      cases ld
      · simp only [Bool.or_false, Bool.or_true, Bool.true_or, Bool.false_or] at hs9
        have h7 : ¬ v / 128 % 2 = 1 := by simpa using hD
        have t7 : (((v : Int) + 64) / 128 % 2 == 1) = false := by simp; omega
        rw [show ((mv : Nat) : Int) = (v : Int) + 64 by omega] at hst
        clear hD hma h6 h7
        go_enter Tryz.func31, Tryz.ntmps31
        go_wp2_with (refine wpList_load_blk (by rfl) 32 _ rfl rfl (by with_reducible assumption) Tryz.underlying32 rfl (by kernel_rfl) ?_)
        refine (hwd _ (hM.ext (HW.out ▸ HE.out))).mono ?_
        rintro e w' ⟨rfl, hE⟩
        rw [← HW.out] at hE
        (try replace hb := hb.ext hE); (try replace hc := hc.ext hE); (try replace hd := hd.ext hE); (try replace h1 := h1.ext hE); (try replace h6 := h6.ext hE); (try replace h7 := h7.ext hE); (try replace hM := hM.ext hE); (try replace HE := Lib.hid (HE.out.trans hE))
        clear hE HW h1L hbL h1c hwd
        have h1a := h1
        have h1b := h1.row (lfC l1)
        have key := (h1).row (lfC l1); clear h1; (try replace hb := Blk.apart hb (show _ ≠ w.heap.size + 1 by omega) (lfC l1)); (try replace hc := Blk.apart hc (show _ ≠ w.heap.size + 1 by omega) (lfC l1)); (try replace hd := Blk.apart hd (show _ ≠ w.heap.size + 1 by omega) (lfC l1)); (try replace h1 := Blk.apart h1 (show _ ≠ w.heap.size + 1 by omega) (lfC l1)); (try replace h6 := Blk.apart h6 (show _ ≠ w.heap.size + 1 by omega) (lfC l1)); (try replace h7 := Blk.apart h7 (show _ ≠ w.heap.size + 1 by omega) (lfC l1)); have h1 := key; clear key; replace HE := Lib.hid (HE.out.row (show _ ≤ w.heap.size + 1 by omega) (lfC l1))
        have key := (h1).row (lfC l2); clear h1; (try replace hb := Blk.apart hb (show _ ≠ w.heap.size + 1 by omega) (lfC l2)); (try replace hc := Blk.apart hc (show _ ≠ w.heap.size + 1 by omega) (lfC l2)); (try replace hd := Blk.apart hd (show _ ≠ w.heap.size + 1 by omega) (lfC l2)); (try replace h1 := Blk.apart h1 (show _ ≠ w.heap.size + 1 by omega) (lfC l2)); (try replace h6 := Blk.apart h6 (show _ ≠ w.heap.size + 1 by omega) (lfC l2)); (try replace h7 := Blk.apart h7 (show _ ≠ w.heap.size + 1 by omega) (lfC l2)); have h1 := key; clear key; replace HE := Lib.hid (HE.out.row (show _ ≤ w.heap.size + 1 by omega) (lfC l2))
        have ha2 := lfC_at' l2
        go_wp2_with (first | (refine wpList_store_cell rfl 4 _ _ rfl rfl rfl h1a (by simp [lfC_size]) (hs8) (by kernel_rfl) rfl rfl ?_) | (refine wpList_store_cell rfl 4 _ _ rfl rfl rfl h1b (by simp [lfC_size]) (hs9) (by kernel_rfl) rfl rfl ?_))
        clear h1a h1b
        rw [hat2] at ha2
        generalize (w'.setRow (w.heap.size + 1) (lfC l1)).setRow (w.heap.size + 1) (lfC l2) = X at hb hc hd h1 HE ⊢
        (try replace hb := Blk.drew hb); (try replace hc := Blk.drew hc); (try replace hd := Blk.drew hd); (try replace h1 := Blk.drew h1); (try replace h6 := Blk.drew h6); (try replace h7 := Blk.drew h7); replace HE := Lib.hid HE.out.drew
        refine wp_region_seq [(0, false), (1, false), (2, false), (3, false), (4, false), (6, false), (5, true), (7, true), (8, true)] (Gap (w.heap.size + 1 + 1) (w.heap.size + 4)) (by kernel_rfl) (by kernel_rfl) (Gap.refl _ _) (fun _ _ _ => Gap.trans) ?_; simp only [List.map, nth_z, nth_s]
        refine seq_load rfl rfl (fun x hx => Gap.blk hx (hb) (by omega)) rfl Tryz.underlying32 (by kernel_rfl) (by rfl) ?_; intro K hK; simp only [Act.put, List.setIfInBounds_toArray, List.set_cons_zero, List.set_cons_succ]; refine hK _ ?_; clear hK K
        (repeat (first | (refine seq_skip (by rfl) ?_; intro K hK; simp only [Act.put, List.setIfInBounds_toArray, List.set_cons_zero, List.set_cons_succ]; refine hK _ ?_; clear hK K) | (refine seq_skipc (by rfl) ?_; intro K hK; simp only [Act.put, List.setIfInBounds_toArray, List.set_cons_zero, List.set_cons_succ]; refine hK _ ?_; clear hK K) | (refine seq_read (by rfl) (by rfl) ?_; intro K hK; go_big_quiet_op; first | go_big_quiet_on | (refine ⟨_, fun _ _ => rfl, ?_⟩; go_big_quiet_on))))
        refine seq_value (.int .u64 (l.at' : Int)) (by rfl) (fun x hx => by have hq := ((Gap.blk hx (h1) (by omega)).cell 1).trans (ha2); simp [go_sem, execOp, Act.eval, hq]) ?_; intro K hK; simp only [Act.put, List.setIfInBounds_toArray, List.set_cons_zero, List.set_cons_succ]; refine hK _ ?_; clear hK K
        (repeat (first | (refine seq_skip (by rfl) ?_; intro K hK; simp only [Act.put, List.setIfInBounds_toArray, List.set_cons_zero, List.set_cons_succ]; refine hK _ ?_; clear hK K) | (refine seq_skipc (by rfl) ?_; intro K hK; simp only [Act.put, List.setIfInBounds_toArray, List.set_cons_zero, List.set_cons_succ]; refine hK _ ?_; clear hK K) | (refine seq_read (by rfl) (by rfl) ?_; intro K hK; go_big_quiet_op; first | go_big_quiet_on | (refine ⟨_, fun _ _ => rfl, ?_⟩; go_big_quiet_on))))
        refine seq_load rfl rfl (fun x hx => Gap.blk hx (h1) (by omega)) rfl Tryz.underlying75 (lf_info _) (by rfl) ?_; intro K hK; simp only [Act.put, List.setIfInBounds_toArray, List.set_cons_zero, List.set_cons_succ]; refine hK _ ?_; clear hK K
        have hq1 := hc.lt
        have hq2 := hd.lt
        refine seq_call (hst _ (hM.ext HE.out)) rfl Tryz.func63 (by kernel_rfl) (by kernel_rfl) (by rfl) (by rfl) ?_; intro K hK; rintro e w' ⟨A2, c2, rfl, hM2, ho, hE⟩; refine ⟨_, rfl, (Gap.ext hE), ?_⟩; simp only [Act.put, List.setIfInBounds_toArray, List.set_cons_zero, List.set_cons_succ]; refine hK _ _ ?_; clear hK K; (try replace hb := hb.ext hE); (try replace hc := hc.ext hE); (try replace hd := hd.ext hE); (try replace h1 := h1.ext hE); (try replace h6 := h6.ext hE); (try replace h7 := h7.ext hE); (try replace hM := hM.ext hE); (try replace HE := Lib.hid (HE.out.trans hE))
        clear hE
        refine seq_store_row rfl rfl rfl (hc) (by kernel_rfl) (by rfl) (by simp [Value.oneCell']) (by rfl) (Gap.row _ (by omega) (by omega) _) ?_; intro K hK; simp only [Act.put, List.setIfInBounds_toArray, List.set_cons_zero, List.set_cons_succ]; refine hK _ _ ?_; clear hK K
        refine seq_store_row rfl rfl rfl ((hd.apart (by omega) _)) (lf_info _) (by simp [lfC_size]) (lfC_one _) (by rfl) (Gap.row _ (by omega) (by omega) _) ?_; intro K hK; simp only [Act.put, List.setIfInBounds_toArray, List.set_cons_zero, List.set_cons_succ]; refine hK _ _ ?_; clear hK K
        refine seq_done ?_
        go_wp2
        (try simp only [Exit.inBlock, Exit.then]); (try rw [Exit.noGoto_ret]); refine bodyPost_ret (results_cc rfl _ _ rfl rfl (((hc.row _).apart (by omega) _)) (((hd.apart (by omega) _).row _)) Tryz.underlying32 rfl (by first | exact lf_info _ | kernel_rfl) Tryz.underlying75 rfl (by first | exact lf_info _ | kernel_rfl)) rfl ?_
        exact ⟨A2, c2, by rw [HL2.out], ((hM2.row' (ho w.heap.size) (by omega) hq1 _).row' (ho w.heap.size) (by omega) hq2 _), fun lo hi hh _ => (ho lo).mono (by have := HE.out.size; omega), (HE.out.row (by omega) _).row (by omega) _⟩
      · simp only [Bool.or_false, Bool.or_true, Bool.true_or, Bool.false_or] at hs9
        have h7 : v / 128 % 2 = 1 := by simpa using hD
        have t7 : (((v : Int) + 64) / 128 % 2 == 1) = true := by simp; omega
        rw [show ((mv : Nat) : Int) = (v : Int) + 64 by omega] at hst
        clear hD hma h6 h7
        go_enter Tryz.func31, Tryz.ntmps31
        go_wp2_with (refine wpList_load_blk (by rfl) 32 _ rfl rfl (by with_reducible assumption) Tryz.underlying32 rfl (by kernel_rfl) ?_)
        refine (hwd _ (hM.ext (HW.out ▸ HE.out))).mono ?_
        rintro e w' ⟨rfl, hE⟩
        rw [← HW.out] at hE
        (try replace hb := hb.ext hE); (try replace hc := hc.ext hE); (try replace hd := hd.ext hE); (try replace h1 := h1.ext hE); (try replace h6 := h6.ext hE); (try replace h7 := h7.ext hE); (try replace hM := hM.ext hE); (try replace HE := Lib.hid (HE.out.trans hE))
        clear hE HW h1L hbL h1c hwd
        have h1a := h1
        have h1b := h1.row (lfC l1)
        have key := (h1).row (lfC l1); clear h1; (try replace hb := Blk.apart hb (show _ ≠ w.heap.size + 1 by omega) (lfC l1)); (try replace hc := Blk.apart hc (show _ ≠ w.heap.size + 1 by omega) (lfC l1)); (try replace hd := Blk.apart hd (show _ ≠ w.heap.size + 1 by omega) (lfC l1)); (try replace h1 := Blk.apart h1 (show _ ≠ w.heap.size + 1 by omega) (lfC l1)); (try replace h6 := Blk.apart h6 (show _ ≠ w.heap.size + 1 by omega) (lfC l1)); (try replace h7 := Blk.apart h7 (show _ ≠ w.heap.size + 1 by omega) (lfC l1)); have h1 := key; clear key; replace HE := Lib.hid (HE.out.row (show _ ≤ w.heap.size + 1 by omega) (lfC l1))
        have key := (h1).row (lfC l2); clear h1; (try replace hb := Blk.apart hb (show _ ≠ w.heap.size + 1 by omega) (lfC l2)); (try replace hc := Blk.apart hc (show _ ≠ w.heap.size + 1 by omega) (lfC l2)); (try replace hd := Blk.apart hd (show _ ≠ w.heap.size + 1 by omega) (lfC l2)); (try replace h1 := Blk.apart h1 (show _ ≠ w.heap.size + 1 by omega) (lfC l2)); (try replace h6 := Blk.apart h6 (show _ ≠ w.heap.size + 1 by omega) (lfC l2)); (try replace h7 := Blk.apart h7 (show _ ≠ w.heap.size + 1 by omega) (lfC l2)); have h1 := key; clear key; replace HE := Lib.hid (HE.out.row (show _ ≤ w.heap.size + 1 by omega) (lfC l2))
        have ha2 := lfC_at' l2
        go_wp2_with (first | (refine wpList_store_cell rfl 4 _ _ rfl rfl rfl h1a (by simp [lfC_size]) (hs8) (by kernel_rfl) rfl rfl ?_) | (refine wpList_store_cell rfl 4 _ _ rfl rfl rfl h1b (by simp [lfC_size]) (hs9) (by kernel_rfl) rfl rfl ?_))
        clear h1a h1b
        rw [hat2] at ha2
        generalize (w'.setRow (w.heap.size + 1) (lfC l1)).setRow (w.heap.size + 1) (lfC l2) = X at hb hc hd h1 HE ⊢
        (try replace hb := Blk.drew hb); (try replace hc := Blk.drew hc); (try replace hd := Blk.drew hd); (try replace h1 := Blk.drew h1); (try replace h6 := Blk.drew h6); (try replace h7 := Blk.drew h7); replace HE := Lib.hid HE.out.drew
        refine wp_region_seq [(0, false), (1, false), (2, false), (3, false), (4, false), (6, false), (5, true), (7, true), (8, true)] (Gap (w.heap.size + 1 + 1) (w.heap.size + 4)) (by kernel_rfl) (by kernel_rfl) (Gap.refl _ _) (fun _ _ _ => Gap.trans) ?_; simp only [List.map, nth_z, nth_s]
        refine seq_load rfl rfl (fun x hx => Gap.blk hx (hb) (by omega)) rfl Tryz.underlying32 (by kernel_rfl) (by rfl) ?_; intro K hK; simp only [Act.put, List.setIfInBounds_toArray, List.set_cons_zero, List.set_cons_succ]; refine hK _ ?_; clear hK K
        (repeat (first | (refine seq_skip (by rfl) ?_; intro K hK; simp only [Act.put, List.setIfInBounds_toArray, List.set_cons_zero, List.set_cons_succ]; refine hK _ ?_; clear hK K) | (refine seq_skipc (by rfl) ?_; intro K hK; simp only [Act.put, List.setIfInBounds_toArray, List.set_cons_zero, List.set_cons_succ]; refine hK _ ?_; clear hK K) | (refine seq_read (by rfl) (by rfl) ?_; intro K hK; go_big_quiet_op; first | go_big_quiet_on | (refine ⟨_, fun _ _ => rfl, ?_⟩; go_big_quiet_on))))
        refine seq_value (.int .u64 (l.at' : Int)) (by rfl) (fun x hx => by have hq := ((Gap.blk hx (h1) (by omega)).cell 1).trans (ha2); simp [go_sem, execOp, Act.eval, hq]) ?_; intro K hK; simp only [Act.put, List.setIfInBounds_toArray, List.set_cons_zero, List.set_cons_succ]; refine hK _ ?_; clear hK K
        (repeat (first | (refine seq_skip (by rfl) ?_; intro K hK; simp only [Act.put, List.setIfInBounds_toArray, List.set_cons_zero, List.set_cons_succ]; refine hK _ ?_; clear hK K) | (refine seq_skipc (by rfl) ?_; intro K hK; simp only [Act.put, List.setIfInBounds_toArray, List.set_cons_zero, List.set_cons_succ]; refine hK _ ?_; clear hK K) | (refine seq_read (by rfl) (by rfl) ?_; intro K hK; go_big_quiet_op; first | go_big_quiet_on | (refine ⟨_, fun _ _ => rfl, ?_⟩; go_big_quiet_on))))
        refine seq_load rfl rfl (fun x hx => Gap.blk hx (h1) (by omega)) rfl Tryz.underlying75 (lf_info _) (by rfl) ?_; intro K hK; simp only [Act.put, List.setIfInBounds_toArray, List.set_cons_zero, List.set_cons_succ]; refine hK _ ?_; clear hK K
        have hq1 := hc.lt
        have hq2 := hd.lt
        refine seq_call (hst _ (hM.ext HE.out)) rfl Tryz.func63 (by kernel_rfl) (by kernel_rfl) (by rfl) (by rfl) ?_; intro K hK; rintro e w' ⟨A2, c2, rfl, hM2, ho, hE⟩; refine ⟨_, rfl, (Gap.ext hE), ?_⟩; simp only [Act.put, List.setIfInBounds_toArray, List.set_cons_zero, List.set_cons_succ]; refine hK _ _ ?_; clear hK K; (try replace hb := hb.ext hE); (try replace hc := hc.ext hE); (try replace hd := hd.ext hE); (try replace h1 := h1.ext hE); (try replace h6 := h6.ext hE); (try replace h7 := h7.ext hE); (try replace hM := hM.ext hE); (try replace HE := Lib.hid (HE.out.trans hE))
        clear hE
        refine seq_store_row rfl rfl rfl (hc) (by kernel_rfl) (by rfl) (by simp [Value.oneCell']) (by rfl) (Gap.row _ (by omega) (by omega) _) ?_; intro K hK; simp only [Act.put, List.setIfInBounds_toArray, List.set_cons_zero, List.set_cons_succ]; refine hK _ _ ?_; clear hK K
        refine seq_store_row rfl rfl rfl ((hd.apart (by omega) _)) (lf_info _) (by simp [lfC_size]) (lfC_one _) (by rfl) (Gap.row _ (by omega) (by omega) _) ?_; intro K hK; simp only [Act.put, List.setIfInBounds_toArray, List.set_cons_zero, List.set_cons_succ]; refine hK _ _ ?_; clear hK K
        refine seq_done ?_
        go_wp2
        (try simp only [Exit.inBlock, Exit.then]); (try rw [Exit.noGoto_ret]); refine bodyPost_ret (results_cc rfl _ _ rfl rfl (((hc.row _).apart (by omega) _)) (((hd.apart (by omega) _).row _)) Tryz.underlying32 rfl (by first | exact lf_info _ | kernel_rfl) Tryz.underlying75 rfl (by first | exact lf_info _ | kernel_rfl)) rfl ?_
        exact ⟨A2, c2, by rw [HL2.out], ((hM2.row' (ho w.heap.size) (by omega) hq1 _).row' (ho w.heap.size) (by omega) hq2 _), fun lo hi hh _ => (ho lo).mono (by have := HE.out.size; omega), (HE.out.row (by omega) _).row (by omega) _⟩
    · skip
      cases ld
      · simp only [Bool.or_false, Bool.or_true, Bool.true_or, Bool.false_or] at hs9
        have h7 : ¬ v / 128 % 2 = 1 := by simpa using hD
        rw [if_pos (by simp [h7])] at hma
        have t9 : (((v : Int) + 64) / 128 % 2 == 0) = true := by simp; omega
        have t10 : (v : Int) + 64 + 128 < 18446744073709551616 := by omega
        have t7 : (((v : Int) + 64 + 128) / 128 % 2 == 1) = true := by simp; omega
        rw [show ((mv : Nat) : Int) = (v : Int) + 64 + 128 by omega] at hst
        clear hD hma h6 h7
        go_enter Tryz.func31, Tryz.ntmps31
        go_wp2_with (refine wpList_load_blk (by rfl) 32 _ rfl rfl (by with_reducible assumption) Tryz.underlying32 rfl (by kernel_rfl) ?_)
        refine (hwd _ (hM.ext (HW.out ▸ HE.out))).mono ?_
        rintro e w' ⟨rfl, hE⟩
        rw [← HW.out] at hE
        (try replace hb := hb.ext hE); (try replace hc := hc.ext hE); (try replace hd := hd.ext hE); (try replace h1 := h1.ext hE); (try replace h6 := h6.ext hE); (try replace h7 := h7.ext hE); (try replace hM := hM.ext hE); (try replace HE := Lib.hid (HE.out.trans hE))
        clear hE HW h1L hbL h1c hwd
        have h1a := h1
        have h1b := h1.row (lfC l1)
        have key := (h1).row (lfC l1); clear h1; (try replace hb := Blk.apart hb (show _ ≠ w.heap.size + 1 by omega) (lfC l1)); (try replace hc := Blk.apart hc (show _ ≠ w.heap.size + 1 by omega) (lfC l1)); (try replace hd := Blk.apart hd (show _ ≠ w.heap.size + 1 by omega) (lfC l1)); (try replace h1 := Blk.apart h1 (show _ ≠ w.heap.size + 1 by omega) (lfC l1)); (try replace h6 := Blk.apart h6 (show _ ≠ w.heap.size + 1 by omega) (lfC l1)); (try replace h7 := Blk.apart h7 (show _ ≠ w.heap.size + 1 by omega) (lfC l1)); have h1 := key; clear key; replace HE := Lib.hid (HE.out.row (show _ ≤ w.heap.size + 1 by omega) (lfC l1))
        have key := (h1).row (lfC l2); clear h1; (try replace hb := Blk.apart hb (show _ ≠ w.heap.size + 1 by omega) (lfC l2)); (try replace hc := Blk.apart hc (show _ ≠ w.heap.size + 1 by omega) (lfC l2)); (try replace hd := Blk.apart hd (show _ ≠ w.heap.size + 1 by omega) (lfC l2)); (try replace h1 := Blk.apart h1 (show _ ≠ w.heap.size + 1 by omega) (lfC l2)); (try replace h6 := Blk.apart h6 (show _ ≠ w.heap.size + 1 by omega) (lfC l2)); (try replace h7 := Blk.apart h7 (show _ ≠ w.heap.size + 1 by omega) (lfC l2)); have h1 := key; clear key; replace HE := Lib.hid (HE.out.row (show _ ≤ w.heap.size + 1 by omega) (lfC l2))
        have ha2 := lfC_at' l2
        go_wp2_with (first | (refine wpList_store_cell rfl 4 _ _ rfl rfl rfl h1a (by simp [lfC_size]) (hs8) (by kernel_rfl) rfl rfl ?_) | (refine wpList_store_cell rfl 4 _ _ rfl rfl rfl h1b (by simp [lfC_size]) (hs9) (by kernel_rfl) rfl rfl ?_))
        clear h1a h1b
        rw [hat2] at ha2
        generalize (w'.setRow (w.heap.size + 1) (lfC l1)).setRow (w.heap.size + 1) (lfC l2) = X at hb hc hd h1 HE ⊢
        (try replace hb := Blk.drew hb); (try replace hc := Blk.drew hc); (try replace hd := Blk.drew hd); (try replace h1 := Blk.drew h1); (try replace h6 := Blk.drew h6); (try replace h7 := Blk.drew h7); replace HE := Lib.hid HE.out.drew
        refine wp_region_seq [(0, false), (1, false), (2, false), (3, false), (4, false), (6, false), (5, true), (7, true), (8, true)] (Gap (w.heap.size + 1 + 1) (w.heap.size + 4)) (by kernel_rfl) (by kernel_rfl) (Gap.refl _ _) (fun _ _ _ => Gap.trans) ?_; simp only [List.map, nth_z, nth_s]
        refine seq_load rfl rfl (fun x hx => Gap.blk hx (hb) (by omega)) rfl Tryz.underlying32 (by kernel_rfl) (by rfl) ?_; intro K hK; simp only [Act.put, List.setIfInBounds_toArray, List.set_cons_zero, List.set_cons_succ]; refine hK _ ?_; clear hK K
        (repeat (first | (refine seq_skip (by rfl) ?_; intro K hK; simp only [Act.put, List.setIfInBounds_toArray, List.set_cons_zero, List.set_cons_succ]; refine hK _ ?_; clear hK K) | (refine seq_skipc (by rfl) ?_; intro K hK; simp only [Act.put, List.setIfInBounds_toArray, List.set_cons_zero, List.set_cons_succ]; refine hK _ ?_; clear hK K) | (refine seq_read (by rfl) (by rfl) ?_; intro K hK; go_big_quiet_op; first | go_big_quiet_on | (refine ⟨_, fun _ _ => rfl, ?_⟩; go_big_quiet_on))))
        refine seq_value (.int .u64 (l.at' : Int)) (by rfl) (fun x hx => by have hq := ((Gap.blk hx (h1) (by omega)).cell 1).trans (ha2); simp [go_sem, execOp, Act.eval, hq]) ?_; intro K hK; simp only [Act.put, List.setIfInBounds_toArray, List.set_cons_zero, List.set_cons_succ]; refine hK _ ?_; clear hK K
        (repeat (first | (refine seq_skip (by rfl) ?_; intro K hK; simp only [Act.put, List.setIfInBounds_toArray, List.set_cons_zero, List.set_cons_succ]; refine hK _ ?_; clear hK K) | (refine seq_skipc (by rfl) ?_; intro K hK; simp only [Act.put, List.setIfInBounds_toArray, List.set_cons_zero, List.set_cons_succ]; refine hK _ ?_; clear hK K) | (refine seq_read (by rfl) (by rfl) ?_; intro K hK; go_big_quiet_op; first | go_big_quiet_on | (refine ⟨_, fun _ _ => rfl, ?_⟩; go_big_quiet_on))))
        refine seq_load rfl rfl (fun x hx => Gap.blk hx (h1) (by omega)) rfl Tryz.underlying75 (lf_info _) (by rfl) ?_; intro K hK; simp only [Act.put, List.setIfInBounds_toArray, List.set_cons_zero, List.set_cons_succ]; refine hK _ ?_; clear hK K
        have hq1 := hc.lt
        have hq2 := hd.lt
        refine seq_call (hst _ (hM.ext HE.out)) rfl Tryz.func63 (by kernel_rfl) (by kernel_rfl) (by rfl) (by rfl) ?_; intro K hK; rintro e w' ⟨A2, c2, rfl, hM2, ho, hE⟩; refine ⟨_, rfl, (Gap.ext hE), ?_⟩; simp only [Act.put, List.setIfInBounds_toArray, List.set_cons_zero, List.set_cons_succ]; refine hK _ _ ?_; clear hK K; (try replace hb := hb.ext hE); (try replace hc := hc.ext hE); (try replace hd := hd.ext hE); (try replace h1 := h1.ext hE); (try replace h6 := h6.ext hE); (try replace h7 := h7.ext hE); (try replace hM := hM.ext hE); (try replace HE := Lib.hid (HE.out.trans hE))
        clear hE
        refine seq_store_row rfl rfl rfl (hc) (by kernel_rfl) (by rfl) (by simp [Value.oneCell']) (by rfl) (Gap.row _ (by omega) (by omega) _) ?_; intro K hK; simp only [Act.put, List.setIfInBounds_toArray, List.set_cons_zero, List.set_cons_succ]; refine hK _ _ ?_; clear hK K
        refine seq_store_row rfl rfl rfl ((hd.apart (by omega) _)) (lf_info _) (by simp [lfC_size]) (lfC_one _) (by rfl) (Gap.row _ (by omega) (by omega) _) ?_; intro K hK; simp only [Act.put, List.setIfInBounds_toArray, List.set_cons_zero, List.set_cons_succ]; refine hK _ _ ?_; clear hK K
        refine seq_done ?_
        go_wp2
        (try simp only [Exit.inBlock, Exit.then]); (try rw [Exit.noGoto_ret]); refine bodyPost_ret (results_cc rfl _ _ rfl rfl (((hc.row _).apart (by omega) _)) (((hd.apart (by omega) _).row _)) Tryz.underlying32 rfl (by first | exact lf_info _ | kernel_rfl) Tryz.underlying75 rfl (by first | exact lf_info _ | kernel_rfl)) rfl ?_
        exact ⟨A2, c2, by rw [HL2.out], ((hM2.row' (ho w.heap.size) (by omega) hq1 _).row' (ho w.heap.size) (by omega) hq2 _), fun lo hi hh _ => (ho lo).mono (by have := HE.out.size; omega), (HE.out.row (by omega) _).row (by omega) _⟩
      · simp only [Bool.or_false, Bool.or_true, Bool.true_or, Bool.false_or] at hs9
        have h7 : v / 128 % 2 = 1 := by simpa using hD
        rw [if_neg (by simp [h7])] at hma
        have t9 : (((v : Int) + 64) / 128 % 2 == 0) = false := by simp; omega
        have t7 : (((v : Int) + 64) / 128 % 2 == 1) = true := by simp; omega
        rw [show ((mv : Nat) : Int) = (v : Int) + 64 by omega] at hst
        clear hD hma h6 h7
        go_enter Tryz.func31, Tryz.ntmps31
        go_wp2_with (refine wpList_load_blk (by rfl) 32 _ rfl rfl (by with_reducible assumption) Tryz.underlying32 rfl (by kernel_rfl) ?_)
        refine (hwd _ (hM.ext (HW.out ▸ HE.out))).mono ?_
        rintro e w' ⟨rfl, hE⟩
        rw [← HW.out] at hE
        (try replace hb := hb.ext hE); (try replace hc := hc.ext hE); (try replace hd := hd.ext hE); (try replace h1 := h1.ext hE); (try replace h6 := h6.ext hE); (try replace h7 := h7.ext hE); (try replace hM := hM.ext hE); (try replace HE := Lib.hid (HE.out.trans hE))
        clear hE HW h1L hbL h1c hwd
        have h1a := h1
        have h1b := h1.row (lfC l1)
        have key := (h1).row (lfC l1); clear h1; (try replace hb := Blk.apart hb (show _ ≠ w.heap.size + 1 by omega) (lfC l1)); (try replace hc := Blk.apart hc (show _ ≠ w.heap.size + 1 by omega) (lfC l1)); (try replace hd := Blk.apart hd (show _ ≠ w.heap.size + 1 by omega) (lfC l1)); (try replace h1 := Blk.apart h1 (show _ ≠ w.heap.size + 1 by omega) (lfC l1)); (try replace h6 := Blk.apart h6 (show _ ≠ w.heap.size + 1 by omega) (lfC l1)); (try replace h7 := Blk.apart h7 (show _ ≠ w.heap.size + 1 by omega) (lfC l1)); have h1 := key; clear key; replace HE := Lib.hid (HE.out.row (show _ ≤ w.heap.size + 1 by omega) (lfC l1))
        have key := (h1).row (lfC l2); clear h1; (try replace hb := Blk.apart hb (show _ ≠ w.heap.size + 1 by omega) (lfC l2)); (try replace hc := Blk.apart hc (show _ ≠ w.heap.size + 1 by omega) (lfC l2)); (try replace hd := Blk.apart hd (show _ ≠ w.heap.size + 1 by omega) (lfC l2)); (try replace h1 := Blk.apart h1 (show _ ≠ w.heap.size + 1 by omega) (lfC l2)); (try replace h6 := Blk.apart h6 (show _ ≠ w.heap.size + 1 by omega) (lfC l2)); (try replace h7 := Blk.apart h7 (show _ ≠ w.heap.size + 1 by omega) (lfC l2)); have h1 := key; clear key; replace HE := Lib.hid (HE.out.row (show _ ≤ w.heap.size + 1 by omega) (lfC l2))
        have ha2 := lfC_at' l2
        go_wp2_with (first | (refine wpList_store_cell rfl 4 _ _ rfl rfl rfl h1a (by simp [lfC_size]) (hs8) (by kernel_rfl) rfl rfl ?_) | (refine wpList_store_cell rfl 4 _ _ rfl rfl rfl h1b (by simp [lfC_size]) (hs9) (by kernel_rfl) rfl rfl ?_))
        clear h1a h1b
        rw [hat2] at ha2
        generalize (w'.setRow (w.heap.size + 1) (lfC l1)).setRow (w.heap.size + 1) (lfC l2) = X at hb hc hd h1 HE ⊢
        (try replace hb := Blk.drew hb); (try replace hc := Blk.drew hc); (try replace hd := Blk.drew hd); (try replace h1 := Blk.drew h1); (try replace h6 := Blk.drew h6); (try replace h7 := Blk.drew h7); replace HE := Lib.hid HE.out.drew
        refine wp_region_seq [(0, false), (1, false), (2, false), (3, false), (4, false), (6, false), (5, true), (7, true), (8, true)] (Gap (w.heap.size + 1 + 1) (w.heap.size + 4)) (by kernel_rfl) (by kernel_rfl) (Gap.refl _ _) (fun _ _ _ => Gap.trans) ?_; simp only [List.map, nth_z, nth_s]
        refine seq_load rfl rfl (fun x hx => Gap.blk hx (hb) (by omega)) rfl Tryz.underlying32 (by kernel_rfl) (by rfl) ?_; intro K hK; simp only [Act.put, List.setIfInBounds_toArray, List.set_cons_zero, List.set_cons_succ]; refine hK _ ?_; clear hK K
        (repeat (first | (refine seq_skip (by rfl) ?_; intro K hK; simp only [Act.put, List.setIfInBounds_toArray, List.set_cons_zero, List.set_cons_succ]; refine hK _ ?_; clear hK K) | (refine seq_skipc (by rfl) ?_; intro K hK; simp only [Act.put, List.setIfInBounds_toArray, List.set_cons_zero, List.set_cons_succ]; refine hK _ ?_; clear hK K) | (refine seq_read (by rfl) (by rfl) ?_; intro K hK; go_big_quiet_op; first | go_big_quiet_on | (refine ⟨_, fun _ _ => rfl, ?_⟩; go_big_quiet_on))))
        refine seq_value (.int .u64 (l.at' : Int)) (by rfl) (fun x hx => by have hq := ((Gap.blk hx (h1) (by omega)).cell 1).trans (ha2); simp [go_sem, execOp, Act.eval, hq]) ?_; intro K hK; simp only [Act.put, List.setIfInBounds_toArray, List.set_cons_zero, List.set_cons_succ]; refine hK _ ?_; clear hK K
        (repeat (first | (refine seq_skip (by rfl) ?_; intro K hK; simp only [Act.put, List.setIfInBounds_toArray, List.set_cons_zero, List.set_cons_succ]; refine hK _ ?_; clear hK K) | (refine seq_skipc (by rfl) ?_; intro K hK; simp only [Act.put, List.setIfInBounds_toArray, List.set_cons_zero, List.set_cons_succ]; refine hK _ ?_; clear hK K) | (refine seq_read (by rfl) (by rfl) ?_; intro K hK; go_big_quiet_op; first | go_big_quiet_on | (refine ⟨_, fun _ _ => rfl, ?_⟩; go_big_quiet_on))))
        refine seq_load rfl rfl (fun x hx => Gap.blk hx (h1) (by omega)) rfl Tryz.underlying75 (lf_info _) (by rfl) ?_; intro K hK; simp only [Act.put, List.setIfInBounds_toArray, List.set_cons_zero, List.set_cons_succ]; refine hK _ ?_; clear hK K
        have hq1 := hc.lt
        have hq2 := hd.lt
        refine seq_call (hst _ (hM.ext HE.out)) rfl Tryz.func63 (by kernel_rfl) (by kernel_rfl) (by rfl) (by rfl) ?_; intro K hK; rintro e w' ⟨A2, c2, rfl, hM2, ho, hE⟩; refine ⟨_, rfl, (Gap.ext hE), ?_⟩; simp only [Act.put, List.setIfInBounds_toArray, List.set_cons_zero, List.set_cons_succ]; refine hK _ _ ?_; clear hK K; (try replace hb := hb.ext hE); (try replace hc := hc.ext hE); (try replace hd := hd.ext hE); (try replace h1 := h1.ext hE); (try replace h6 := h6.ext hE); (try replace h7 := h7.ext hE); (try replace hM := hM.ext hE); (try replace HE := Lib.hid (HE.out.trans hE))
        clear hE
        refine seq_store_row rfl rfl rfl (hc) (by kernel_rfl) (by rfl) (by simp [Value.oneCell']) (by rfl) (Gap.row _ (by omega) (by omega) _) ?_; intro K hK; simp only [Act.put, List.setIfInBounds_toArray, List.set_cons_zero, List.set_cons_succ]; refine hK _ _ ?_; clear hK K
        refine seq_store_row rfl rfl rfl ((hd.apart (by omega) _)) (lf_info _) (by simp [lfC_size]) (lfC_one _) (by rfl) (Gap.row _ (by omega) (by omega) _) ?_; intro K hK; simp only [Act.put, List.setIfInBounds_toArray, List.set_cons_zero, List.set_cons_succ]; refine hK _ _ ?_; clear hK K
        refine seq_done ?_
        go_wp2
        (try simp only [Exit.inBlock, Exit.then]); (try rw [Exit.noGoto_ret]); refine bodyPost_ret (results_cc rfl _ _ rfl rfl (((hc.row _).apart (by omega) _)) (((hd.apart (by omega) _).row _)) Tryz.underlying32 rfl (by first | exact lf_info _ | kernel_rfl) Tryz.underlying75 rfl (by first | exact lf_info _ | kernel_rfl)) rfl ?_
        exact ⟨A2, c2, by rw [HL2.out], ((hM2.row' (ho w.heap.size) (by omega) hq1 _).row' (ho w.heap.size) (by omega) hq2 _), fun lo hi hh _ => (ho lo).mono (by have := HE.out.size; omega), (HE.out.row (by omega) _).row (by omega) _⟩
end Go.Proofs.YtlhoedpencmikaaGreatDoor
/- The document's answers for walks (atlasref10): Walk; Physical of both. -/
namespace Go.Proofs.YtlhoedpencmikaaGreatDoor
open Go.ChangeShapes Go.WideShapes Go.ChangeAt Go.RowKit
set_option linter.unusedVariables false
set_option linter.unusedSimpArgs false
set_option maxRecDepth 10000

/-! Physical -/
theorem ptP_9 (l : Lf) : (lfC l)[11]? = some (.int .u64 (l.pt.pp : Int)) := by simp only [lfC_eq, ptC_eq]; rfl
/-- a leaf's address -/
def physI (l : Lf) (a : Nat) : Int := (l.pt.pp : Int) * 4096 + offI (a : Int) l.lv
theorem physical_c (l : Lf) (hp : l.pt.pp < 17592186044416) (h0 : 0 ≤ l.lv) (h2 : l.lv ≤ 2) {a : Nat} (a1 : a < 18446744073709551616) (w : World) (hT : Lay w) :
    Calls Tryz.prog 130 #[.agg (lfC l), .int .u64 (a : Int)] w fun e w' => e = .returned (.int .u64 (physI l a)) ∧ Ext w w' := by
  have ho := off_lt (a : Int) l.lv
  have hs : sizI l.lv ≤ 1073741824 := (siz_lt h0 h2).2
  have h1 := Blk.new w 75 (lfC l)
  have HE := Lib.hid ((Ext.refl w).alloc (.cells (lfC l) 75))
  have hof := fun w hT => offset5_c (a : Int) l.lv (by omega) (by omega) h0 h2 w hT
  unfold physI
  generalize offI (a : Int) l.lv = q at *
  have hw1 : IntKind.u64.wrap ((l.pt.pp : Int) * 4096) = (l.pt.pp : Int) * 4096 := IntWalk.u64_in _ (by omega)
  have hw2 : IntKind.u64.wrap ((l.pt.pp : Int) * 4096 + q) = (l.pt.pp : Int) * 4096 + q := IntWalk.u64_in _ (by omega)
  go_enter Tryz.func130, Tryz.ntmps130
  go_wp2_with fail
  replace h1 := Blk.drew h1; replace HE := Lib.hid HE.out.drew
  refine wp_region_seq [(0, false), (1, false), (2, false), (3, false), (4, false), (5, false), (6, false), (7, true), (8, false), (9, false)] Ext (by kernel_rfl) (by kernel_rfl) Ext.refl (fun _ _ _ => Ext.trans) ?_; simp only [List.map, nth_z, nth_s]
  (repeat ((refine seq_read (by rfl) (by rfl) ?_; intro K hK; go_big_quiet_op; (refine ⟨_, fun _ _ => rfl, ?_⟩; go_big_quiet_on))))
  refine seq_value (.int .u64 (l.pt.pp : Int)) (by rfl) (fun x hx => by have hq := ext_cell hx ((h1.cell 11).trans (ptP_9 l)); simp [go_sem, execOp, Act.eval, hq]) ?_; intro K hK; simp only [Act.put, List.setIfInBounds_toArray, List.set_cons_zero, List.set_cons_succ]; refine hK _ ?_; clear hK K
  (repeat ((refine seq_read (by rfl) (by rfl) ?_; intro K hK; go_big_quiet_op; first | go_big_quiet_on | (refine ⟨_, fun _ _ => rfl, ?_⟩; go_big_quiet_on))))
  refine seq_value (.int .i64 l.lv) (by rfl) (fun x hx => by have hq := ext_cell hx ((h1.cell 0).trans (lfC_lv l)); simp [go_sem, execOp, Act.eval, hq]) ?_; intro K hK; simp only [Act.put, List.setIfInBounds_toArray, List.set_cons_zero, List.set_cons_succ]; refine hK _ ?_; clear hK K
  refine seq_call (calls_ext (hof _ (hT.ext HE.out).1)) rfl Tryz.func145 (by kernel_rfl) (by kernel_rfl) (by rfl) (by rfl) ?_; intro K hK; rintro e w' ⟨rfl, hE⟩; refine ⟨_, rfl, hE, ?_⟩; simp only [Act.put, List.setIfInBounds_toArray, List.set_cons_zero, List.set_cons_succ]; refine hK _ _ ?_; clear hK K; replace h1 := h1.ext hE; (replace HE := Lib.hid (HE.out.trans hE))
  clear hE
  (repeat ((refine seq_read (by rfl) (by rfl) ?_; intro K hK; go_big_quiet_op; first | go_big_quiet_on | (refine ⟨_, fun _ _ => rfl, ?_⟩; go_big_quiet_on))))
  refine seq_done ?_
  go_wp2
  go_ret
  (exact ⟨rfl, HE.out⟩)
end Go.Proofs.YtlhoedpencmikaaGreatDoor
