/- Package walk: what each function answers. -/
import Derived.Test.YtlhoedpencmikaaGreatDoorMem
import Derived.Test.YtlhoedpencmikaaGreatDoorGten
import Derived.Test.YtlhoedpencmikaaGreatDoorGpte
import Derived.Test.YtlhoedpencmikaaGreatDoorGnine
import Derived.Test.YtlhoedpencmikaaGreatDoorGeight
namespace Go.Proofs.YtlhoedpencmikaaGreatDoor
open Go.ChangeShapes Go.WideShapes Go.ChangeAt Go.RowKit
set_option linter.unusedVariables false
set_option linter.unusedSimpArgs false
set_option maxRecDepth 10000

/-- the tables of the packages va and cause lie in their variables -/
def Lay (w : World) : Prop := Siz w ∧ Tabs w
theorem Lay.ext {w w' : World} (h : Lay w) (hE : Ext w w') : Lay w' := ⟨h.1.ext hE, h.2.ext hE⟩

theorem place_c (t a l : Nat) (ht : t < 17592186044416) (a1 : a < 18446744073709551616) (l2 : l ≤ 2) (w : World) :
    Calls Tryz.prog 86 #[.int .u64 (t : Int), .int .u64 (a : Int), .int .i64 (l : Int)] w fun e w' => e = .returned (.int .u64 ((placeN t a l : Nat) : Int)) ∧ w = w' := by
  have hi := idx_lt (a : Int) (l : Int)
  have he : ((placeN t a l : Nat) : Int) = (t : Int) * 4096 + idxI (a : Int) (l : Int) * 8 := by
    have := idx_cast a (l : Int)
    unfold placeN; omega
  rw [he]
  have hx := fun w => index5_c (a : Int) (l : Int) (by omega) (by omega) (by omega) (by omega) w
  generalize idxI (a : Int) (l : Int) = i at hi hx ⊢
  clear he
  go_enter Tryz.func86, Tryz.ntmps86
  go_wp2_with (go_at_call 132; refine (hx _).mono ?_; rintro e w' ⟨rfl, rfl⟩)
  go_ret
  exact ⟨rfl, rfl⟩

theorem used_c (p : Pt) (d : Bool) (w : World) :
    Calls Tryz.prog 50 #[.agg (ptC p), .bool d] w fun e w' => e = .returned (.agg (ptC (usedP p d))) ∧ Ext w w' := by
  have hu : ptC (usedP p d) = #[.bool p.v, .bool p.r, .bool p.w, .bool p.x, .bool p.u, .bool p.g, .bool true, .bool (p.d || d), .int .u64 (p.rs : Int), .int .u64 (p.pp : Int), .int .u64 (p.hi : Int)] := by unfold usedP; rw [ptC_def]
  rw [hu, ptC_eq]
  clear hu
  cases hd : p.d
  · go_enter Tryz.func50, Tryz.ntmps50
    go_wp2
    refine bodyPost_ret (results_cell_row rfl _ _ _ _ _ _ _ rfl ((blk_at (by simp))) Tryz.underlying73 rfl (by kernel_rfl)) rfl ?_
    exact ⟨rfl, ((Ext.refl w).alloc _).alloc _⟩
  · go_enter Tryz.func50, Tryz.ntmps50
    go_wp2
    refine bodyPost_ret (results_cell_row rfl _ _ _ _ _ _ _ rfl ((blk_at (by simp))) Tryz.underlying73 rfl (by kernel_rfl)) rfl ?_
    exact ⟨rfl, ((Ext.refl w).alloc _).alloc _⟩

theorem ptC_5 (p : Pt) : (ptC p)[5]? = some (.bool p.g) := by rw [ptC_eq]; rfl
theorem lfC_zero : lfC zLf = #[.int .i64 0, .int .u64 0, .bool false, .bool false, .bool false, .bool false, .bool false, .bool false, .bool false, .bool false, .int .u64 0, .int .u64 0, .int .u64 0] := by
  unfold zLf zPt; rw [lfC_def, ptC_def]; kernel_rfl
theorem ptC_set5 (p : Pt) (b : Bool) : (ptC p).setIfInBounds 5 (.bool b) = ptC (globP p b) := by unfold globP; simp only [ptC_eq]; rfl
theorem ptC_9 (p : Pt) : (ptC p)[9]? = some (.int .u64 (p.pp : Int)) := by rw [ptC_eq]; rfl
def zFt : Ft := ⟨false, 0, 0⟩
theorem ftC_z : ftC zFt = #[.bool false, .int .i64 0, .int .u64 0] := by unfold zFt; rw [ftC_def]; rfl
theorem flt_zero (kd a : Nat) : fltF 0 kd a = zFt := by unfold fltF; rw [if_pos rfl]; rfl
theorem flt_page (kd a : Nat) : fltF 2 kd a = ⟨true, cauI (6 + kd), a⟩ := by unfold fltF; rw [if_neg (by decide)]
theorem flt_access (kd a : Nat) : fltF 1 kd a = ⟨true, cauI (3 + kd), a⟩ := by unfold fltF; rw [if_neg (by decide)]
theorem look_not {S : Nat} {L : List (Nat × Nat)} {r a : Nat} (h : vaB (a : Int) = false) : lookN S L r a = ⟨2, zLf⟩ := by unfold lookN; rw [h]; rfl
theorem look_yes {S : Nat} {L : List (Nat × Nat)} {r a : Nat} (h : vaB (a : Int) = true) : lookN S L r a = downN S L a 2 r false := by unfold lookN; rw [h]; rfl

set_option maxHeartbeats 4000000 in
theorem look_c {w : World} {S : Nat} {A : Option Addr} {L : List (Nat × Nat)} {c : Nat} (hM : Mem w S A L c) {r a : Nat} (hr : r < 17592186044416) (a1 : a < 18446744073709551616) (kd : Nat) (hk : kd < 3) (hT : Lay w) :
    Calls Tryz.prog 49 #[.agg #[.int .u64 (S : Int), .slice A L.length c], .int .u64 (r : Int), .int .u64 (a : Int), .int .i64 (kd : Int)] w fun e w' =>
      e = .returned (.tuple #[.agg (lfC (lookN S L r a).lf), .agg (ftC (fltF (lookN S L r a).so kd a))]) ∧ Ext w w' := by
  obtain ⟨W0, hW⟩ : ∃ W0, W0 = ((w.alloc (.cells #[.int .u64 (S : Int), .slice A L.length c] 32)).alloc (.cells #[.int .i64 0, .int .u64 0, .bool false, .bool false, .bool false, .bool false, .bool false, .bool false, .bool false, .bool false, .int .u64 0, .int .u64 0, .int .u64 0] 75)).alloc (.cells #[.bool false, .int .i64 0, .int .u64 0] 54) := ⟨_, rfl⟩
  have HE : Hid (Ext w W0) := Lib.hid (by rw [hW]; exact (((Ext.refl w).alloc _).alloc _).alloc _)
  have hb : Blk W0 w.heap.size 32 #[.int .u64 (S : Int), .slice A L.length c] := by rw [hW]; exact ((Blk.new w _ _).alloc _).alloc _
  have hc : Blk W0 (w.heap.size + 1) 75 #[.int .i64 0, .int .u64 0, .bool false, .bool false, .bool false, .bool false, .bool false, .bool false, .bool false, .bool false, .int .u64 0, .int .u64 0, .int .u64 0] := by rw [hW]; exact (blk_at (by simp)).alloc _
  have hd : Blk W0 (w.heap.size + 1 + 1) 54 #[.bool false, .int .i64 0, .int .u64 0] := by rw [hW]; exact blk_at (by simp)
  replace hM := hM.ext HE.out
  have HT := Lib.hid (hT.ext HE.out)
  have hsz : w.heap.size + 3 ≤ W0.heap.size := by rw [hW]; simp
  have HW := Lib.hid hW
  clear hT hW
  have his := is5_c (a : Int) (by omega) (by omega)
  cases hv : vaB (a : Int)
  · have H := Lib.hid (look_not (S := S) (L := L) (r := r) hv)
    have hpg := page9_c kd hk a
    rw [hv] at his
    clear hv
    go_enter Tryz.func49, Tryz.ntmps49
    go_wp2_with fail
    go_step3
    go_wp2_with fail
    refine (his _).mono ?_
    rintro e w' ⟨rfl, rfl⟩
    rw [← HW.out]
    clear HW his
    go_wp2_with fail; refine (hpg _ HT.out.2).mono ?_; rintro e w' ⟨rfl, hE⟩; replace hb := hb.ext hE; replace hc := hc.ext hE; replace hd := hd.ext hE; replace hM := hM.ext hE; replace HT := Lib.hid (HT.out.ext hE); replace HE := Lib.hid (HE.out.trans hE)
    go_wp2_with (first | (refine wpList_store_row rfl 75 _ _ rfl _ _ rfl rfl _ _ hc (by kernel_rfl) (by rfl) (by simp [Value.oneCell']) ?_) | (refine wpList_store_row rfl 54 _ _ rfl _ (ftC _) rfl rfl _ _ (hd.apart (by omega) _) (ft_info _) (by simp [ftC_size]) (ftC_one _) ?_))
    (rw [Exit.noGoto_ret]); refine bodyPost_ret (results_cc rfl _ _ rfl rfl (((hc.row _).apart (by omega) _)) (((hd.apart (by omega) _).row _)) Tryz.underlying75 rfl (by (kernel_rfl)) Tryz.underlying54 rfl (by (exact ft_info _))) rfl ?_
    exact ⟨by rw [H.out, lfC_zero, flt_page], (HE.out.row (by omega) _).row (by omega) _⟩
  · have H := Lib.hid (look_yes (S := S) (L := L) (r := r) hv)
    rw [hv] at his
    clear hv
    go_enter Tryz.func49, Tryz.ntmps49
    go_wp2_with fail
    go_step3
    go_wp2_with fail
    refine (his _).mono ?_
    rintro e w' ⟨rfl, rfl⟩
    rw [← HW.out]
    clear HW his
    go_wp2
    go_step3
    go_wp2
    go_loopw [12, 13, 14] (fun tb gl lv wr => ∃ (n t : Nat) (g : Bool), n ≤ 2 ∧ tb = .int .u64 t ∧ gl = .bool g ∧ lv = .int .i64 n ∧ t < 17592186044416 ∧ Hid (downN S L a 2 r false = downN S L a n t g) ∧ Ext W0 wr ∧
      Blk wr W0.heap.size 75 (lfC zLf) ∧ Blk wr (W0.heap.size + 1) 54 (ftC zFt)) (fun _ _ lv _ => (intOf lv + 1).toNat)
    case atStart => exact ⟨2, r, false, by omega, rfl, rfl, rfl, hr, Lib.hid rfl, ((Ext.refl _).alloc _).alloc _, by rw [lfC_zero]; exact (Blk.new _ _ _).alloc _, by rw [ftC_z]; exact blk_at (by simp)⟩
    case round =>
      obtain ⟨n, t, g, hn, rfl, rfl, rfl, ht, I, hE, h5, h6⟩ := hrel
      have hw0 : W0.heap.size + 2 ≤ wr.heap.size := by have := h6.lt; omega
      have HF := Lib.hid hE
      replace hb := hb.ext hE; replace hc := hc.ext hE; replace hd := hd.ext hE; replace hM := hM.ext hE; replace HT := Lib.hid (HT.out.ext hE); (replace HE := Lib.hid (HE.out.trans hE))
      clear hE
      have hp8 := place_8 t a (n : Int)
      have hpl := place_lt (a := a) (n : Int) ht
      have hplc := fun w => place_c t a n ht a1 hn w
      have HW8 := Lib.hid (wordL_lt hM.rl (placeN t a (n : Int) / 8))
      have hge : decide ((0 : Int) ≤ (n : Int)) = true := by simp
      have hent := fun w => get_pte (wordL L (placeN t a (n : Int) / 8)) HW8.out w
      rcases down_cases S L a n t g with ⟨hs1, e1⟩ | ⟨hs1, hs2, e1⟩ | ⟨hs1, hs2, hs3, e1⟩ | ⟨hs1, hs2, hs3, k, hk1, e1⟩
      · -- beyond the memory
        have H2 := Lib.hid (H.out.trans (I.out.trans e1))
        have hld := fun w (hM : Mem w S A L c) => load8_out hM (by omega) hp8 hs1
        have hget := get_pte 0 (by decide)
        have hacc := access9_c kd hk a
        clear e1 hs1 hpl hp8 H I
        generalize placeN t a (n : Int) = pl at hplc hld
        go_wp2_with fail
        refine (hplc _).mono ?_
        rintro e w' ⟨rfl, rfl⟩
        clear hplc
        go_wp2_with ((refine wpList_load_blk (by rfl) 32 _ rfl rfl (by with_reducible assumption) Tryz.underlying32 rfl (by kernel_rfl) ?_)); refine (hld _ hM).mono ?_; rintro e w' ⟨rfl, hE⟩; replace hb := hb.ext hE; replace hc := hc.ext hE; replace hd := hd.ext hE; replace h5 := h5.ext hE; replace h6 := h6.ext hE; replace hM := hM.ext hE; replace HT := Lib.hid (HT.out.ext hE); replace HE := Lib.hid (HE.out.trans hE); (replace HF := Lib.hid (HF.out.trans hE))
        clear hE
        go_wp2_with fail; refine (hget _).mono ?_; rintro e w' ⟨rfl, hE⟩; replace hb := hb.ext hE; replace hc := hc.ext hE; replace hd := hd.ext hE; replace h5 := h5.ext hE; replace h6 := h6.ext hE; replace hM := hM.ext hE; replace HT := Lib.hid (HT.out.ext hE); replace HE := Lib.hid (HE.out.trans hE); (replace HF := Lib.hid (HF.out.trans hE))
        clear hE
        generalize getP 0 = p
        have hp5 := ptC_5 p
        have hp := Blk.new w' 73 (ptC p); have hE := (Ext.refl w').alloc (.cells (ptC p) 73); replace hb := hb.ext hE; replace hc := hc.ext hE; replace hd := hd.ext hE; replace h5 := h5.ext hE; replace h6 := h6.ext hE; replace hM := hM.ext hE; replace HT := Lib.hid (HT.out.ext hE); replace HE := Lib.hid (HE.out.trans hE); replace HF := Lib.hid (HF.out.trans hE); clear hE
        go_wp2_with ((refine wpList_store_new rfl 73 _ _ rfl (ptC _) _ _ rfl rfl (pt_info _) (by simp [ptC_size]) (ptC_one _) ?_))
        all_goals
          refine (hacc _ HT.out.2).mono ?_
          rintro e w' ⟨rfl, hE⟩
          replace hb := hb.ext hE; replace hc := hc.ext hE; replace hd := hd.ext hE; replace h5 := h5.ext hE; replace h6 := h6.ext hE; replace hM := hM.ext hE; replace HT := Lib.hid (HT.out.ext hE); replace HE := Lib.hid (HE.out.trans hE); (replace HF := Lib.hid (HF.out.trans hE))
          clear hE
          go_wp2_with (refine wpList_store_row rfl 54 _ _ rfl _ (ftC _) rfl rfl _ _ h6 (ft_info _) (by simp [ftC_size]) (ftC_one _) ?_)
          have k5 := h5.apart (show W0.heap.size ≠ W0.heap.size + 1 by omega) (ftC ⟨true, cauI (3 + kd), a⟩)
          have k6 := h6.row (ftC ⟨true, cauI (3 + kd), a⟩)
          have kc := hc.apart (show w.heap.size + 1 ≠ W0.heap.size + 1 by omega) (ftC ⟨true, cauI (3 + kd), a⟩)
          have ke := hd.apart (show w.heap.size + 1 + 1 ≠ W0.heap.size + 1 by omega) (ftC ⟨true, cauI (3 + kd), a⟩)
          have KE := Lib.hid (HE.out.row (show w.heap.size ≤ W0.heap.size + 1 by omega) (ftC ⟨true, cauI (3 + kd), a⟩))
          generalize w'.setRow (W0.heap.size + 1) (ftC ⟨true, cauI (3 + kd), a⟩) = X at k5 k6 kc ke KE ⊢
          refine wp_region_seq [(0, false), (1, false), (2, true), (3, true)] (Gap (w.heap.size + 1) (w.heap.size + 3)) (by kernel_rfl) (by kernel_rfl) (Gap.refl _ _) (fun _ _ _ => Gap.trans) ?_; simp only [List.map, nth_z, nth_s]
          refine seq_load rfl rfl (fun x hx => Gap.blk hx (k5.drew) (by omega)) rfl Tryz.underlying75 (lf_info _) (by rfl) ?_; intro K hK; simp only [Act.put, List.setIfInBounds_toArray, List.set_cons_zero, List.set_cons_succ]; refine hK _ ?_; clear hK K
          refine seq_load rfl rfl (fun x hx => Gap.blk hx (k6.drew) (by omega)) rfl Tryz.underlying54 (ft_info _) (by rfl) ?_; intro K hK; simp only [Act.put, List.setIfInBounds_toArray, List.set_cons_zero, List.set_cons_succ]; refine hK _ ?_; clear hK K
          refine seq_store_row rfl rfl rfl (kc.drew) (lf_info _) (by simp [lfC_size]) (lfC_one _) (by rfl) (Gap.row _ (by omega) (by omega) _) ?_; intro K hK; simp only [Act.put]; refine hK _ _ ?_; clear hK K
          refine seq_store_row rfl rfl rfl ((ke.drew.apart (by omega) _)) (ft_info _) (by simp [ftC_size]) (ftC_one _) (by rfl) (Gap.row _ (by omega) (by omega) _) ?_; intro K hK; simp only [Act.put]; refine hK _ _ ?_; clear hK K
          refine seq_done ?_
          go_wp2
          (rw [Exit.noGoto_ret]); refine bodyPost_ret (results_cc rfl _ _ rfl rfl (((kc.drew.row _).apart (by omega) _)) (((ke.drew.apart (by omega) _).row _)) Tryz.underlying75 rfl (by (exact lf_info _)) Tryz.underlying54 rfl (by (exact ft_info _))) rfl ?_
          exact ⟨by rw [H2.out, flt_access], (KE.out.drew.row (by omega) _).row (by omega) _⟩
      · -- bad
        have H2 := Lib.hid (H.out.trans (I.out.trans e1))
        have hpg := page9_c kd hk a
        have hld := fun w (hM : Mem w S A L c) => load8_in hM hp8 hs1
        have hget : ∀ w, Calls Tryz.prog 53 #[.int .u64 ((wordL L (placeN t a (n : Int) / 8) : Nat) : Int)] w fun e w' => e = .returned (.agg (ptC (entN L (placeN t a (n : Int))))) ∧ Ext w w' := by unfold entN; exact hent
        have hpo := ent_hi hM.rl (placeN t a (n : Int))
        have hbad := fun w => bad_c (entN L (placeN t a (n : Int))) hpo (n : Int) (by omega) (by omega) w
        have hleaf := fun w => leaf_c (entN L (placeN t a (n : Int))) w
        have hpp := ent_pp L (placeN t a (n : Int))
        have hp5 := ptC_5 (entN L (placeN t a (n : Int)))
        have hp9 := ptC_9 (entN L (placeN t a (n : Int)))
        rw [hs2] at hbad
        clear H I
        clear e1 hs1 hp8 hs2 hent hpo HW8
        generalize entN L (placeN t a (n : Int)) = p at *
        generalize wordL L (placeN t a (n : Int) / 8) = v at hld hget
        generalize placeN t a (n : Int) = pl at *
        go_wp2_with fail
        refine (hplc _).mono ?_
        rintro e w' ⟨rfl, rfl⟩
        clear hplc
        go_wp2_with ((refine wpList_load_blk (by rfl) 32 _ rfl rfl (by with_reducible assumption) Tryz.underlying32 rfl (by kernel_rfl) ?_)); refine (hld _ hM).mono ?_; rintro e w' ⟨rfl, hE⟩; replace hb := hb.ext hE; replace hc := hc.ext hE; replace hd := hd.ext hE; replace h5 := h5.ext hE; replace h6 := h6.ext hE; replace hM := hM.ext hE; replace HT := Lib.hid (HT.out.ext hE); replace HE := Lib.hid (HE.out.trans hE); (replace HF := Lib.hid (HF.out.trans hE))
        clear hE
        go_wp2_with fail; refine (hget _).mono ?_; rintro e w' ⟨rfl, hE⟩; replace hb := hb.ext hE; replace hc := hc.ext hE; replace hd := hd.ext hE; replace h5 := h5.ext hE; replace h6 := h6.ext hE; replace hM := hM.ext hE; replace HT := Lib.hid (HT.out.ext hE); replace HE := Lib.hid (HE.out.trans hE); (replace HF := Lib.hid (HF.out.trans hE))
        clear hE
        have hpn : ¬ (W0.heap.size = w'.heap.size) := by have := h6.lt; omega
        have hpm : ¬ (W0.heap.size + 1 = w'.heap.size) := by have := h6.lt; omega
        have hpc : ¬ (w.heap.size + 1 = w'.heap.size) := by have := h6.lt; omega
        have hpd : ¬ (w.heap.size + 1 + 1 = w'.heap.size) := by have := h6.lt; omega
        have hpw : w.heap.size ≤ w'.heap.size := by have := h6.lt; omega
        have hp := Blk.new w' 73 (ptC p); have hE := (Ext.refl w').alloc (.cells (ptC p) 73); replace hb := hb.ext hE; replace hc := hc.ext hE; replace hd := hd.ext hE; replace h5 := h5.ext hE; replace h6 := h6.ext hE; replace hM := hM.ext hE; replace HT := Lib.hid (HT.out.ext hE); replace HE := Lib.hid (HE.out.trans hE); replace HF := Lib.hid (HF.out.trans hE); clear hE
        go_wp2_with (first | (refine wpList_store_new rfl 73 _ _ rfl (ptC _) _ _ rfl rfl (pt_info _) (by simp [ptC_size]) (ptC_one _) ?_) | (refine wpList_load_blk (by rfl) 73 _ rfl rfl (by with_reducible assumption) Tryz.underlying73 rfl (by kernel_rfl) ?_))
        all_goals
          refine (hbad _ HT.out.1).mono ?_
          rintro e w' ⟨rfl, hE⟩
          replace hp := hp.ext hE
          replace hb := hb.ext hE; replace hc := hc.ext hE; replace hd := hd.ext hE; replace h5 := h5.ext hE; replace h6 := h6.ext hE; replace hM := hM.ext hE; replace HT := Lib.hid (HT.out.ext hE); replace HE := Lib.hid (HE.out.trans hE); (replace HF := Lib.hid (HF.out.trans hE))
          clear hE
          go_wp2_with (refine wpList_load_blk (by rfl) 73 _ rfl rfl (by with_reducible assumption) Tryz.underlying73 rfl (by kernel_rfl) ?_)
          refine (hpg _ HT.out.2).mono ?_
          rintro e w' ⟨rfl, hE⟩
          replace hb := hb.ext hE; replace hc := hc.ext hE; replace hd := hd.ext hE; replace h5 := h5.ext hE; replace h6 := h6.ext hE; replace hM := hM.ext hE; replace HT := Lib.hid (HT.out.ext hE); replace HE := Lib.hid (HE.out.trans hE); (replace HF := Lib.hid (HF.out.trans hE))
          clear hE
          go_wp2_with (refine wpList_store_row rfl 54 _ _ rfl _ (ftC _) rfl rfl _ _ h6 (ft_info _) (by simp [ftC_size]) (ftC_one _) ?_)
          have k5 := h5.apart (show W0.heap.size ≠ W0.heap.size + 1 by omega) (ftC ⟨true, cauI (6 + kd), a⟩)
          have k6 := h6.row (ftC ⟨true, cauI (6 + kd), a⟩)
          have kc := hc.apart (show w.heap.size + 1 ≠ W0.heap.size + 1 by omega) (ftC ⟨true, cauI (6 + kd), a⟩)
          have ke := hd.apart (show w.heap.size + 1 + 1 ≠ W0.heap.size + 1 by omega) (ftC ⟨true, cauI (6 + kd), a⟩)
          have KE := Lib.hid (HE.out.row (show w.heap.size ≤ W0.heap.size + 1 by omega) (ftC ⟨true, cauI (6 + kd), a⟩))
          generalize w'.setRow (W0.heap.size + 1) (ftC ⟨true, cauI (6 + kd), a⟩) = X at k5 k6 kc ke KE ⊢
          refine wp_region_seq [(0, false), (1, false), (2, true), (3, true)] (Gap (w.heap.size + 1) (w.heap.size + 3)) (by kernel_rfl) (by kernel_rfl) (Gap.refl _ _) (fun _ _ _ => Gap.trans) ?_; simp only [List.map, nth_z, nth_s]
          refine seq_load rfl rfl (fun x hx => Gap.blk hx (k5.drew) (by omega)) rfl Tryz.underlying75 (lf_info _) (by rfl) ?_; intro K hK; simp only [Act.put, List.setIfInBounds_toArray, List.set_cons_zero, List.set_cons_succ]; refine hK _ ?_; clear hK K
          refine seq_load rfl rfl (fun x hx => Gap.blk hx (k6.drew) (by omega)) rfl Tryz.underlying54 (ft_info _) (by rfl) ?_; intro K hK; simp only [Act.put, List.setIfInBounds_toArray, List.set_cons_zero, List.set_cons_succ]; refine hK _ ?_; clear hK K
          refine seq_store_row rfl rfl rfl (kc.drew) (lf_info _) (by simp [lfC_size]) (lfC_one _) (by rfl) (Gap.row _ (by omega) (by omega) _) ?_; intro K hK; simp only [Act.put]; refine hK _ _ ?_; clear hK K
          refine seq_store_row rfl rfl rfl ((ke.drew.apart (by omega) _)) (ft_info _) (by simp [ftC_size]) (ftC_one _) (by rfl) (Gap.row _ (by omega) (by omega) _) ?_; intro K hK; simp only [Act.put]; refine hK _ _ ?_; clear hK K
          refine seq_done ?_
          go_wp2
          (rw [Exit.noGoto_ret]); refine bodyPost_ret (results_cc rfl _ _ rfl rfl (((kc.drew.row _).apart (by omega) _)) (((ke.drew.apart (by omega) _).row _)) Tryz.underlying75 rfl (by (exact lf_info _)) Tryz.underlying54 rfl (by (exact ft_info _))) rfl ?_
          exact ⟨by rw [H2.out, flt_page], (KE.out.drew.row (by omega) _).row (by omega) _⟩
      · -- a leaf
        have H2 := Lib.hid (H.out.trans (I.out.trans e1))
        have hld := fun w (hM : Mem w S A L c) => load8_in hM hp8 hs1
        have hget : ∀ w, Calls Tryz.prog 53 #[.int .u64 ((wordL L (placeN t a (n : Int) / 8) : Nat) : Int)] w fun e w' => e = .returned (.agg (ptC (entN L (placeN t a (n : Int))))) ∧ Ext w w' := by unfold entN; exact hent
        have hpo := ent_hi hM.rl (placeN t a (n : Int))
        have hbad := fun w => bad_c (entN L (placeN t a (n : Int))) hpo (n : Int) (by omega) (by omega) w
        have hleaf := fun w => leaf_c (entN L (placeN t a (n : Int))) w
        have hpp := ent_pp L (placeN t a (n : Int))
        have hp5 := ptC_5 (entN L (placeN t a (n : Int)))
        have hp9 := ptC_9 (entN L (placeN t a (n : Int)))
        rw [hs2] at hbad
        rw [hs3] at hleaf
        clear H I hs3
        have hbe : ∀ b : Bool, b = (g || (entN L (placeN t a (n : Int))).g) → Hid (lookN S L r a = ⟨0, ⟨(n : Int), placeN t a (n : Int), globP (entN L (placeN t a (n : Int))) b⟩⟩) := fun b hb => Lib.hid (by rw [hb]; exact H2.out)
        clear H2
        cases g
        · have H2 := hbe _ rfl
          clear hbe
          simp only [Bool.false_or] at H2
          clear e1 hs1 hp8 hs2 hent hpo HW8
          generalize entN L (placeN t a (n : Int)) = p at *
          generalize wordL L (placeN t a (n : Int) / 8) = v at hld hget
          generalize placeN t a (n : Int) = pl at *
          go_wp2_with fail
          refine (hplc _).mono ?_
          rintro e w' ⟨rfl, rfl⟩
          clear hplc
          go_wp2_with ((refine wpList_load_blk (by rfl) 32 _ rfl rfl (by with_reducible assumption) Tryz.underlying32 rfl (by kernel_rfl) ?_)); refine (hld _ hM).mono ?_; rintro e w' ⟨rfl, hE⟩; replace hb := hb.ext hE; replace hc := hc.ext hE; replace hd := hd.ext hE; replace h5 := h5.ext hE; replace h6 := h6.ext hE; replace hM := hM.ext hE; replace HT := Lib.hid (HT.out.ext hE); replace HE := Lib.hid (HE.out.trans hE); (replace HF := Lib.hid (HF.out.trans hE))
          clear hE
          go_wp2_with fail; refine (hget _).mono ?_; rintro e w' ⟨rfl, hE⟩; replace hb := hb.ext hE; replace hc := hc.ext hE; replace hd := hd.ext hE; replace h5 := h5.ext hE; replace h6 := h6.ext hE; replace hM := hM.ext hE; replace HT := Lib.hid (HT.out.ext hE); replace HE := Lib.hid (HE.out.trans hE); (replace HF := Lib.hid (HF.out.trans hE))
          clear hE
          have hpn : ¬ (W0.heap.size = w'.heap.size) := by have := h6.lt; omega
          have hpm : ¬ (W0.heap.size + 1 = w'.heap.size) := by have := h6.lt; omega
          have hpc : ¬ (w.heap.size + 1 = w'.heap.size) := by have := h6.lt; omega
          have hpd : ¬ (w.heap.size + 1 + 1 = w'.heap.size) := by have := h6.lt; omega
          have hpw : w.heap.size ≤ w'.heap.size := by have := h6.lt; omega
          have hp := Blk.new w' 73 (ptC p); have hE := (Ext.refl w').alloc (.cells (ptC p) 73); replace hb := hb.ext hE; replace hc := hc.ext hE; replace hd := hd.ext hE; replace h5 := h5.ext hE; replace h6 := h6.ext hE; replace hM := hM.ext hE; replace HT := Lib.hid (HT.out.ext hE); replace HE := Lib.hid (HE.out.trans hE); replace HF := Lib.hid (HF.out.trans hE); clear hE
          go_wp2_with (first | (refine wpList_store_new rfl 73 _ _ rfl (ptC _) _ _ rfl rfl (pt_info _) (by simp [ptC_size]) (ptC_one _) ?_) | (refine wpList_load_blk (by rfl) 73 _ rfl rfl (by with_reducible assumption) Tryz.underlying73 rfl (by kernel_rfl) ?_))
          refine (hbad _ HT.out.1).mono ?_
          rintro e w' ⟨rfl, hE⟩
          replace hp := hp.ext hE
          replace hb := hb.ext hE; replace hc := hc.ext hE; replace hd := hd.ext hE; replace h5 := h5.ext hE; replace h6 := h6.ext hE; replace hM := hM.ext hE; replace HT := Lib.hid (HT.out.ext hE); replace HE := Lib.hid (HE.out.trans hE); (replace HF := Lib.hid (HF.out.trans hE))
          clear hE
          go_wp2_with (refine wpList_load_blk (by rfl) 73 _ rfl rfl (by with_reducible assumption) Tryz.underlying73 rfl (by kernel_rfl) ?_)
          refine (hleaf _).mono ?_
          rintro e w' ⟨rfl, hE⟩
          replace hp := hp.ext hE
          replace hb := hb.ext hE; replace hc := hc.ext hE; replace hd := hd.ext hE; replace h5 := h5.ext hE; replace h6 := h6.ext hE; replace hM := hM.ext hE; replace HT := Lib.hid (HT.out.ext hE); replace HE := Lib.hid (HE.out.trans hE); (replace HF := Lib.hid (HF.out.trans hE))
          clear hE
          have q1 := hp.row (ptC (globP p p.g))
          have r1 := h5.apart (show W0.heap.size ≠ _ by exact hpn) (ptC (globP p p.g))
          go_wp2_with (first | (refine wpList_store_cell rfl 4 _ _ rfl rfl rfl hp (by simp [ptC_size]) (ptC_set5 p _) (by kernel_rfl) rfl rfl ?_) | (refine wpList_load_blk (by rfl) 73 _ rfl rfl (by with_reducible assumption) Tryz.underlying73 rfl (by kernel_rfl) ?_) | (refine wpList_build_as (by rfl) rfl (lf_build ⟨(n : Int), pl, _⟩) ?_) | (refine wpList_store_row rfl 75 _ _ rfl _ (lfC _) rfl rfl _ _ (by assumption) (lf_info _) (by simp [lfC_size]) (lfC_one _) ?_))
          have k5 := r1.row (lfC ⟨(n : Int), pl, globP p p.g⟩)
          have k6 := (h6.apart (show W0.heap.size + 1 ≠ _ by exact hpm) (ptC (globP p p.g))).apart (show W0.heap.size + 1 ≠ W0.heap.size by omega) (lfC ⟨(n : Int), pl, globP p p.g⟩)
          have kc := (hc.apart (show w.heap.size + 1 ≠ _ by exact hpc) (ptC (globP p p.g))).apart (show w.heap.size + 1 ≠ W0.heap.size by omega) (lfC ⟨(n : Int), pl, globP p p.g⟩)
          have ke := (hd.apart (show w.heap.size + 1 + 1 ≠ _ by exact hpd) (ptC (globP p p.g))).apart (show w.heap.size + 1 + 1 ≠ W0.heap.size by omega) (lfC ⟨(n : Int), pl, globP p p.g⟩)
          have KE := Lib.hid ((HE.out.row (show w.heap.size ≤ _ by exact hpw) (ptC (globP p p.g))).row (show w.heap.size ≤ W0.heap.size by omega) (lfC ⟨(n : Int), pl, globP p p.g⟩))
          generalize (w'.setRow _ (ptC (globP p p.g))).setRow W0.heap.size (lfC ⟨(n : Int), pl, globP p p.g⟩) = X at k5 k6 kc ke KE ⊢
          refine wp_region_seq [(0, false), (1, false), (2, true), (3, true)] (Gap (w.heap.size + 1) (w.heap.size + 3)) (by kernel_rfl) (by kernel_rfl) (Gap.refl _ _) (fun _ _ _ => Gap.trans) ?_; simp only [List.map, nth_z, nth_s]
          refine seq_load rfl rfl (fun x hx => Gap.blk hx (k5.drew) (by omega)) rfl Tryz.underlying75 (lf_info _) (by rfl) ?_; intro K hK; simp only [Act.put, List.setIfInBounds_toArray, List.set_cons_zero, List.set_cons_succ]; refine hK _ ?_; clear hK K
          refine seq_load rfl rfl (fun x hx => Gap.blk hx (k6.drew) (by omega)) rfl Tryz.underlying54 (ft_info _) (by rfl) ?_; intro K hK; simp only [Act.put, List.setIfInBounds_toArray, List.set_cons_zero, List.set_cons_succ]; refine hK _ ?_; clear hK K
          refine seq_store_row rfl rfl rfl (kc.drew) (lf_info _) (by simp [lfC_size]) (lfC_one _) (by rfl) (Gap.row _ (by omega) (by omega) _) ?_; intro K hK; simp only [Act.put]; refine hK _ _ ?_; clear hK K
          refine seq_store_row rfl rfl rfl ((ke.drew.apart (by omega) _)) (ft_info _) (by simp [ftC_size]) (ftC_one _) (by rfl) (Gap.row _ (by omega) (by omega) _) ?_; intro K hK; simp only [Act.put]; refine hK _ _ ?_; clear hK K
          refine seq_done ?_
          go_wp2
          (rw [Exit.noGoto_ret]); refine bodyPost_ret (results_cc rfl _ _ rfl rfl (((kc.drew.row _).apart (by omega) _)) (((ke.drew.apart (by omega) _).row _)) Tryz.underlying75 rfl (by (exact lf_info _)) Tryz.underlying54 rfl (by (exact ft_info _))) rfl ?_
          exact ⟨by rw [H2.out, flt_zero], (KE.out.drew.row (by omega) _).row (by omega) _⟩
        · have H2 := hbe _ rfl
          clear hbe
          simp only [Bool.true_or] at H2
          clear e1 hs1 hp8 hs2 hent hpo HW8
          generalize entN L (placeN t a (n : Int)) = p at *
          generalize wordL L (placeN t a (n : Int) / 8) = v at hld hget
          generalize placeN t a (n : Int) = pl at *
          go_wp2_with fail
          refine (hplc _).mono ?_
          rintro e w' ⟨rfl, rfl⟩
          clear hplc
          go_wp2_with ((refine wpList_load_blk (by rfl) 32 _ rfl rfl (by with_reducible assumption) Tryz.underlying32 rfl (by kernel_rfl) ?_)); refine (hld _ hM).mono ?_; rintro e w' ⟨rfl, hE⟩; replace hb := hb.ext hE; replace hc := hc.ext hE; replace hd := hd.ext hE; replace h5 := h5.ext hE; replace h6 := h6.ext hE; replace hM := hM.ext hE; replace HT := Lib.hid (HT.out.ext hE); replace HE := Lib.hid (HE.out.trans hE); (replace HF := Lib.hid (HF.out.trans hE))
          clear hE
          go_wp2_with fail; refine (hget _).mono ?_; rintro e w' ⟨rfl, hE⟩; replace hb := hb.ext hE; replace hc := hc.ext hE; replace hd := hd.ext hE; replace h5 := h5.ext hE; replace h6 := h6.ext hE; replace hM := hM.ext hE; replace HT := Lib.hid (HT.out.ext hE); replace HE := Lib.hid (HE.out.trans hE); (replace HF := Lib.hid (HF.out.trans hE))
          clear hE
          have hpn : ¬ (W0.heap.size = w'.heap.size) := by have := h6.lt; omega
          have hpm : ¬ (W0.heap.size + 1 = w'.heap.size) := by have := h6.lt; omega
          have hpc : ¬ (w.heap.size + 1 = w'.heap.size) := by have := h6.lt; omega
          have hpd : ¬ (w.heap.size + 1 + 1 = w'.heap.size) := by have := h6.lt; omega
          have hpw : w.heap.size ≤ w'.heap.size := by have := h6.lt; omega
          have hp := Blk.new w' 73 (ptC p); have hE := (Ext.refl w').alloc (.cells (ptC p) 73); replace hb := hb.ext hE; replace hc := hc.ext hE; replace hd := hd.ext hE; replace h5 := h5.ext hE; replace h6 := h6.ext hE; replace hM := hM.ext hE; replace HT := Lib.hid (HT.out.ext hE); replace HE := Lib.hid (HE.out.trans hE); replace HF := Lib.hid (HF.out.trans hE); clear hE
          go_wp2_with (first | (refine wpList_store_new rfl 73 _ _ rfl (ptC _) _ _ rfl rfl (pt_info _) (by simp [ptC_size]) (ptC_one _) ?_) | (refine wpList_load_blk (by rfl) 73 _ rfl rfl (by with_reducible assumption) Tryz.underlying73 rfl (by kernel_rfl) ?_))
          refine (hbad _ HT.out.1).mono ?_
          rintro e w' ⟨rfl, hE⟩
          replace hp := hp.ext hE
          replace hb := hb.ext hE; replace hc := hc.ext hE; replace hd := hd.ext hE; replace h5 := h5.ext hE; replace h6 := h6.ext hE; replace hM := hM.ext hE; replace HT := Lib.hid (HT.out.ext hE); replace HE := Lib.hid (HE.out.trans hE); (replace HF := Lib.hid (HF.out.trans hE))
          clear hE
          go_wp2_with (refine wpList_load_blk (by rfl) 73 _ rfl rfl (by with_reducible assumption) Tryz.underlying73 rfl (by kernel_rfl) ?_)
          refine (hleaf _).mono ?_
          rintro e w' ⟨rfl, hE⟩
          replace hp := hp.ext hE
          replace hb := hb.ext hE; replace hc := hc.ext hE; replace hd := hd.ext hE; replace h5 := h5.ext hE; replace h6 := h6.ext hE; replace hM := hM.ext hE; replace HT := Lib.hid (HT.out.ext hE); replace HE := Lib.hid (HE.out.trans hE); (replace HF := Lib.hid (HF.out.trans hE))
          clear hE
          have q1 := hp.row (ptC (globP p true))
          have r1 := h5.apart (show W0.heap.size ≠ _ by exact hpn) (ptC (globP p true))
          go_wp2_with (first | (refine wpList_store_cell rfl 4 _ _ rfl rfl rfl hp (by simp [ptC_size]) (ptC_set5 p _) (by kernel_rfl) rfl rfl ?_) | (refine wpList_load_blk (by rfl) 73 _ rfl rfl (by with_reducible assumption) Tryz.underlying73 rfl (by kernel_rfl) ?_) | (refine wpList_build_as (by rfl) rfl (lf_build ⟨(n : Int), pl, _⟩) ?_) | (refine wpList_store_row rfl 75 _ _ rfl _ (lfC _) rfl rfl _ _ (by assumption) (lf_info _) (by simp [lfC_size]) (lfC_one _) ?_))
          have k5 := r1.row (lfC ⟨(n : Int), pl, globP p true⟩)
          have k6 := (h6.apart (show W0.heap.size + 1 ≠ _ by exact hpm) (ptC (globP p true))).apart (show W0.heap.size + 1 ≠ W0.heap.size by omega) (lfC ⟨(n : Int), pl, globP p true⟩)
          have kc := (hc.apart (show w.heap.size + 1 ≠ _ by exact hpc) (ptC (globP p true))).apart (show w.heap.size + 1 ≠ W0.heap.size by omega) (lfC ⟨(n : Int), pl, globP p true⟩)
          have ke := (hd.apart (show w.heap.size + 1 + 1 ≠ _ by exact hpd) (ptC (globP p true))).apart (show w.heap.size + 1 + 1 ≠ W0.heap.size by omega) (lfC ⟨(n : Int), pl, globP p true⟩)
          have KE := Lib.hid ((HE.out.row (show w.heap.size ≤ _ by exact hpw) (ptC (globP p true))).row (show w.heap.size ≤ W0.heap.size by omega) (lfC ⟨(n : Int), pl, globP p true⟩))
          generalize (w'.setRow _ (ptC (globP p true))).setRow W0.heap.size (lfC ⟨(n : Int), pl, globP p true⟩) = X at k5 k6 kc ke KE ⊢
          refine wp_region_seq [(0, false), (1, false), (2, true), (3, true)] (Gap (w.heap.size + 1) (w.heap.size + 3)) (by kernel_rfl) (by kernel_rfl) (Gap.refl _ _) (fun _ _ _ => Gap.trans) ?_; simp only [List.map, nth_z, nth_s]
          refine seq_load rfl rfl (fun x hx => Gap.blk hx (k5.drew) (by omega)) rfl Tryz.underlying75 (lf_info _) (by rfl) ?_; intro K hK; simp only [Act.put, List.setIfInBounds_toArray, List.set_cons_zero, List.set_cons_succ]; refine hK _ ?_; clear hK K
          refine seq_load rfl rfl (fun x hx => Gap.blk hx (k6.drew) (by omega)) rfl Tryz.underlying54 (ft_info _) (by rfl) ?_; intro K hK; simp only [Act.put, List.setIfInBounds_toArray, List.set_cons_zero, List.set_cons_succ]; refine hK _ ?_; clear hK K
          refine seq_store_row rfl rfl rfl (kc.drew) (lf_info _) (by simp [lfC_size]) (lfC_one _) (by rfl) (Gap.row _ (by omega) (by omega) _) ?_; intro K hK; simp only [Act.put]; refine hK _ _ ?_; clear hK K
          refine seq_store_row rfl rfl rfl ((ke.drew.apart (by omega) _)) (ft_info _) (by simp [ftC_size]) (ftC_one _) (by rfl) (Gap.row _ (by omega) (by omega) _) ?_; intro K hK; simp only [Act.put]; refine hK _ _ ?_; clear hK K
          refine seq_done ?_
          go_wp2
          (rw [Exit.noGoto_ret]); refine bodyPost_ret (results_cc rfl _ _ rfl rfl (((kc.drew.row _).apart (by omega) _)) (((ke.drew.apart (by omega) _).row _)) Tryz.underlying75 rfl (by (exact lf_info _)) Tryz.underlying54 rfl (by (exact ft_info _))) rfl ?_
          exact ⟨by rw [H2.out, flt_zero], (KE.out.drew.row (by omega) _).row (by omega) _⟩
      · -- a link
        have H2 := Lib.hid (I.out.trans e1)
        have HK := Lib.hid hk1
        clear hk1
        have hld := fun w (hM : Mem w S A L c) => load8_in hM hp8 hs1
        have hget : ∀ w, Calls Tryz.prog 53 #[.int .u64 ((wordL L (placeN t a (n : Int) / 8) : Nat) : Int)] w fun e w' => e = .returned (.agg (ptC (entN L (placeN t a (n : Int))))) ∧ Ext w w' := by unfold entN; exact hent
        have hpo := ent_hi hM.rl (placeN t a (n : Int))
        have hbad := fun w => bad_c (entN L (placeN t a (n : Int))) hpo (n : Int) (by omega) (by omega) w
        have hleaf := fun w => leaf_c (entN L (placeN t a (n : Int))) w
        have hpp := ent_pp L (placeN t a (n : Int))
        have hp5 := ptC_5 (entN L (placeN t a (n : Int)))
        have hp9 := ptC_9 (entN L (placeN t a (n : Int)))
        rw [hs2] at hbad
        rw [hs3] at hleaf
        clear I hs3
        cases g
        all_goals
          simp only [Bool.true_or, Bool.false_or] at H2
          clear e1 hs1 hp8 hs2 hent hpo HW8
          generalize entN L (placeN t a (n : Int)) = p at *
          generalize wordL L (placeN t a (n : Int) / 8) = v at hld hget
          generalize placeN t a (n : Int) = pl at *
          go_wp2_with fail
          refine (hplc _).mono ?_
          rintro e w' ⟨rfl, rfl⟩
          clear hplc
          go_wp2_with ((refine wpList_load_blk (by rfl) 32 _ rfl rfl (by with_reducible assumption) Tryz.underlying32 rfl (by kernel_rfl) ?_)); refine (hld _ hM).mono ?_; rintro e w' ⟨rfl, hE⟩; replace hb := hb.ext hE; replace hc := hc.ext hE; replace hd := hd.ext hE; replace h5 := h5.ext hE; replace h6 := h6.ext hE; replace hM := hM.ext hE; replace HT := Lib.hid (HT.out.ext hE); replace HE := Lib.hid (HE.out.trans hE); (replace HF := Lib.hid (HF.out.trans hE))
          clear hE
          go_wp2_with fail; refine (hget _).mono ?_; rintro e w' ⟨rfl, hE⟩; replace hb := hb.ext hE; replace hc := hc.ext hE; replace hd := hd.ext hE; replace h5 := h5.ext hE; replace h6 := h6.ext hE; replace hM := hM.ext hE; replace HT := Lib.hid (HT.out.ext hE); replace HE := Lib.hid (HE.out.trans hE); (replace HF := Lib.hid (HF.out.trans hE))
          clear hE
          have hpn : ¬ (W0.heap.size = w'.heap.size) := by have := h6.lt; omega
          have hpm : ¬ (W0.heap.size + 1 = w'.heap.size) := by have := h6.lt; omega
          have hpc : ¬ (w.heap.size + 1 = w'.heap.size) := by have := h6.lt; omega
          have hpd : ¬ (w.heap.size + 1 + 1 = w'.heap.size) := by have := h6.lt; omega
          have hpw : w.heap.size ≤ w'.heap.size := by have := h6.lt; omega
          have hp := Blk.new w' 73 (ptC p); have hE := (Ext.refl w').alloc (.cells (ptC p) 73); replace hb := hb.ext hE; replace hc := hc.ext hE; replace hd := hd.ext hE; replace h5 := h5.ext hE; replace h6 := h6.ext hE; replace hM := hM.ext hE; replace HT := Lib.hid (HT.out.ext hE); replace HE := Lib.hid (HE.out.trans hE); replace HF := Lib.hid (HF.out.trans hE); clear hE
          go_wp2_with (first | (refine wpList_store_new rfl 73 _ _ rfl (ptC _) _ _ rfl rfl (pt_info _) (by simp [ptC_size]) (ptC_one _) ?_) | (refine wpList_load_blk (by rfl) 73 _ rfl rfl (by with_reducible assumption) Tryz.underlying73 rfl (by kernel_rfl) ?_))
          refine (hbad _ HT.out.1).mono ?_
          rintro e w' ⟨rfl, hE⟩
          replace hp := hp.ext hE
          replace hb := hb.ext hE; replace hc := hc.ext hE; replace hd := hd.ext hE; replace h5 := h5.ext hE; replace h6 := h6.ext hE; replace hM := hM.ext hE; replace HT := Lib.hid (HT.out.ext hE); replace HE := Lib.hid (HE.out.trans hE); (replace HF := Lib.hid (HF.out.trans hE))
          clear hE
          go_wp2_with (refine wpList_load_blk (by rfl) 73 _ rfl rfl (by with_reducible assumption) Tryz.underlying73 rfl (by kernel_rfl) ?_)
          refine (hleaf _).mono ?_
          rintro e w' ⟨rfl, hE⟩
          replace hp := hp.ext hE
          replace hb := hb.ext hE; replace hc := hc.ext hE; replace hd := hd.ext hE; replace h5 := h5.ext hE; replace h6 := h6.ext hE; replace hM := hM.ext hE; replace HT := Lib.hid (HT.out.ext hE); replace HE := Lib.hid (HE.out.trans hE); (replace HF := Lib.hid (HF.out.trans hE))
          clear hE
          have hq9 := (hp.cell 9).trans hp9
          go_wp2
          go_roundw
          case rel => exact ⟨k, p.pp, _, by have := HK.out; omega, rfl, rfl, by have := HK.out; subst this; go_num, hpp, Lib.hid H2.out, HF.out, h5, h6⟩
          case measure => simp [intOf]
end Go.Proofs.YtlhoedpencmikaaGreatDoor
/- Package walk: Mark, Walk, Physical. -/
namespace Go.Proofs.YtlhoedpencmikaaGreatDoor
open Go.ChangeShapes Go.WideShapes Go.ChangeAt Go.RowKit
set_option linter.unusedVariables false
set_option linter.unusedSimpArgs false
set_option maxRecDepth 10000

/-- what a mark leaves -/
def Marked (A0 : Option Addr) (S : Nat) (L : List (Nat × Nat)) (l : Lf) (d : Bool) (w : World) (e : Ending) (w' : World) : Prop :=
  ∃ A c, e = .returned (.tuple #[.agg #[.int .u64 (S : Int), .slice A (markL L l.at' d).length c], .agg (lfC { l with pt := usedP l.pt d })]) ∧ Mem w' S A (markL L l.at' d) c ∧ (∀ lo hi, hi ≤ w.heap.size → Out lo hi A0 L.length → Out lo hi A (markL L l.at' d).length) ∧ Ext w w'

set_option maxHeartbeats 4000000 in
theorem mark_c {w : World} {S : Nat} {A : Option Addr} {L : List (Nat × Nat)} {c : Nat} (hM : Mem w S A L c) (hf : L.length ≤ 999) (l : Lf) (hat : l.at' % 8 = 0) (hlt : l.at' < S) (d : Bool) :
    Calls Tryz.prog 27 #[.agg #[.int .u64 (S : Int), .slice A L.length c], .agg (lfC l), .bool d] w (Marked A S L l d w) := by
  obtain ⟨W0, hW⟩ : ∃ W0, W0 = (((w.alloc (.cells #[.int .u64 (S : Int), .slice A L.length c] 32)).alloc (.cells (lfC l) 75)).alloc (.cells #[.int .u64 0, .slice none 0 0] 32)).alloc (.cells #[.int .i64 0, .int .u64 0, .bool false, .bool false, .bool false, .bool false, .bool false, .bool false, .bool false, .bool false, .int .u64 0, .int .u64 0, .int .u64 0] 75) := ⟨_, rfl⟩
  have HE : Hid (Ext w W0) := Lib.hid (by rw [hW]; exact ((((Ext.refl w).alloc _).alloc _).alloc _).alloc _)
  have hb : Blk W0 w.heap.size 32 #[.int .u64 (S : Int), .slice A L.length c] := by rw [hW]; exact (((Blk.new w _ _).alloc _).alloc _).alloc _
  have h1 : Blk W0 (w.heap.size + 1) 75 (lfC l) := by rw [hW]; exact ((blk_at (by simp)).alloc _).alloc _
  have hc : Blk W0 (w.heap.size + 1 + 1) 32 #[.int .u64 0, .slice none 0 0] := by rw [hW]; exact (blk_at (by simp)).alloc _
  have hd : Blk W0 (w.heap.size + 1 + 1 + 1) 75 #[.int .i64 0, .int .u64 0, .bool false, .bool false, .bool false, .bool false, .bool false, .bool false, .bool false, .bool false, .int .u64 0, .int .u64 0, .int .u64 0] := by rw [hW]; exact blk_at (by simp)
  have HW := Lib.hid hW
  have h1L := h1
  rw [hW] at h1L
  clear hW
  have HW8 := wordL_lt hM.rl (l.at' / 8)
  have hSS := hM.ok.le
  have hS8 := hM.ok.mod8
  have hus := fun w => used_c l.pt d w
  have hwd := fun w (hM : Mem w S A L c) => word_x hM (a := l.at') (by omega)
  have hgt := fun w => get_pte (wordL L (l.at' / 8)) HW8 w
  have hu2 := fun w => used_c (getP (wordL L (l.at' / 8))) d w
  have hmay : mayB (usedP (getP (wordL L (l.at' / 8))) d) = true := by rw [may_used]; exact may_get HW8
  have hpt := fun w => put_yes (usedP (getP (wordL L (l.at' / 8))) d) (by have := ok_get HW8; unfold usedP; exact this) hmay w
  have he : putN (usedP (getP (wordL L (l.at' / 8))) d) = markN (wordL L (l.at' / 8)) d := by unfold markN; rfl
  rw [he] at hpt
  have hml := mark_lt HW8 d
  have hl2 : (⟨l.lv, l.at', usedP l.pt d⟩ : Lf) = { l with pt := usedP l.pt d } := rfl
  have ha1 := lfC_at' { l with pt := usedP l.pt d }
  by_cases hq : markN (wordL L (l.at' / 8)) d = wordL L (l.at' / 8)
  · have HQ := Lib.hid (mark_same hM.rl hat (by omega) hq)
    have hqe : (((markN (wordL L (l.at' / 8)) d : Nat) : Int) == ((wordL L (l.at' / 8) : Nat) : Int)) = true := by rw [hq]; simp
    have hkm : Mem w S A (markL L l.at' d) c := by rw [HQ.out]; exact hM
    have hkl : (markL L l.at' d).length = L.length := by rw [HQ.out]
    have HK := Lib.hid hkl
    clear hmay he hq hat hlt hf hkl
    generalize markN (wordL L (l.at' / 8)) d = mv at hqe hpt hml
    generalize wordL L (l.at' / 8) = v at hwd hgt hu2 hpt HW8 hqe
    generalize getP v = p at hgt hu2 hpt
    go_enter Tryz.func27, Tryz.ntmps27
    go_wp2_with (refine wpList_load_part (by rfl) 73 _ rfl rfl h1L (lfC_pt l) Tryz.underlying73 rfl (pt_info _) ?_)
    refine (hus _).mono ?_
    rintro e w' ⟨rfl, hE⟩
    rw [← HW.out] at hE
    replace hb := hb.ext hE; replace hc := hc.ext hE; replace hd := hd.ext hE; replace h1 := h1.ext hE; (replace HE := Lib.hid (HE.out.trans hE))
    clear hE HW h1L hus
    have h1k := h1
    have key := (h1).row (lfC { l with pt := usedP l.pt d }); clear h1; replace hb := Blk.apart hb (show _ ≠ w.heap.size + 1 by omega) (lfC { l with pt := usedP l.pt d }); replace hc := Blk.apart hc (show _ ≠ w.heap.size + 1 by omega) (lfC { l with pt := usedP l.pt d }); replace hd := Blk.apart hd (show _ ≠ w.heap.size + 1 by omega) (lfC { l with pt := usedP l.pt d }); have h1 := key; clear key; replace HE := Lib.hid (HE.out.row (show _ ≤ w.heap.size + 1 by omega) (lfC { l with pt := usedP l.pt d }))
    have hc1 := (h1.cell 1).trans ha1
    go_wp2_with (first | (refine wpList_store_part rfl 73 _ _ rfl rfl rfl h1k (by simp [lfC_size, ptC_size]) (lfC_set_pt l _) (pt_info _) (ptC_one _) ?_) | (refine wpList_load_blk (by rfl) 32 _ rfl rfl (by with_reducible assumption) Tryz.underlying32 rfl (by kernel_rfl) ?_)); refine (hwd _ (hM.ext HE.out)).mono ?_; rintro e w' ⟨rfl, hE⟩; replace hb := hb.ext hE; replace hc := hc.ext hE; replace hd := hd.ext hE; replace h1 := h1.ext hE; (replace HE := Lib.hid (HE.out.trans hE))
    clear hE hc1 h1k
    go_wp2_with fail; refine (hgt _).mono ?_; rintro e w' ⟨rfl, hE⟩; replace hb := hb.ext hE; replace hc := hc.ext hE; replace hd := hd.ext hE; replace h1 := h1.ext hE; (replace HE := Lib.hid (HE.out.trans hE))
    clear hE
    go_wp2_with fail; refine (hu2 _).mono ?_; rintro e w' ⟨rfl, hE⟩; replace hb := hb.ext hE; replace hc := hc.ext hE; replace hd := hd.ext hE; replace h1 := h1.ext hE; (replace HE := Lib.hid (HE.out.trans hE))
    clear hE
    go_wp2_with fail; refine (hpt _).mono ?_; rintro e w' ⟨rfl, hE⟩; replace hb := hb.ext hE; replace hc := hc.ext hE; replace hd := hd.ext hE; replace h1 := h1.ext hE; (replace HE := Lib.hid (HE.out.trans hE))
    clear hE
    go_wp2
    replace hb := Blk.drew hb; replace hc := Blk.drew hc; replace hd := Blk.drew hd; replace h1 := Blk.drew h1; replace HE := Lib.hid HE.out.drew
    refine wp_region_seq [(0, false), (1, false), (2, true), (3, true)] (Gap (w.heap.size + 1 + 1) (w.heap.size + 4)) (by kernel_rfl) (by kernel_rfl) (Gap.refl _ _) (fun _ _ _ => Gap.trans) ?_; simp only [List.map, nth_z, nth_s]
    refine seq_load rfl rfl (fun x hx => Gap.blk hx (hb.drew) (by omega)) rfl Tryz.underlying32 (by kernel_rfl) (by rfl) ?_; intro K hK; simp only [Act.put, List.setIfInBounds_toArray, List.set_cons_zero, List.set_cons_succ]; refine hK _ ?_; clear hK K
    refine seq_load rfl rfl (fun x hx => Gap.blk hx (h1.drew) (by omega)) rfl Tryz.underlying75 (lf_info _) (by rfl) ?_; intro K hK; simp only [Act.put, List.setIfInBounds_toArray, List.set_cons_zero, List.set_cons_succ]; refine hK _ ?_; clear hK K
    refine seq_store_row rfl rfl rfl (hc.drew) (by kernel_rfl) (by rfl) (by simp [Value.oneCell']) (by rfl) (Gap.row _ (by omega) (by omega) _) ?_; intro K hK; simp only [Act.put]; refine hK _ _ ?_; clear hK K
    refine seq_store_row rfl rfl rfl ((hd.drew.apart (by omega) _)) (lf_info _) (by simp [lfC_size]) (lfC_one _) (by rfl) (Gap.row _ (by omega) (by omega) _) ?_; intro K hK; simp only [Act.put]; refine hK _ _ ?_; clear hK K
    refine seq_done ?_
    go_wp2
    refine bodyPost_ret (results_cc rfl _ _ rfl rfl (((hc.drew.row _).apart (by omega) _)) (((hd.drew.apart (by omega) _).row _)) Tryz.underlying32 rfl (by (kernel_rfl)) Tryz.underlying75 rfl (by (exact lf_info _))) rfl ?_
    exact ⟨A, c, by rw [HK.out], hkm.ext ((HE.out.row (by omega) _).row (by omega) _), fun lo hi _ ho => by rw [HK.out]; exact ho, (HE.out.row (by omega) _).row (by omega) _⟩
  · have hqe : (((markN (wordL L (l.at' / 8)) d : Nat) : Int) == ((wordL L (l.at' / 8) : Nat) : Int)) = false := by simp; omega
    have hst := fun w (hM : Mem w S A L c) => store8_o hM hml hat hlt hf (K := markL L l.at' d) (by unfold markL; rfl)
    clear hmay he hq hat hlt hf
    generalize markN (wordL L (l.at' / 8)) d = mv at hqe hpt hml hst
    generalize wordL L (l.at' / 8) = v at hwd hgt hu2 hpt HW8 hqe
    generalize getP v = p at hgt hu2 hpt
    go_enter Tryz.func27, Tryz.ntmps27
    go_wp2_with (refine wpList_load_part (by rfl) 73 _ rfl rfl h1L (lfC_pt l) Tryz.underlying73 rfl (pt_info _) ?_)
    refine (hus _).mono ?_
    rintro e w' ⟨rfl, hE⟩
    rw [← HW.out] at hE
    replace hb := hb.ext hE; replace hc := hc.ext hE; replace hd := hd.ext hE; replace h1 := h1.ext hE; (replace HE := Lib.hid (HE.out.trans hE))
    clear hE HW h1L hus
    have h1k := h1
    have key := (h1).row (lfC { l with pt := usedP l.pt d }); clear h1; replace hb := Blk.apart hb (show _ ≠ w.heap.size + 1 by omega) (lfC { l with pt := usedP l.pt d }); replace hc := Blk.apart hc (show _ ≠ w.heap.size + 1 by omega) (lfC { l with pt := usedP l.pt d }); replace hd := Blk.apart hd (show _ ≠ w.heap.size + 1 by omega) (lfC { l with pt := usedP l.pt d }); have h1 := key; clear key; replace HE := Lib.hid (HE.out.row (show _ ≤ w.heap.size + 1 by omega) (lfC { l with pt := usedP l.pt d }))
    have hc1 := (h1.cell 1).trans ha1
    go_wp2_with (first | (refine wpList_store_part rfl 73 _ _ rfl rfl rfl h1k (by simp [lfC_size, ptC_size]) (lfC_set_pt l _) (pt_info _) (ptC_one _) ?_) | (refine wpList_load_blk (by rfl) 32 _ rfl rfl (by with_reducible assumption) Tryz.underlying32 rfl (by kernel_rfl) ?_)); refine (hwd _ (hM.ext HE.out)).mono ?_; rintro e w' ⟨rfl, hE⟩; replace hb := hb.ext hE; replace hc := hc.ext hE; replace hd := hd.ext hE; replace h1 := h1.ext hE; (replace HE := Lib.hid (HE.out.trans hE))
    clear hE hc1 h1k
    go_wp2_with fail; refine (hgt _).mono ?_; rintro e w' ⟨rfl, hE⟩; replace hb := hb.ext hE; replace hc := hc.ext hE; replace hd := hd.ext hE; replace h1 := h1.ext hE; (replace HE := Lib.hid (HE.out.trans hE))
    clear hE
    go_wp2_with fail; refine (hu2 _).mono ?_; rintro e w' ⟨rfl, hE⟩; replace hb := hb.ext hE; replace hc := hc.ext hE; replace hd := hd.ext hE; replace h1 := h1.ext hE; (replace HE := Lib.hid (HE.out.trans hE))
    clear hE
    go_wp2_with fail; refine (hpt _).mono ?_; rintro e w' ⟨rfl, hE⟩; replace hb := hb.ext hE; replace hc := hc.ext hE; replace hd := hd.ext hE; replace h1 := h1.ext hE; (replace HE := Lib.hid (HE.out.trans hE))
    clear hE
    have hc1 := (h1.cell 1).trans ha1
    have hszB : w.heap.size < w'.heap.size := by have := hd.lt; omega
    have hszC : w.heap.size + 1 + 1 < w'.heap.size := by have := hd.lt; omega
    have hszD : w.heap.size + 1 + 1 + 1 < w'.heap.size := hd.lt
    go_wp2_with (first | (refine wpList_load_blk (by rfl) 32 _ rfl rfl (by with_reducible assumption) Tryz.underlying32 rfl (by kernel_rfl) ?_)); refine (hst _ (hM.ext HE.out)).mono ?_; rintro e w' ⟨A2, c2, rfl, hM2, ho, hE⟩; replace hb := hb.ext hE; replace hc := hc.ext hE; replace hd := hd.ext hE; replace h1 := h1.ext hE; (replace HE := Lib.hid (HE.out.trans hE))
    clear hc1
    have hsz2 : w.heap.size + 4 ≤ w'.heap.size := by have := hd.lt; omega
    have hM3 := (hM2.row' (ho w.heap.size) (Nat.le_refl _) hszB #[.int .u64 (S : Int), .slice A2 (markL L l.at' d).length c2])
    clear hE
    have hbk := hb
    have key := (hb).row (#[.int .u64 (S : Int), .slice A2 (markL L l.at' d).length c2]); clear hb; replace hc := Blk.apart hc (show _ ≠ w.heap.size by omega) (#[.int .u64 (S : Int), .slice A2 (markL L l.at' d).length c2]); replace hd := Blk.apart hd (show _ ≠ w.heap.size by omega) (#[.int .u64 (S : Int), .slice A2 (markL L l.at' d).length c2]); replace h1 := Blk.apart h1 (show _ ≠ w.heap.size by omega) (#[.int .u64 (S : Int), .slice A2 (markL L l.at' d).length c2]); have hb := key; clear key; replace HE := Lib.hid (HE.out.row (show _ ≤ w.heap.size by omega) (#[.int .u64 (S : Int), .slice A2 (markL L l.at' d).length c2]))
    go_wp2_with (refine wpList_store_row rfl 32 _ _ rfl _ _ rfl rfl _ _ hbk (by kernel_rfl) (by rfl) (by simp [Value.oneCell']) ?_)
    replace hb := Blk.drew hb; replace hc := Blk.drew hc; replace hd := Blk.drew hd; replace h1 := Blk.drew h1; replace HE := Lib.hid HE.out.drew
    refine wp_region_seq [(0, false), (1, false), (2, true), (3, true)] (Gap (w.heap.size + 1 + 1) (w.heap.size + 4)) (by kernel_rfl) (by kernel_rfl) (Gap.refl _ _) (fun _ _ _ => Gap.trans) ?_; simp only [List.map, nth_z, nth_s]
    refine seq_load rfl rfl (fun x hx => Gap.blk hx (hb.drew) (by omega)) rfl Tryz.underlying32 (by kernel_rfl) (by rfl) ?_; intro K hK; simp only [Act.put, List.setIfInBounds_toArray, List.set_cons_zero, List.set_cons_succ]; refine hK _ ?_; clear hK K
    refine seq_load rfl rfl (fun x hx => Gap.blk hx (h1.drew) (by omega)) rfl Tryz.underlying75 (lf_info _) (by rfl) ?_; intro K hK; simp only [Act.put, List.setIfInBounds_toArray, List.set_cons_zero, List.set_cons_succ]; refine hK _ ?_; clear hK K
    refine seq_store_row rfl rfl rfl (hc.drew) (by kernel_rfl) (by rfl) (by simp [Value.oneCell']) (by rfl) (Gap.row _ (by omega) (by omega) _) ?_; intro K hK; simp only [Act.put]; refine hK _ _ ?_; clear hK K
    refine seq_store_row rfl rfl rfl ((hd.drew.apart (by omega) _)) (lf_info _) (by simp [lfC_size]) (lfC_one _) (by rfl) (Gap.row _ (by omega) (by omega) _) ?_; intro K hK; simp only [Act.put]; refine hK _ _ ?_; clear hK K
    refine seq_done ?_
    go_wp2
    refine bodyPost_ret (results_cc rfl _ _ rfl rfl (((hc.drew.row _).apart (by omega) _)) (((hd.drew.apart (by omega) _).row _)) Tryz.underlying32 rfl (by (kernel_rfl)) Tryz.underlying75 rfl (by (exact lf_info _))) rfl ?_
    exact ⟨A2, c2, rfl, (((hM3.ext (Ext.refl _).drew).row' (ho w.heap.size) (by omega) hszC _).row' (ho w.heap.size) (by omega) hszD _), fun lo hi hh _ => (ho lo).mono (by omega), (HE.out.row (by omega) _).row (by omega) _⟩

/-- what a walk leaves -/
def Walked (A0 : Option Addr) (S : Nat) (L : List (Nat × Nat)) (r a : Nat) (y : Wy) (w : World) (e : Ending) (w' : World) : Prop :=
  ∃ A c, e = .returned (.tuple #[.agg #[.int .u64 (S : Int), .slice A (walkL S L r a y).length c], .agg (lfC (walkF S L r a y)), .agg (ftC (fltF (walkS S L r a y) y.kd.toNat a))]) ∧ Mem w' S A (walkL S L r a y) c ∧
    (∀ lo hi, hi ≤ w.heap.size → Out lo hi A0 L.length → Out lo hi A (walkL S L r a y).length) ∧ Ext w w'
theorem lf_build0 : Tryz.prog.built 75 [] = some (lfC zLf) := by rw [lfC_zero]; kernel_rfl
theorem ft_build0 : Tryz.prog.built 54 [] = some (ftC zFt) := by rw [ftC_z]; kernel_rfl
set_option maxHeartbeats 4000000 in
theorem walk_c {w : World} {S : Nat} {A : Option Addr} {L : List (Nat × Nat)} {c : Nat} (hM : Mem w S A L c) (hf : L.length ≤ 999) {r a : Nat} (hr : r < 17592186044416) (a1 : a < 18446744073709551616) (y : Wy) (hy : wyIs y = true) (hT : Lay w) :
    Calls Tryz.prog 129 #[.agg #[.int .u64 (S : Int), .slice A L.length c], .int .u64 (r : Int), .int .u64 (a : Int), .agg (wyC y)] w (Walked A S L r a y w) := by
  obtain ⟨W0, hW⟩ : ∃ W0, W0 = ((((w.alloc (.cells #[.int .u64 (S : Int), .slice A L.length c] 32)).alloc (.cells (wyC y) 95)).alloc (.cells #[.int .u64 0, .slice none 0 0] 32)).alloc (.cells #[.int .i64 0, .int .u64 0, .bool false, .bool false, .bool false, .bool false, .bool false, .bool false, .bool false, .bool false, .int .u64 0, .int .u64 0, .int .u64 0] 75)).alloc (.cells #[.bool false, .int .i64 0, .int .u64 0] 54) := ⟨_, rfl⟩
  have HE : Hid (Ext w W0) := Lib.hid (by rw [hW]; exact (((((Ext.refl w).alloc _).alloc _).alloc _).alloc _).alloc _)
  have hb : Blk W0 w.heap.size 32 #[.int .u64 (S : Int), .slice A L.length c] := by rw [hW]; exact ((((Blk.new w _ _).alloc _).alloc _).alloc _).alloc _
  have h2 : Blk W0 (w.heap.size + 1) 95 (wyC y) := by rw [hW]; exact (((blk_at (by simp)).alloc _).alloc _).alloc _
  have hc : Blk W0 (w.heap.size + 1 + 1) 32 #[.int .u64 0, .slice none 0 0] := by rw [hW]; exact ((blk_at (by simp)).alloc _).alloc _
  have hd : Blk W0 (w.heap.size + 1 + 1 + 1) 75 #[.int .i64 0, .int .u64 0, .bool false, .bool false, .bool false, .bool false, .bool false, .bool false, .bool false, .bool false, .int .u64 0, .int .u64 0, .int .u64 0] := by rw [hW]; exact (blk_at (by simp)).alloc _
  have hz : Blk W0 (w.heap.size + 1 + 1 + 1 + 1) 54 #[.bool false, .int .i64 0, .int .u64 0] := by rw [hW]; exact blk_at (by simp)
  have HW := Lib.hid hW
  have hbL := hb
  have h2L := h2
  rw [hW] at hbL h2L
  clear hW
  obtain ⟨k, hk3, hk⟩ : ∃ k : Nat, k < 3 ∧ y.kd = (k : Int) := by
    have := (wy_cases hy).1
    exact ⟨y.kd.toNat, by omega, by omega⟩
  have hy0 : (wyC y)[0]? = some (.int .i64 (k : Int)) := by rw [wyC_eq, hk]; rfl
  have HKD : Hid (y.kd.toNat = k ∧ (y.kd == 2) = ((k : Int) == 2)) := Lib.hid ⟨by omega, by rw [hk]⟩
  have h2c := (h2L.cell 0).trans hy0
  have hlk := fun w (hM : Mem w S A L c) (hT : Lay w) => look_c hM hr a1 k hk3 hT
  clear hk
  have hal := fun w (p : Pm) => al8_c p y hy w
  have hpg := page9_c k hk3 a
  have hleaf : (lookN S L r a).so = 0 → LeafOf S L (lookN S L r a).lf := fun h => (look_leaf h).2
  have hmk := fun w (hM : Mem w S A L c) (h : (lookN S L r a).so = 0) (d : Bool) => mark_c hM hf (lookN S L r a).lf (hleaf h).al (hleaf h).lt d
  have hlf0 : (lookN S L r a).so ≠ 0 → (lookN S L r a).lf = zLf := fun h => (look_none h).2
  by_cases hso : (lookN S L r a).so = 0
  case neg =>
    have H := Lib.hid (walk_fault (y := y) hso)
    have hb1 : (ftC (fltF (lookN S L r a).so k a))[0]? = some (.bool true) := by unfold fltF; rw [if_neg hso, ftC_def]; rfl
    clear hmk hleaf hlf0 hso
    generalize (lookN S L r a).lf = f at hlk
    generalize (lookN S L r a).so = o at H hb1 hlk
    generalize hF : fltF o k a = F at hlk hb1
    have HF0 := Lib.hid hF
    clear hF
    go_enter Tryz.func129, Tryz.ntmps129
    go_wp2_with (refine wpList_load_blk (by rfl) 32 _ rfl rfl (by with_reducible assumption) Tryz.underlying32 rfl (by kernel_rfl) ?_)
    refine (hlk _ (hM.ext (HW.out ▸ HE.out)) (hT.ext (HW.out ▸ HE.out))).mono ?_
    rintro e w5 ⟨rfl, hE⟩
    rw [← HW.out] at hE
    replace hb := hb.ext hE; replace hc := hc.ext hE; replace hd := hd.ext hE; replace hz := hz.ext hE; replace h2 := h2.ext hE; (replace HE := Lib.hid (HE.out.trans hE))
    clear hE HW hbL h2L h2c hlk
    have hs0 : w.heap.size + 5 ≤ w5.heap.size := by have := hz.lt; omega
    have hE := (Ext.refl (w5)).alloc (.cells (#[.int .i64 0, .int .u64 0, .bool false, .bool false, .bool false, .bool false, .bool false, .bool false, .bool false, .bool false, .int .u64 0, .int .u64 0, .int .u64 0]) 75); have hnew := Blk.new (w5) 75 (#[.int .i64 0, .int .u64 0, .bool false, .bool false, .bool false, .bool false, .bool false, .bool false, .bool false, .bool false, .int .u64 0, .int .u64 0, .int .u64 0]); replace hb := hb.ext hE; replace hc := hc.ext hE; replace hd := hd.ext hE; replace hz := hz.ext hE; replace h2 := h2.ext hE; replace HE := Lib.hid (HE.out.trans hE); clear hE; have h1 := hnew; clear hnew
    have hE := (Ext.refl (w5.alloc (.cells #[.int .i64 0, .int .u64 0, .bool false, .bool false, .bool false, .bool false, .bool false, .bool false, .bool false, .bool false, .int .u64 0, .int .u64 0, .int .u64 0] 75))).alloc (.cells (#[.bool false, .int .i64 0, .int .u64 0]) 54); have hnew := Blk.new (w5.alloc (.cells #[.int .i64 0, .int .u64 0, .bool false, .bool false, .bool false, .bool false, .bool false, .bool false, .bool false, .bool false, .int .u64 0, .int .u64 0, .int .u64 0] 75)) 54 (#[.bool false, .int .i64 0, .int .u64 0]); replace hb := hb.ext hE; replace hc := hc.ext hE; replace hd := hd.ext hE; replace hz := hz.ext hE; replace h1 := h1.ext hE; replace h2 := h2.ext hE; replace HE := Lib.hid (HE.out.trans hE); clear hE; have h3 := hnew; clear hnew
    rw [World.size_alloc] at h3
    have h1a := h1
    have h3a := h3.apart (show w5.heap.size + 1 ≠ w5.heap.size by omega) (lfC f)
    have key := (h1).row (lfC f); clear h1; replace hb := Blk.apart hb (show _ ≠ w5.heap.size by omega) (lfC f); replace hc := Blk.apart hc (show _ ≠ w5.heap.size by omega) (lfC f); replace hd := Blk.apart hd (show _ ≠ w5.heap.size by omega) (lfC f); replace hz := Blk.apart hz (show _ ≠ w5.heap.size by omega) (lfC f); replace h2 := Blk.apart h2 (show _ ≠ w5.heap.size by omega) (lfC f); replace h3 := Blk.apart h3 (show _ ≠ w5.heap.size by omega) (lfC f); have h1 := key; clear key; replace HE := Lib.hid (HE.out.row (show _ ≤ w5.heap.size by omega) (lfC f))
    have key := (h3).row (ftC F); clear h3; replace hb := Blk.apart hb (show _ ≠ w5.heap.size + 1 by omega) (ftC F); replace hc := Blk.apart hc (show _ ≠ w5.heap.size + 1 by omega) (ftC F); replace hd := Blk.apart hd (show _ ≠ w5.heap.size + 1 by omega) (ftC F); replace hz := Blk.apart hz (show _ ≠ w5.heap.size + 1 by omega) (ftC F); replace h1 := Blk.apart h1 (show _ ≠ w5.heap.size + 1 by omega) (ftC F); replace h2 := Blk.apart h2 (show _ ≠ w5.heap.size + 1 by omega) (ftC F); have h3 := key; clear key; replace HE := Lib.hid (HE.out.row (show _ ≤ w5.heap.size + 1 by omega) (ftC F))
    have hb1x := (h3.cell 0).trans hb1
    go_wp2_with (first | (refine wpList_store_row rfl 75 _ _ rfl _ (lfC _) rfl rfl _ _ h1a (lf_info _) (by simp [lfC_size]) (lfC_one _) ?_) | (refine wpList_store_row rfl 54 _ _ rfl _ (ftC _) rfl rfl _ _ h3a (ft_info _) (by simp [ftC_size]) (ftC_one _) ?_))
    clear h1a h3a hb1x
    generalize ((((w5.alloc (.cells #[.int .i64 0, .int .u64 0, .bool false, .bool false, .bool false, .bool false, .bool false, .bool false, .bool false, .bool false, .int .u64 0, .int .u64 0, .int .u64 0] 75)).alloc (.cells #[.bool false, .int .i64 0, .int .u64 0] 54)).setRow w5.heap.size (lfC f)).setRow (w5.heap.size + 1) (ftC F)) = X at hb hc hd hz h1 h2 h3 HE ⊢
    refine wp_region_seq [(0, false), (1, false), (2, false), (3, true), (4, true), (5, true)] (Gap (w.heap.size + 1 + 1) (w.heap.size + 5)) (by kernel_rfl) (by kernel_rfl) (Gap.refl _ _) (fun _ _ _ => Gap.trans) ?_; simp only [List.map, nth_z, nth_s]
    refine seq_load rfl rfl (fun x hx => Gap.blk hx (hb.drew) (by omega)) rfl Tryz.underlying32 (by kernel_rfl) (by rfl) ?_; intro K hK; simp only [Act.put, List.setIfInBounds_toArray, List.set_cons_zero, List.set_cons_succ]; refine hK _ ?_; clear hK K
    refine seq_build_as rfl (lf_build0) (by rfl) ?_; intro K hK; simp only [Act.put, List.setIfInBounds_toArray, List.set_cons_zero, List.set_cons_succ]; refine hK _ ?_; clear hK K
    refine seq_load rfl rfl (fun x hx => Gap.blk hx (h3.drew) (by omega)) rfl Tryz.underlying54 (ft_info _) (by rfl) ?_; intro K hK; simp only [Act.put, List.setIfInBounds_toArray, List.set_cons_zero, List.set_cons_succ]; refine hK _ ?_; clear hK K
    refine seq_store_row rfl rfl rfl (hc.drew) (by kernel_rfl) (by rfl) (by simp [Value.oneCell']) (by rfl) (Gap.row _ (by omega) (by omega) _) ?_; intro K hK; simp only [Act.put]; refine hK _ _ ?_; clear hK K
    refine seq_store_row rfl rfl rfl ((hd.drew.apart (by omega) _)) (lf_info _) (by simp [lfC_size]) (lfC_one _) (by rfl) (Gap.row _ (by omega) (by omega) _) ?_; intro K hK; simp only [Act.put]; refine hK _ _ ?_; clear hK K
    refine seq_store_row rfl rfl rfl (((hz.drew.apart (by omega) _).apart (by omega) _)) (ft_info _) (by simp [ftC_size]) (ftC_one _) (by rfl) (Gap.row _ (by omega) (by omega) _) ?_; intro K hK; simp only [Act.put]; refine hK _ _ ?_; clear hK K
    refine seq_done ?_
    go_wp2
    refine bodyPost_ret (results_ccc rfl _ _ rfl rfl rfl ((((hc.drew.row _).apart (by omega) _).apart (by omega) _)) ((((hd.drew.apart (by omega) _).row _).apart (by omega) _)) ((((hz.drew.apart (by omega) _).apart (by omega) _).row _)) Tryz.underlying32 rfl (by kernel_rfl) Tryz.underlying75 rfl (by exact lf_info _) Tryz.underlying54 rfl (by exact ft_info _)) rfl ?_
    exact ⟨A, c, by rw [H.out.1, H.out.2.1, H.out.2.2, HKD.out.1, HF0.out], by rw [H.out.2.1]; exact hM.ext (((HE.out.drew.row (by omega) _).row (by omega) _).row (by omega) _), fun lo hi _ ho => by rw [H.out.2.1]; exact ho, ((HE.out.drew.row (by omega) _).row (by omega) _).row (by omega) _⟩
  case pos =>
    have hb1 : (ftC zFt)[0]? = some (.bool false) := by rw [ftC_z]; rfl
    rw [hso, flt_zero] at hlk
    have HN := Lib.hid (fun h2 => walk_not (y := y) hso h2)
    have HY := Lib.hid (fun h2 => walk_yes (y := y) hso h2)
    have hm2 := fun w hM d => hmk w hM hso d
    clear hmk hleaf hlf0 hso
    generalize (lookN S L r a).lf = f at hlk HN HY hm2
    generalize hF : zFt = F at hlk hb1
    cases hpa : pmAl (permP f.pt) y
    · have H := Lib.hid (HN.out hpa)
      have hal2 := hal
      clear hm2 HN HY
      go_enter Tryz.func129, Tryz.ntmps129
      go_wp2_with (refine wpList_load_blk (by rfl) 32 _ rfl rfl (by with_reducible assumption) Tryz.underlying32 rfl (by kernel_rfl) ?_)
      refine (hlk _ (hM.ext (HW.out ▸ HE.out)) (hT.ext (HW.out ▸ HE.out))).mono ?_
      rintro e w5 ⟨rfl, hE⟩
      rw [← HW.out] at hE
      replace hb := hb.ext hE; replace hc := hc.ext hE; replace hd := hd.ext hE; replace hz := hz.ext hE; replace h2 := h2.ext hE; (replace HE := Lib.hid (HE.out.trans hE))
      clear hE HW hbL h2L h2c hlk
      have hs0 : w.heap.size + 5 ≤ w5.heap.size := by have := hz.lt; omega
      have hE := (Ext.refl (w5)).alloc (.cells (#[.int .i64 0, .int .u64 0, .bool false, .bool false, .bool false, .bool false, .bool false, .bool false, .bool false, .bool false, .int .u64 0, .int .u64 0, .int .u64 0]) 75); have hnew := Blk.new (w5) 75 (#[.int .i64 0, .int .u64 0, .bool false, .bool false, .bool false, .bool false, .bool false, .bool false, .bool false, .bool false, .int .u64 0, .int .u64 0, .int .u64 0]); replace hb := hb.ext hE; replace hc := hc.ext hE; replace hd := hd.ext hE; replace hz := hz.ext hE; replace h2 := h2.ext hE; replace HE := Lib.hid (HE.out.trans hE); clear hE; have h1 := hnew; clear hnew
      have hE := (Ext.refl (w5.alloc (.cells #[.int .i64 0, .int .u64 0, .bool false, .bool false, .bool false, .bool false, .bool false, .bool false, .bool false, .bool false, .int .u64 0, .int .u64 0, .int .u64 0] 75))).alloc (.cells (#[.bool false, .int .i64 0, .int .u64 0]) 54); have hnew := Blk.new (w5.alloc (.cells #[.int .i64 0, .int .u64 0, .bool false, .bool false, .bool false, .bool false, .bool false, .bool false, .bool false, .bool false, .int .u64 0, .int .u64 0, .int .u64 0] 75)) 54 (#[.bool false, .int .i64 0, .int .u64 0]); replace hb := hb.ext hE; replace hc := hc.ext hE; replace hd := hd.ext hE; replace hz := hz.ext hE; replace h1 := h1.ext hE; replace h2 := h2.ext hE; replace HE := Lib.hid (HE.out.trans hE); clear hE; have h3 := hnew; clear hnew
      rw [World.size_alloc] at h3
      have h1a := h1
      have h3a := h3.apart (show w5.heap.size + 1 ≠ w5.heap.size by omega) (lfC f)
      have key := (h1).row (lfC f); clear h1; replace hb := Blk.apart hb (show _ ≠ w5.heap.size by omega) (lfC f); replace hc := Blk.apart hc (show _ ≠ w5.heap.size by omega) (lfC f); replace hd := Blk.apart hd (show _ ≠ w5.heap.size by omega) (lfC f); replace hz := Blk.apart hz (show _ ≠ w5.heap.size by omega) (lfC f); replace h2 := Blk.apart h2 (show _ ≠ w5.heap.size by omega) (lfC f); replace h3 := Blk.apart h3 (show _ ≠ w5.heap.size by omega) (lfC f); have h1 := key; clear key; replace HE := Lib.hid (HE.out.row (show _ ≤ w5.heap.size by omega) (lfC f))
      have key := (h3).row (ftC F); clear h3; replace hb := Blk.apart hb (show _ ≠ w5.heap.size + 1 by omega) (ftC F); replace hc := Blk.apart hc (show _ ≠ w5.heap.size + 1 by omega) (ftC F); replace hd := Blk.apart hd (show _ ≠ w5.heap.size + 1 by omega) (ftC F); replace hz := Blk.apart hz (show _ ≠ w5.heap.size + 1 by omega) (ftC F); replace h1 := Blk.apart h1 (show _ ≠ w5.heap.size + 1 by omega) (ftC F); replace h2 := Blk.apart h2 (show _ ≠ w5.heap.size + 1 by omega) (ftC F); have h3 := key; clear key; replace HE := Lib.hid (HE.out.row (show _ ≤ w5.heap.size + 1 by omega) (ftC F))
      have hb1x := (h3.cell 0).trans hb1
      go_wp2_with (first | (refine wpList_store_row rfl 75 _ _ rfl _ (lfC _) rfl rfl _ _ h1a (lf_info _) (by simp [lfC_size]) (lfC_one _) ?_) | (refine wpList_store_row rfl 54 _ _ rfl _ (ftC _) rfl rfl _ _ h3a (ft_info _) (by simp [ftC_size]) (ftC_one _) ?_))
      clear h1a h3a hb1x
      generalize ((((w5.alloc (.cells #[.int .i64 0, .int .u64 0, .bool false, .bool false, .bool false, .bool false, .bool false, .bool false, .bool false, .bool false, .int .u64 0, .int .u64 0, .int .u64 0] 75)).alloc (.cells #[.bool false, .int .i64 0, .int .u64 0] 54)).setRow w5.heap.size (lfC f)).setRow (w5.heap.size + 1) (ftC F)) = X at hb hc hd hz h1 h2 h3 HE ⊢
      replace hb := Blk.drew hb; replace hc := Blk.drew hc; replace hd := Blk.drew hd; replace hz := Blk.drew hz; replace h1 := Blk.drew h1; replace h2 := Blk.drew h2; replace h3 := Blk.drew h3; replace HE := Lib.hid HE.out.drew
      refine wp_region_seq [(0, false), (1, false), (3, false), (2, true), (4, true), (5, false)] Ext (by kernel_rfl) (by kernel_rfl) Ext.refl (fun _ _ _ => Ext.trans) ?_; simp only [List.map, nth_z, nth_s]
      (repeat ((refine seq_read (by rfl) (by rfl) ?_; intro K hK; go_big_quiet_op; (refine ⟨_, fun _ _ => rfl, ?_⟩; go_big_quiet_on))))
      refine seq_load_part rfl rfl (fun x hx => Blk.ext (h1) hx) (lfC_pt f) rfl Tryz.underlying73 (pt_info _) (by rfl) ?_; intro K hK; simp only [Act.put, List.setIfInBounds_toArray, List.set_cons_zero, List.set_cons_succ]; refine hK _ ?_; clear hK K
      refine seq_load rfl rfl (fun x hx => Blk.ext (h2) hx) rfl Tryz.underlying95 (wy_info _) (by rfl) ?_; intro K hK; simp only [Act.put, List.setIfInBounds_toArray, List.set_cons_zero, List.set_cons_succ]; refine hK _ ?_; clear hK K
      refine seq_call (perm_c _ _) rfl Tryz.func59 (by kernel_rfl) (by kernel_rfl) (by rfl) (by rfl) ?_; intro K hK; rintro e w' ⟨rfl, hE⟩; refine ⟨_, rfl, hE, ?_⟩; simp only [Act.put, List.setIfInBounds_toArray, List.set_cons_zero, List.set_cons_succ]; refine hK _ _ ?_; clear hK K; replace hb := hb.ext hE; replace hc := hc.ext hE; replace hd := hd.ext hE; replace hz := hz.ext hE; replace h1 := h1.ext hE; replace h2 := h2.ext hE; replace h3 := h3.ext hE; (replace HE := Lib.hid (HE.out.trans hE))
      clear hE
      refine seq_call (hal _ _) rfl Tryz.func126 (by kernel_rfl) (by kernel_rfl) (by rfl) (by rfl) ?_; intro K hK; rintro e w' ⟨rfl, hE⟩; refine ⟨_, rfl, hE, ?_⟩; simp only [Act.put, List.setIfInBounds_toArray, List.set_cons_zero, List.set_cons_succ]; refine hK _ _ ?_; clear hK K; replace hb := hb.ext hE; replace hc := hc.ext hE; replace hd := hd.ext hE; replace hz := hz.ext hE; replace h1 := h1.ext hE; replace h2 := h2.ext hE; replace h3 := h3.ext hE; (replace HE := Lib.hid (HE.out.trans hE))
      clear hE
      rw [hpa]
      (repeat ((refine seq_read (by rfl) (by rfl) ?_; intro K hK; go_big_quiet_op; (refine ⟨_, fun _ _ => rfl, ?_⟩; go_big_quiet_on))))
      refine seq_done ?_
      clear hpa
      go_wp2
      replace hb := Blk.drew hb; replace hc := Blk.drew hc; replace hd := Blk.drew hd; replace hz := Blk.drew hz; replace h1 := Blk.drew h1; replace h2 := Blk.drew h2; replace h3 := Blk.drew h3; replace HE := Lib.hid HE.out.drew
      refine wp_region_seq [(0, false), (1, false), (2, false), (3, false), (4, false), (5, true), (6, true), (7, true), (8, true)] (Gap (w.heap.size + 1 + 1) (w.heap.size + 5)) (by kernel_rfl) (by kernel_rfl) (Gap.refl _ _) (fun _ _ _ => Gap.trans) ?_; simp only [List.map, nth_z, nth_s]
      refine seq_load rfl rfl (fun x hx => Gap.blk hx (hb) (by omega)) rfl Tryz.underlying32 (by kernel_rfl) (by rfl) ?_; intro K hK; simp only [Act.put, List.setIfInBounds_toArray, List.set_cons_zero, List.set_cons_succ]; refine hK _ ?_; clear hK K
      refine seq_build_as rfl (lf_build0) (by rfl) ?_; intro K hK; simp only [Act.put, List.setIfInBounds_toArray, List.set_cons_zero, List.set_cons_succ]; refine hK _ ?_; clear hK K
      (repeat ((refine seq_read (by rfl) (by rfl) ?_; intro K hK; go_big_quiet_op; (refine ⟨_, fun _ _ => rfl, ?_⟩; go_big_quiet_on))))
      refine seq_value (.int .i64 (k : Int)) (by rfl) (fun x hx => by have hq := ((Gap.blk hx (h2) (by omega)).cell 0).trans (hy0); simp [go_sem, execOp, Act.eval, hq]) ?_; intro K hK; simp only [Act.put, List.setIfInBounds_toArray, List.set_cons_zero, List.set_cons_succ]; refine hK _ ?_; clear hK K
      (repeat ((refine seq_read (by rfl) (by rfl) ?_; intro K hK; go_big_quiet_op; (go_big_quiet_on))))
      refine seq_call (hpg _ (hT.ext HE.out).2) rfl Tryz.func80 (by kernel_rfl) (by kernel_rfl) (by rfl) (by rfl) ?_; intro K hK; rintro e w' ⟨rfl, hE⟩; refine ⟨_, rfl, (Gap.ext hE), ?_⟩; simp only [Act.put, List.setIfInBounds_toArray, List.set_cons_zero, List.set_cons_succ]; refine hK _ _ ?_; clear hK K; replace hb := hb.ext hE; replace hc := hc.ext hE; replace hd := hd.ext hE; replace hz := hz.ext hE; replace h1 := h1.ext hE; replace h2 := h2.ext hE; replace h3 := h3.ext hE; (replace HE := Lib.hid (HE.out.trans hE))
      clear hE
      refine seq_store_row rfl rfl rfl (hc) (by kernel_rfl) (by rfl) (by simp [Value.oneCell']) (by rfl) (Gap.row _ (by omega) (by omega) _) ?_; intro K hK; simp only [Act.put]; refine hK _ _ ?_; clear hK K
      refine seq_store_row rfl rfl rfl ((hd.apart (by omega) _)) (lf_info _) (by simp [lfC_size]) (lfC_one _) (by rfl) (Gap.row _ (by omega) (by omega) _) ?_; intro K hK; simp only [Act.put]; refine hK _ _ ?_; clear hK K
      refine seq_store_row rfl rfl rfl (((hz.apart (by omega) _).apart (by omega) _)) (ft_info _) (by simp [ftC_size]) (ftC_one _) (by rfl) (Gap.row _ (by omega) (by omega) _) ?_; intro K hK; simp only [Act.put]; refine hK _ _ ?_; clear hK K
      refine seq_done ?_
      go_wp2
      refine bodyPost_ret (results_ccc rfl _ _ rfl rfl rfl ((((hc.row _).apart (by omega) _).apart (by omega) _)) ((((hd.apart (by omega) _).row _).apart (by omega) _)) ((((hz.apart (by omega) _).apart (by omega) _).row _)) Tryz.underlying32 rfl (by kernel_rfl) Tryz.underlying75 rfl (by exact lf_info _) Tryz.underlying54 rfl (by exact ft_info _)) rfl ?_
      exact ⟨A, c, by rw [H.out.1, H.out.2.1, H.out.2.2, HKD.out.1, flt_page], by rw [H.out.2.1]; exact hM.ext (((HE.out.row (by omega) _).row (by omega) _).row (by omega) _), fun lo hi _ ho => by rw [H.out.2.1]; exact ho, ((HE.out.row (by omega) _).row (by omega) _).row (by omega) _⟩
    · have H := Lib.hid (HY.out hpa)
      clear HN HY
      go_enter Tryz.func129, Tryz.ntmps129
      go_wp2_with (refine wpList_load_blk (by rfl) 32 _ rfl rfl (by with_reducible assumption) Tryz.underlying32 rfl (by kernel_rfl) ?_)
      refine (hlk _ (hM.ext (HW.out ▸ HE.out)) (hT.ext (HW.out ▸ HE.out))).mono ?_
      rintro e w5 ⟨rfl, hE⟩
      rw [← HW.out] at hE
      replace hb := hb.ext hE; replace hc := hc.ext hE; replace hd := hd.ext hE; replace hz := hz.ext hE; replace h2 := h2.ext hE; (replace HE := Lib.hid (HE.out.trans hE))
      clear hE HW hbL h2L h2c hlk
      have hs0 : w.heap.size + 5 ≤ w5.heap.size := by have := hz.lt; omega
      have hE := (Ext.refl (w5)).alloc (.cells (#[.int .i64 0, .int .u64 0, .bool false, .bool false, .bool false, .bool false, .bool false, .bool false, .bool false, .bool false, .int .u64 0, .int .u64 0, .int .u64 0]) 75); have hnew := Blk.new (w5) 75 (#[.int .i64 0, .int .u64 0, .bool false, .bool false, .bool false, .bool false, .bool false, .bool false, .bool false, .bool false, .int .u64 0, .int .u64 0, .int .u64 0]); replace hb := hb.ext hE; replace hc := hc.ext hE; replace hd := hd.ext hE; replace hz := hz.ext hE; replace h2 := h2.ext hE; replace HE := Lib.hid (HE.out.trans hE); clear hE; have h1 := hnew; clear hnew
      have hE := (Ext.refl (w5.alloc (.cells #[.int .i64 0, .int .u64 0, .bool false, .bool false, .bool false, .bool false, .bool false, .bool false, .bool false, .bool false, .int .u64 0, .int .u64 0, .int .u64 0] 75))).alloc (.cells (#[.bool false, .int .i64 0, .int .u64 0]) 54); have hnew := Blk.new (w5.alloc (.cells #[.int .i64 0, .int .u64 0, .bool false, .bool false, .bool false, .bool false, .bool false, .bool false, .bool false, .bool false, .int .u64 0, .int .u64 0, .int .u64 0] 75)) 54 (#[.bool false, .int .i64 0, .int .u64 0]); replace hb := hb.ext hE; replace hc := hc.ext hE; replace hd := hd.ext hE; replace hz := hz.ext hE; replace h1 := h1.ext hE; replace h2 := h2.ext hE; replace HE := Lib.hid (HE.out.trans hE); clear hE; have h3 := hnew; clear hnew
      rw [World.size_alloc] at h3
      have h1a := h1
      have h3a := h3.apart (show w5.heap.size + 1 ≠ w5.heap.size by omega) (lfC f)
      have key := (h1).row (lfC f); clear h1; replace hb := Blk.apart hb (show _ ≠ w5.heap.size by omega) (lfC f); replace hc := Blk.apart hc (show _ ≠ w5.heap.size by omega) (lfC f); replace hd := Blk.apart hd (show _ ≠ w5.heap.size by omega) (lfC f); replace hz := Blk.apart hz (show _ ≠ w5.heap.size by omega) (lfC f); replace h2 := Blk.apart h2 (show _ ≠ w5.heap.size by omega) (lfC f); replace h3 := Blk.apart h3 (show _ ≠ w5.heap.size by omega) (lfC f); have h1 := key; clear key; replace HE := Lib.hid (HE.out.row (show _ ≤ w5.heap.size by omega) (lfC f))
      have key := (h3).row (ftC F); clear h3; replace hb := Blk.apart hb (show _ ≠ w5.heap.size + 1 by omega) (ftC F); replace hc := Blk.apart hc (show _ ≠ w5.heap.size + 1 by omega) (ftC F); replace hd := Blk.apart hd (show _ ≠ w5.heap.size + 1 by omega) (ftC F); replace hz := Blk.apart hz (show _ ≠ w5.heap.size + 1 by omega) (ftC F); replace h1 := Blk.apart h1 (show _ ≠ w5.heap.size + 1 by omega) (ftC F); replace h2 := Blk.apart h2 (show _ ≠ w5.heap.size + 1 by omega) (ftC F); have h3 := key; clear key; replace HE := Lib.hid (HE.out.row (show _ ≤ w5.heap.size + 1 by omega) (ftC F))
      have hb1x := (h3.cell 0).trans hb1
      go_wp2_with (first | (refine wpList_store_row rfl 75 _ _ rfl _ (lfC _) rfl rfl _ _ h1a (lf_info _) (by simp [lfC_size]) (lfC_one _) ?_) | (refine wpList_store_row rfl 54 _ _ rfl _ (ftC _) rfl rfl _ _ h3a (ft_info _) (by simp [ftC_size]) (ftC_one _) ?_))
      clear h1a h3a hb1x
      generalize ((((w5.alloc (.cells #[.int .i64 0, .int .u64 0, .bool false, .bool false, .bool false, .bool false, .bool false, .bool false, .bool false, .bool false, .int .u64 0, .int .u64 0, .int .u64 0] 75)).alloc (.cells #[.bool false, .int .i64 0, .int .u64 0] 54)).setRow w5.heap.size (lfC f)).setRow (w5.heap.size + 1) (ftC F)) = X at hb hc hd hz h1 h2 h3 HE ⊢
      replace hb := Blk.drew hb; replace hc := Blk.drew hc; replace hd := Blk.drew hd; replace hz := Blk.drew hz; replace h1 := Blk.drew h1; replace h2 := Blk.drew h2; replace h3 := Blk.drew h3; replace HE := Lib.hid HE.out.drew
      refine wp_region_seq [(0, false), (1, false), (3, false), (2, true), (4, true), (5, false)] Ext (by kernel_rfl) (by kernel_rfl) Ext.refl (fun _ _ _ => Ext.trans) ?_; simp only [List.map, nth_z, nth_s]
      (repeat ((refine seq_read (by rfl) (by rfl) ?_; intro K hK; go_big_quiet_op; (refine ⟨_, fun _ _ => rfl, ?_⟩; go_big_quiet_on))))
      refine seq_load_part rfl rfl (fun x hx => Blk.ext (h1) hx) (lfC_pt f) rfl Tryz.underlying73 (pt_info _) (by rfl) ?_; intro K hK; simp only [Act.put, List.setIfInBounds_toArray, List.set_cons_zero, List.set_cons_succ]; refine hK _ ?_; clear hK K
      refine seq_load rfl rfl (fun x hx => Blk.ext (h2) hx) rfl Tryz.underlying95 (wy_info _) (by rfl) ?_; intro K hK; simp only [Act.put, List.setIfInBounds_toArray, List.set_cons_zero, List.set_cons_succ]; refine hK _ ?_; clear hK K
      refine seq_call (perm_c _ _) rfl Tryz.func59 (by kernel_rfl) (by kernel_rfl) (by rfl) (by rfl) ?_; intro K hK; rintro e w' ⟨rfl, hE⟩; refine ⟨_, rfl, hE, ?_⟩; simp only [Act.put, List.setIfInBounds_toArray, List.set_cons_zero, List.set_cons_succ]; refine hK _ _ ?_; clear hK K; replace hb := hb.ext hE; replace hc := hc.ext hE; replace hd := hd.ext hE; replace hz := hz.ext hE; replace h1 := h1.ext hE; replace h2 := h2.ext hE; replace h3 := h3.ext hE; (replace HE := Lib.hid (HE.out.trans hE))
      clear hE
      refine seq_call (hal _ _) rfl Tryz.func126 (by kernel_rfl) (by kernel_rfl) (by rfl) (by rfl) ?_; intro K hK; rintro e w' ⟨rfl, hE⟩; refine ⟨_, rfl, hE, ?_⟩; simp only [Act.put, List.setIfInBounds_toArray, List.set_cons_zero, List.set_cons_succ]; refine hK _ _ ?_; clear hK K; replace hb := hb.ext hE; replace hc := hc.ext hE; replace hd := hd.ext hE; replace hz := hz.ext hE; replace h1 := h1.ext hE; replace h2 := h2.ext hE; replace h3 := h3.ext hE; (replace HE := Lib.hid (HE.out.trans hE))
      clear hE
      rw [hpa]
      (repeat ((refine seq_read (by rfl) (by rfl) ?_; intro K hK; go_big_quiet_op; (refine ⟨_, fun _ _ => rfl, ?_⟩; go_big_quiet_on))))
      refine seq_done ?_
      clear hpa
      obtain ⟨d, hd2⟩ : ∃ d, ((k : Int) == 2) = d := ⟨_, rfl⟩
      have HD := Lib.hid hd2
      have h2c := (h2.cell 0).trans hy0
      have hq1 := h1.lt
      have hq2 := hb.lt
      have hq3 : w.heap.size ≤ w'.heap.size := HE.out.size
      go_wp2_with (first | (refine wpList_load_blk (by rfl) 32 _ rfl rfl (by with_reducible assumption) Tryz.underlying32 rfl (by kernel_rfl) ?_) | (refine wpList_load_blk (by rfl) 75 _ rfl rfl (by with_reducible assumption) Tryz.underlying75 rfl (by kernel_rfl) ?_)); refine (hm2 _ (hM.ext HE.out) _).mono ?_; rintro e w' ⟨A2, c2, rfl, hM2, ho, hE⟩; replace hb := hb.ext hE; replace hc := hc.ext hE; replace hd := hd.ext hE; replace hz := hz.ext hE; replace h1 := h1.ext hE; replace h2 := h2.ext hE; replace h3 := h3.ext hE; (replace HE := Lib.hid (HE.out.trans hE))
      have hO := ho w.heap.size _ (Nat.le_refl _) (hM.out _)
      clear h2c hd2
      have hbk := hb
      have h1k := h1.apart (show w5.heap.size ≠ w.heap.size by omega) #[.int .u64 (S : Int), .slice A2 (markL L f.at' d).length c2]
      have key := (hb).row (#[.int .u64 (S : Int), .slice A2 (markL L f.at' d).length c2]); clear hb; replace hc := Blk.apart hc (show _ ≠ w.heap.size by omega) (#[.int .u64 (S : Int), .slice A2 (markL L f.at' d).length c2]); replace hd := Blk.apart hd (show _ ≠ w.heap.size by omega) (#[.int .u64 (S : Int), .slice A2 (markL L f.at' d).length c2]); replace hz := Blk.apart hz (show _ ≠ w.heap.size by omega) (#[.int .u64 (S : Int), .slice A2 (markL L f.at' d).length c2]); replace h1 := Blk.apart h1 (show _ ≠ w.heap.size by omega) (#[.int .u64 (S : Int), .slice A2 (markL L f.at' d).length c2]); replace h2 := Blk.apart h2 (show _ ≠ w.heap.size by omega) (#[.int .u64 (S : Int), .slice A2 (markL L f.at' d).length c2]); replace h3 := Blk.apart h3 (show _ ≠ w.heap.size by omega) (#[.int .u64 (S : Int), .slice A2 (markL L f.at' d).length c2]); have hb := key; clear key; replace HE := Lib.hid (HE.out.row (show _ ≤ w.heap.size by omega) (#[.int .u64 (S : Int), .slice A2 (markL L f.at' d).length c2]))
      have key := (h1).row (lfC { f with pt := usedP f.pt d }); clear h1; replace hb := Blk.apart hb (show _ ≠ w5.heap.size by omega) (lfC { f with pt := usedP f.pt d }); replace hc := Blk.apart hc (show _ ≠ w5.heap.size by omega) (lfC { f with pt := usedP f.pt d }); replace hd := Blk.apart hd (show _ ≠ w5.heap.size by omega) (lfC { f with pt := usedP f.pt d }); replace hz := Blk.apart hz (show _ ≠ w5.heap.size by omega) (lfC { f with pt := usedP f.pt d }); replace h2 := Blk.apart h2 (show _ ≠ w5.heap.size by omega) (lfC { f with pt := usedP f.pt d }); replace h3 := Blk.apart h3 (show _ ≠ w5.heap.size by omega) (lfC { f with pt := usedP f.pt d }); have h1 := key; clear key; replace HE := Lib.hid (HE.out.row (show _ ≤ w5.heap.size by omega) (lfC { f with pt := usedP f.pt d }))
      go_wp2_with (first | (refine wpList_store_row rfl 32 _ _ rfl _ _ rfl rfl _ _ hbk (by kernel_rfl) (by rfl) (by simp [Value.oneCell']) ?_) | (refine wpList_store_row rfl 75 _ _ rfl _ (lfC _) rfl rfl _ _ h1k (lf_info _) (by simp [lfC_size]) (lfC_one _) ?_))
      have hM4 := (hM2.row' hO (Nat.le_refl _) hq2 #[.int .u64 (S : Int), .slice A2 (markL L f.at' d).length c2]).row' hO (show w.heap.size ≤ w5.heap.size by omega) hq1 (lfC { f with pt := usedP f.pt d })
      clear hbk h1k hM2 hE
      generalize (w'.setRow w.heap.size #[.int .u64 (S : Int), .slice A2 (markL L f.at' d).length c2]).setRow w5.heap.size (lfC { f with pt := usedP f.pt d }) = X2 at hb hc hd hz h1 h2 h3 HE hM4 ⊢
      replace hb := Blk.drew hb; replace hc := Blk.drew hc; replace hd := Blk.drew hd; replace hz := Blk.drew hz; replace h1 := Blk.drew h1; replace h2 := Blk.drew h2; replace h3 := Blk.drew h3; replace HE := Lib.hid HE.out.drew
      refine wp_region_seq [(0, false), (1, false), (2, false), (3, true), (4, true), (5, true)] (Gap (w.heap.size + 1 + 1) (w.heap.size + 5)) (by kernel_rfl) (by kernel_rfl) (Gap.refl _ _) (fun _ _ _ => Gap.trans) ?_; simp only [List.map, nth_z, nth_s]
      refine seq_load rfl rfl (fun x hx => Gap.blk hx (hb) (by omega)) rfl Tryz.underlying32 (by kernel_rfl) (by rfl) ?_; intro K hK; simp only [Act.put, List.setIfInBounds_toArray, List.set_cons_zero, List.set_cons_succ]; refine hK _ ?_; clear hK K
      refine seq_load rfl rfl (fun x hx => Gap.blk hx (h1) (by omega)) rfl Tryz.underlying75 (lf_info _) (by rfl) ?_; intro K hK; simp only [Act.put, List.setIfInBounds_toArray, List.set_cons_zero, List.set_cons_succ]; refine hK _ ?_; clear hK K
      refine seq_build_as rfl (ft_build0) (by rfl) ?_; intro K hK; simp only [Act.put, List.setIfInBounds_toArray, List.set_cons_zero, List.set_cons_succ]; refine hK _ ?_; clear hK K
      refine seq_store_row rfl rfl rfl (hc) (by kernel_rfl) (by rfl) (by simp [Value.oneCell']) (by rfl) (Gap.row _ (by omega) (by omega) _) ?_; intro K hK; simp only [Act.put]; refine hK _ _ ?_; clear hK K
      refine seq_store_row rfl rfl rfl ((hd.apart (by omega) _)) (lf_info _) (by simp [lfC_size]) (lfC_one _) (by rfl) (Gap.row _ (by omega) (by omega) _) ?_; intro K hK; simp only [Act.put]; refine hK _ _ ?_; clear hK K
      refine seq_store_row rfl rfl rfl (((hz.apart (by omega) _).apart (by omega) _)) (ft_info _) (by simp [ftC_size]) (ftC_one _) (by rfl) (Gap.row _ (by omega) (by omega) _) ?_; intro K hK; simp only [Act.put]; refine hK _ _ ?_; clear hK K
      refine seq_done ?_
      go_wp2
      refine bodyPost_ret (results_ccc rfl _ _ rfl rfl rfl ((((hc.row _).apart (by omega) _).apart (by omega) _)) ((((hd.apart (by omega) _).row _).apart (by omega) _)) ((((hz.apart (by omega) _).apart (by omega) _).row _)) Tryz.underlying32 rfl (by kernel_rfl) Tryz.underlying75 rfl (by exact lf_info _) Tryz.underlying54 rfl (by exact ft_info _)) rfl ?_
      refine ⟨A2, c2, by rw [H.out.1, H.out.2.1, H.out.2.2, HKD.out.2, HD.out, flt_zero], ?_, fun lo hi hh h0 => by rw [H.out.2.1, HKD.out.2, HD.out]; exact ho lo hi (by omega) h0, ((HE.out.row (by omega) _).row (by omega) _).row (by omega) _⟩
      rw [H.out.2.1, HKD.out.2, HD.out]
      exact ((((hM4.ext (Ext.refl _).drew).row' hO (by omega) (by omega) _).row' hO (by omega) (by omega) _).row' hO (by omega) (by omega) _)
end Go.Proofs.YtlhoedpencmikaaGreatDoor
