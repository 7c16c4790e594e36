/- Package walk: what each function answers. -/
import Derived.Test.YthplkhkclhpobaaDoorMem
import Derived.Test.YthplkhkclhpobaaDoorMten
import Derived.Test.YthplkhkclhpobaaDoorGpte
import Derived.Test.YthplkhkclhpobaaDoorCnine
import Derived.Test.YthplkhkclhpobaaDoorCeigb
namespace Go.Proofs.YthplkhkclhpobaaDoor
open Go.ChangeShapes Go.WideShapes Go.ChangeAt Go.RowKit
set_option linter.unusedVariables false
set_option linter.unusedSimpArgs false
set_option maxRecDepth 10000

/-- the tables of the packages va and cause lie in their variables -/
def Lay (w : World) : Prop := Siz w ∧ Tabs w
theorem Lay.ext {w w' : World} (h : Lay w) (hE : Ext w w') : Lay w' := ⟨h.1.ext hE, h.2.ext hE⟩

theorem place_c (t a l : Nat) (ht : t < 17592186044416) (a1 : a < 18446744073709551616) (l2 : l ≤ 2) (w : World) :
    Calls Tryd.prog 31 #[.int .u64 (t : Int), .int .u64 (a : Int), .int .i64 (l : Int)] w fun e w' => e = .returned (.int .u64 ((placeN t a l : Nat) : Int)) ∧ w = w' := by
  have hi := idx_lt (a : Int) (l : Int)
  have he : ((placeN t a l : Nat) : Int) = (t : Int) * 4096 + idxI (a : Int) (l : Int) * 8 := by
    have := idx_cast a (l : Int)
    unfold placeN; omega
  rw [he]
  have hx := fun w => index5_c (a : Int) (l : Int) (by omega) (by omega) (by omega) (by omega) w
  generalize idxI (a : Int) (l : Int) = i at hi hx ⊢
  clear he
  go_enter Tryd.func31, Tryd.ntmps31
  go_wp2_with (go_at_call 50; refine (hx _).mono ?_; rintro e w' ⟨rfl, rfl⟩)
  go_ret
  exact ⟨rfl, rfl⟩

theorem used_c (p : Pt) (d : Bool) (w : World) :
    Calls Tryd.prog 43 #[.agg (ptC p), .bool d] w fun e w' => e = .returned (.agg (ptC (usedP p d))) ∧ Ext w w' := by
  have hu : ptC (usedP p d) = #[.bool p.v, .bool p.r, .bool p.w, .bool p.x, .bool p.u, .bool p.g, .bool true, .bool (p.d || d), .int .u64 (p.rs : Int), .int .u64 (p.pp : Int), .int .u64 (p.hi : Int)] := by unfold usedP; rw [ptC_def]
  rw [hu, ptC_eq]
  clear hu
  cases hd : p.d
  · go_enter Tryd.func43, Tryd.ntmps43
    go_wp2
    (try simp only [Exit.inBlock, Exit.then]); refine bodyPost_ret (results_cell_row rfl _ _ _ _ _ _ _ rfl ((blk_at (by simp))) Tryd.underlying29 rfl (by kernel_rfl)) rfl ?_
    exact ⟨rfl, ((Ext.refl w).alloc _).alloc _⟩
  · go_enter Tryd.func43, Tryd.ntmps43
    go_wp2
    (try simp only [Exit.inBlock, Exit.then]); refine bodyPost_ret (results_cell_row rfl _ _ _ _ _ _ _ rfl ((blk_at (by simp))) Tryd.underlying29 rfl (by kernel_rfl)) rfl ?_
    exact ⟨rfl, ((Ext.refl w).alloc _).alloc _⟩

theorem ptC_5 (p : Pt) : (ptC p)[5]? = some (.bool p.g) := by rw [ptC_eq]; rfl
theorem lfC_zero : lfC zLf = #[.int .i64 0, .int .u64 0, .bool false, .bool false, .bool false, .bool false, .bool false, .bool false, .bool false, .bool false, .int .u64 0, .int .u64 0, .int .u64 0] := by
  unfold zLf zPt; rw [lfC_def, ptC_def]; kernel_rfl
theorem ptC_set5 (p : Pt) (b : Bool) : (ptC p).setIfInBounds 5 (.bool b) = ptC (globP p b) := by unfold globP; simp only [ptC_eq]; rfl
theorem ptC_9 (p : Pt) : (ptC p)[9]? = some (.int .u64 (p.pp : Int)) := by rw [ptC_eq]; rfl
def zFt : Ft := ⟨false, 0, 0⟩
theorem ftC_z : ftC zFt = #[.bool false, .int .i64 0, .int .u64 0] := by unfold zFt; rw [ftC_def]; rfl
theorem flt_zero (kd a : Nat) : fltF 0 kd a = zFt := by unfold fltF; rw [if_pos rfl]; rfl
theorem flt_page (kd a : Nat) : fltF 2 kd a = ⟨true, cauI (6 + kd), a⟩ := by unfold fltF; rw [if_neg (by decide)]
theorem flt_access (kd a : Nat) : fltF 1 kd a = ⟨true, cauI (3 + kd), a⟩ := by unfold fltF; rw [if_neg (by decide)]
theorem look_not {S : Nat} {L : List (Nat × Nat)} {r a : Nat} (h : vaB (a : Int) = false) : lookN S L r a = ⟨2, zLf⟩ := by unfold lookN; rw [h]; rfl
theorem look_yes {S : Nat} {L : List (Nat × Nat)} {r a : Nat} (h : vaB (a : Int) = true) : lookN S L r a = downN S L a 2 r false := by unfold lookN; rw [h]; rfl

set_option maxHeartbeats 4000000 in
theorem look_c {w : World} {S : Nat} {A : Option Addr} {L : List (Nat × Nat)} {c : Nat} (hM : Mem w S A L c) {r a : Nat} (hr : r < 17592186044416) (a1 : a < 18446744073709551616) (kd : Nat) (hk : kd < 3) (hT : Lay w) :
    Calls Tryd.prog 11 #[.agg #[.int .u64 (S : Int), .slice A L.length c], .int .u64 (r : Int), .int .u64 (a : Int), .int .i64 (kd : Int)] w fun e w' =>
      e = .returned (.tuple #[.agg (lfC (lookN S L r a).lf), .agg (ftC (fltF (lookN S L r a).so kd a))]) ∧ Ext w w' := by
  obtain ⟨W0, hW⟩ : ∃ W0, W0 = ((w.alloc (.cells #[.int .u64 (S : Int), .slice A L.length c] 25)).alloc (.cells #[.int .i64 0, .int .u64 0, .bool false, .bool false, .bool false, .bool false, .bool false, .bool false, .bool false, .bool false, .int .u64 0, .int .u64 0, .int .u64 0] 31)).alloc (.cells #[.bool false, .int .i64 0, .int .u64 0] 33) := ⟨_, rfl⟩
  have HE : Hid (Ext w W0) := Lib.hid (by rw [hW]; exact (((Ext.refl w).alloc _).alloc _).alloc _)
  have hb : Blk W0 w.heap.size 25 #[.int .u64 (S : Int), .slice A L.length c] := by rw [hW]; exact ((Blk.new w _ _).alloc _).alloc _
  have hc : Blk W0 (w.heap.size + 1) 31 #[.int .i64 0, .int .u64 0, .bool false, .bool false, .bool false, .bool false, .bool false, .bool false, .bool false, .bool false, .int .u64 0, .int .u64 0, .int .u64 0] := by rw [hW]; exact (blk_at (by simp)).alloc _
  have hd : Blk W0 (w.heap.size + 1 + 1) 33 #[.bool false, .int .i64 0, .int .u64 0] := by rw [hW]; exact blk_at (by simp)
  replace hM := hM.ext HE.out
  have HT := Lib.hid (hT.ext HE.out)
  have hsz : w.heap.size + 3 ≤ W0.heap.size := by rw [hW]; simp
  have HW := Lib.hid hW
  clear hT hW
  have his := is5_c (a : Int) (by omega) (by omega)
  cases hv : vaB (a : Int)
  · have H := Lib.hid (look_not (S := S) (L := L) (r := r) hv)
    have hpg := page9_c kd hk a
    rw [hv] at his
    clear hv
    go_enter Tryd.func11, Tryd.ntmps11
    go_wp2_with fail
    go_step3
    go_wp2_with fail
    refine (his _).mono ?_
    rintro e w' ⟨rfl, rfl⟩
    rw [← HW.out]
    clear HW his
    go_wp2_with fail; refine (hpg _ HT.out.2).mono ?_; rintro e w' ⟨rfl, hE⟩; (try replace hb := hb.ext hE); (try replace hc := hc.ext hE); (try replace hd := hd.ext hE); (try replace h5 := h5.ext hE); (try replace h6 := h6.ext hE); (try replace k5 := k5.ext hE); (try replace k6 := k6.ext hE); (try replace hM := hM.ext hE); (try replace HT := Lib.hid (HT.out.ext hE)); (try replace HE := Lib.hid (HE.out.trans hE)); (try replace HF := Lib.hid (HF.out.trans hE))
    go_wp2_with (first | (refine wpList_store_row rfl 31 _ _ rfl _ _ rfl rfl _ _ hc (by kernel_rfl) (by rfl) (by simp [Value.oneCell']) ?_) | (refine wpList_store_row rfl 33 _ _ rfl _ (ftC _) rfl rfl _ _ (hd.apart (by omega) _) (ft_info _) (by simp [ftC_size]) (ftC_one _) ?_))
    (try simp only [Exit.inBlock, Exit.then]); (try rw [Exit.noGoto_ret]); refine bodyPost_ret (results_cc rfl _ _ rfl rfl (((hc.row _).apart (by omega) _)) (((hd.apart (by omega) _).row _)) Tryd.underlying31 rfl (by first | exact lf_info _ | kernel_rfl) Tryd.underlying33 rfl (by first | exact ft_info _ | kernel_rfl)) rfl ?_
    exact ⟨by rw [H.out, lfC_zero, flt_page], (HE.out.row (by omega) _).row (by omega) _⟩
  · have H := Lib.hid (look_yes (S := S) (L := L) (r := r) hv)
    rw [hv] at his
    clear hv
    go_enter Tryd.func11, Tryd.ntmps11
    go_wp2_with fail
    go_step3
    go_wp2_with fail
    refine (his _).mono ?_
    rintro e w' ⟨rfl, rfl⟩
    rw [← HW.out]
    clear HW his
    go_wp2
    go_step3
    go_wp2
    go_loopw [12, 13, 14] (fun tb gl lv wr => ∃ (n t : Nat) (g : Bool), n ≤ 2 ∧ tb = .int .u64 t ∧ gl = .bool g ∧ lv = .int .i64 n ∧ t < 17592186044416 ∧ Hid (downN S L a 2 r false = downN S L a n t g) ∧ Ext W0 wr ∧
      Blk wr W0.heap.size 31 (lfC zLf) ∧ Blk wr (W0.heap.size + 1) 33 (ftC zFt)) (fun _ _ lv _ => (intOf lv + 1).toNat)
    case atStart => exact ⟨2, r, false, by omega, rfl, rfl, rfl, hr, Lib.hid rfl, ((Ext.refl _).alloc _).alloc _, by rw [lfC_zero]; exact (Blk.new _ _ _).alloc _, by rw [ftC_z]; exact blk_at (by simp)⟩
    case round =>
      obtain ⟨n, t, g, hn, rfl, rfl, rfl, ht, I, hE, h5, h6⟩ := hrel
      have hw0 : W0.heap.size + 2 ≤ wr.heap.size := by have := h6.lt; omega
      have HF := Lib.hid hE
      (try replace hb := hb.ext hE); (try replace hc := hc.ext hE); (try replace hd := hd.ext hE); (try replace h5 := h5.ext hE); (try replace h6 := h6.ext hE); (try replace k5 := k5.ext hE); (try replace k6 := k6.ext hE); (try replace hM := hM.ext hE); (try replace HT := Lib.hid (HT.out.ext hE)); (try replace HE := Lib.hid (HE.out.trans hE))
      clear hE
      have hp8 := place_8 t a (n : Int)
      have hpl := place_lt (a := a) (n : Int) ht
      have hplc := fun w => place_c t a n ht a1 hn w
      have HW8 := Lib.hid (wordL_lt hM.rl (placeN t a (n : Int) / 8))
      have hge : decide ((0 : Int) ≤ (n : Int)) = true := by simp
      have hent := fun w => get_pte (wordL L (placeN t a (n : Int) / 8)) HW8.out w
      rcases down_cases S L a n t g with ⟨hs1, e1⟩ | ⟨hs1, hs2, e1⟩ | ⟨hs1, hs2, hs3, e1⟩ | ⟨hs1, hs2, hs3, k, hk1, e1⟩
      · -- beyond the memory
        have H2 := Lib.hid (H.out.trans (I.out.trans e1))
        have hld := fun w (hM : Mem w S A L c) => load8_out hM (by omega) hp8 hs1
        have hget := get_pte 0 (by decide)
        have hacc := access9_c kd hk a
        clear e1 hs1 hpl hp8 H I
        generalize placeN t a (n : Int) = pl at hplc hld
        go_wp2_with fail
        refine (hplc _).mono ?_
        rintro e w' ⟨rfl, rfl⟩
        clear hplc
        go_wp2_with ((refine wpList_load_blk (by rfl) 25 _ rfl rfl (by with_reducible assumption) Tryd.underlying25 rfl (by kernel_rfl) ?_)); refine (hld _ hM).mono ?_; rintro e w' ⟨rfl, hE⟩; (try replace hb := hb.ext hE); (try replace hc := hc.ext hE); (try replace hd := hd.ext hE); (try replace h5 := h5.ext hE); (try replace h6 := h6.ext hE); (try replace k5 := k5.ext hE); (try replace k6 := k6.ext hE); (try replace hM := hM.ext hE); (try replace HT := Lib.hid (HT.out.ext hE)); (try replace HE := Lib.hid (HE.out.trans hE)); (try replace HF := Lib.hid (HF.out.trans hE))
        clear hE
        go_wp2_with fail; refine (hget _).mono ?_; rintro e w' ⟨rfl, hE⟩; (try replace hb := hb.ext hE); (try replace hc := hc.ext hE); (try replace hd := hd.ext hE); (try replace h5 := h5.ext hE); (try replace h6 := h6.ext hE); (try replace k5 := k5.ext hE); (try replace k6 := k6.ext hE); (try replace hM := hM.ext hE); (try replace HT := Lib.hid (HT.out.ext hE)); (try replace HE := Lib.hid (HE.out.trans hE)); (try replace HF := Lib.hid (HF.out.trans hE))
        clear hE
        generalize getP 0 = p
        have hp5 := ptC_5 p
        have hp := Blk.new w' 29 (ptC p); have hE := (Ext.refl w').alloc (.cells (ptC p) 29); (try replace hb := hb.ext hE); (try replace hc := hc.ext hE); (try replace hd := hd.ext hE); (try replace h5 := h5.ext hE); (try replace h6 := h6.ext hE); (try replace k5 := k5.ext hE); (try replace k6 := k6.ext hE); (try replace hM := hM.ext hE); (try replace HT := Lib.hid (HT.out.ext hE)); (try replace HE := Lib.hid (HE.out.trans hE)); (try replace HF := Lib.hid (HF.out.trans hE)); clear hE
        go_wp2_with (first | (refine wpList_store_new rfl 29 _ _ rfl (ptC _) _ _ rfl rfl (pt_info _) (by simp [ptC_size]) (ptC_one _) ?_) | (refine wpList_load_blk (by rfl) 29 _ rfl rfl (by with_reducible assumption) Tryd.underlying29 rfl (by kernel_rfl) ?_))
        all_goals
          refine (hacc _ HT.out.2).mono ?_
          rintro e w' ⟨rfl, hE⟩
          (try replace hb := hb.ext hE); (try replace hc := hc.ext hE); (try replace hd := hd.ext hE); (try replace h5 := h5.ext hE); (try replace h6 := h6.ext hE); (try replace k5 := k5.ext hE); (try replace k6 := k6.ext hE); (try replace hM := hM.ext hE); (try replace HT := Lib.hid (HT.out.ext hE)); (try replace HE := Lib.hid (HE.out.trans hE)); (try replace HF := Lib.hid (HF.out.trans hE))
          clear hE
          go_wp2_with (refine wpList_store_row rfl 33 _ _ rfl _ (ftC _) rfl rfl _ _ h6 (ft_info _) (by simp [ftC_size]) (ftC_one _) ?_)
          have k5 := h5.apart (show W0.heap.size ≠ W0.heap.size + 1 by omega) (ftC ⟨true, cauI (3 + kd), a⟩)
          have k6 := h6.row (ftC ⟨true, cauI (3 + kd), a⟩)
          have kc := hc.apart (show w.heap.size + 1 ≠ W0.heap.size + 1 by omega) (ftC ⟨true, cauI (3 + kd), a⟩)
          have ke := hd.apart (show w.heap.size + 1 + 1 ≠ W0.heap.size + 1 by omega) (ftC ⟨true, cauI (3 + kd), a⟩)
          have KE := Lib.hid (HE.out.row (show w.heap.size ≤ W0.heap.size + 1 by omega) (ftC ⟨true, cauI (3 + kd), a⟩))
          generalize w'.setRow (W0.heap.size + 1) (ftC ⟨true, cauI (3 + kd), a⟩) = X at k5 k6 kc ke KE ⊢
          refine wp_region_seq [(0, false), (1, false), (2, true), (3, true)] (Gap (w.heap.size + 1) (w.heap.size + 3)) (by kernel_rfl) (by kernel_rfl) (Gap.refl _ _) (fun _ _ _ => Gap.trans) ?_; simp only [List.map, nth_z, nth_s]
          refine seq_load rfl rfl (fun x hx => Gap.blk hx (k5.drew) (by omega)) rfl Tryd.underlying31 (lf_info _) (by rfl) ?_; intro K hK; simp only [Act.put, List.setIfInBounds_toArray, List.set_cons_zero, List.set_cons_succ]; refine hK _ ?_; clear hK K
          refine seq_load rfl rfl (fun x hx => Gap.blk hx (k6.drew) (by omega)) rfl Tryd.underlying33 (ft_info _) (by rfl) ?_; intro K hK; simp only [Act.put, List.setIfInBounds_toArray, List.set_cons_zero, List.set_cons_succ]; refine hK _ ?_; clear hK K
          refine seq_store_row rfl rfl rfl (kc.drew) (lf_info _) (by simp [lfC_size]) (lfC_one _) (by rfl) (Gap.row _ (by omega) (by omega) _) ?_; intro K hK; simp only [Act.put, List.setIfInBounds_toArray, List.set_cons_zero, List.set_cons_succ]; refine hK _ _ ?_; clear hK K
          refine seq_store_row rfl rfl rfl ((ke.drew.apart (by omega) _)) (ft_info _) (by simp [ftC_size]) (ftC_one _) (by rfl) (Gap.row _ (by omega) (by omega) _) ?_; intro K hK; simp only [Act.put, List.setIfInBounds_toArray, List.set_cons_zero, List.set_cons_succ]; refine hK _ _ ?_; clear hK K
          refine seq_done ?_
          go_wp2
          (try simp only [Exit.inBlock, Exit.then]); (try rw [Exit.noGoto_ret]); refine bodyPost_ret (results_cc rfl _ _ rfl rfl (((kc.drew.row _).apart (by omega) _)) (((ke.drew.apart (by omega) _).row _)) Tryd.underlying31 rfl (by first | exact lf_info _ | kernel_rfl) Tryd.underlying33 rfl (by first | exact ft_info _ | kernel_rfl)) rfl ?_
          exact ⟨by rw [H2.out, flt_access], (KE.out.drew.row (by omega) _).row (by omega) _⟩
      · -- bad
        have H2 := Lib.hid (H.out.trans (I.out.trans e1))
        have hpg := page9_c kd hk a
        have hld := fun w (hM : Mem w S A L c) => load8_in hM hp8 hs1
        have hget : ∀ w, Calls Tryd.prog 33 #[.int .u64 ((wordL L (placeN t a (n : Int) / 8) : Nat) : Int)] w fun e w' => e = .returned (.agg (ptC (entN L (placeN t a (n : Int))))) ∧ Ext w w' := by unfold entN; exact hent
        have hpo := ent_hi hM.rl (placeN t a (n : Int))
        have hbad := fun w => bad_c (entN L (placeN t a (n : Int))) hpo (n : Int) (by omega) (by omega) w
        have hleaf := fun w => leaf_c (entN L (placeN t a (n : Int))) w
        have hpp := ent_pp L (placeN t a (n : Int))
        have hp5 := ptC_5 (entN L (placeN t a (n : Int)))
        have hp9 := ptC_9 (entN L (placeN t a (n : Int)))
        rw [hs2] at hbad
        clear H I
        clear e1 hs1 hp8 hs2 hent hpo HW8
        generalize entN L (placeN t a (n : Int)) = p at *
        generalize wordL L (placeN t a (n : Int) / 8) = v at hld hget
        generalize placeN t a (n : Int) = pl at *
        go_wp2_with fail
        refine (hplc _).mono ?_
        rintro e w' ⟨rfl, rfl⟩
        clear hplc
        go_wp2_with ((refine wpList_load_blk (by rfl) 25 _ rfl rfl (by with_reducible assumption) Tryd.underlying25 rfl (by kernel_rfl) ?_)); refine (hld _ hM).mono ?_; rintro e w' ⟨rfl, hE⟩; (try replace hb := hb.ext hE); (try replace hc := hc.ext hE); (try replace hd := hd.ext hE); (try replace h5 := h5.ext hE); (try replace h6 := h6.ext hE); (try replace k5 := k5.ext hE); (try replace k6 := k6.ext hE); (try replace hM := hM.ext hE); (try replace HT := Lib.hid (HT.out.ext hE)); (try replace HE := Lib.hid (HE.out.trans hE)); (try replace HF := Lib.hid (HF.out.trans hE))
        clear hE
        go_wp2_with fail; refine (hget _).mono ?_; rintro e w' ⟨rfl, hE⟩; (try replace hb := hb.ext hE); (try replace hc := hc.ext hE); (try replace hd := hd.ext hE); (try replace h5 := h5.ext hE); (try replace h6 := h6.ext hE); (try replace k5 := k5.ext hE); (try replace k6 := k6.ext hE); (try replace hM := hM.ext hE); (try replace HT := Lib.hid (HT.out.ext hE)); (try replace HE := Lib.hid (HE.out.trans hE)); (try replace HF := Lib.hid (HF.out.trans hE))
        clear hE
        have hpn : ¬ (W0.heap.size = w'.heap.size) := by have := h6.lt; omega
        have hpm : ¬ (W0.heap.size + 1 = w'.heap.size) := by have := h6.lt; omega
        have hpc : ¬ (w.heap.size + 1 = w'.heap.size) := by have := h6.lt; omega
        have hpd : ¬ (w.heap.size + 1 + 1 = w'.heap.size) := by have := h6.lt; omega
        have hpw : w.heap.size ≤ w'.heap.size := by have := h6.lt; omega
        have hp := Blk.new w' 29 (ptC p); have hE := (Ext.refl w').alloc (.cells (ptC p) 29); (try replace hb := hb.ext hE); (try replace hc := hc.ext hE); (try replace hd := hd.ext hE); (try replace h5 := h5.ext hE); (try replace h6 := h6.ext hE); (try replace k5 := k5.ext hE); (try replace k6 := k6.ext hE); (try replace hM := hM.ext hE); (try replace HT := Lib.hid (HT.out.ext hE)); (try replace HE := Lib.hid (HE.out.trans hE)); (try replace HF := Lib.hid (HF.out.trans hE)); clear hE
        go_wp2_with (first | (refine wpList_store_new rfl 29 _ _ rfl (ptC _) _ _ rfl rfl (pt_info _) (by simp [ptC_size]) (ptC_one _) ?_) | (refine wpList_load_blk (by rfl) 29 _ rfl rfl (by with_reducible assumption) Tryd.underlying29 rfl (by kernel_rfl) ?_))
        all_goals
          refine (hbad _ HT.out.1).mono ?_
          rintro e w' ⟨rfl, hE⟩
          replace hp := hp.ext hE
          (try replace hb := hb.ext hE); (try replace hc := hc.ext hE); (try replace hd := hd.ext hE); (try replace h5 := h5.ext hE); (try replace h6 := h6.ext hE); (try replace k5 := k5.ext hE); (try replace k6 := k6.ext hE); (try replace hM := hM.ext hE); (try replace HT := Lib.hid (HT.out.ext hE)); (try replace HE := Lib.hid (HE.out.trans hE)); (try replace HF := Lib.hid (HF.out.trans hE))
          clear hE
          go_wp2_with (refine wpList_load_blk (by rfl) 29 _ rfl rfl (by with_reducible assumption) Tryd.underlying29 rfl (by kernel_rfl) ?_)
          refine (hpg _ HT.out.2).mono ?_
          rintro e w' ⟨rfl, hE⟩
          (try replace hb := hb.ext hE); (try replace hc := hc.ext hE); (try replace hd := hd.ext hE); (try replace h5 := h5.ext hE); (try replace h6 := h6.ext hE); (try replace k5 := k5.ext hE); (try replace k6 := k6.ext hE); (try replace hM := hM.ext hE); (try replace HT := Lib.hid (HT.out.ext hE)); (try replace HE := Lib.hid (HE.out.trans hE)); (try replace HF := Lib.hid (HF.out.trans hE))
          clear hE
          go_wp2_with (refine wpList_store_row rfl 33 _ _ rfl _ (ftC _) rfl rfl _ _ h6 (ft_info _) (by simp [ftC_size]) (ftC_one _) ?_)
          have k5 := h5.apart (show W0.heap.size ≠ W0.heap.size + 1 by omega) (ftC ⟨true, cauI (6 + kd), a⟩)
          have k6 := h6.row (ftC ⟨true, cauI (6 + kd), a⟩)
          have kc := hc.apart (show w.heap.size + 1 ≠ W0.heap.size + 1 by omega) (ftC ⟨true, cauI (6 + kd), a⟩)
          have ke := hd.apart (show w.heap.size + 1 + 1 ≠ W0.heap.size + 1 by omega) (ftC ⟨true, cauI (6 + kd), a⟩)
          have KE := Lib.hid (HE.out.row (show w.heap.size ≤ W0.heap.size + 1 by omega) (ftC ⟨true, cauI (6 + kd), a⟩))
          generalize w'.setRow (W0.heap.size + 1) (ftC ⟨true, cauI (6 + kd), a⟩) = X at k5 k6 kc ke KE ⊢
          refine wp_region_seq [(0, false), (1, false), (2, true), (3, true)] (Gap (w.heap.size + 1) (w.heap.size + 3)) (by kernel_rfl) (by kernel_rfl) (Gap.refl _ _) (fun _ _ _ => Gap.trans) ?_; simp only [List.map, nth_z, nth_s]
          refine seq_load rfl rfl (fun x hx => Gap.blk hx (k5.drew) (by omega)) rfl Tryd.underlying31 (lf_info _) (by rfl) ?_; intro K hK; simp only [Act.put, List.setIfInBounds_toArray, List.set_cons_zero, List.set_cons_succ]; refine hK _ ?_; clear hK K
          refine seq_load rfl rfl (fun x hx => Gap.blk hx (k6.drew) (by omega)) rfl Tryd.underlying33 (ft_info _) (by rfl) ?_; intro K hK; simp only [Act.put, List.setIfInBounds_toArray, List.set_cons_zero, List.set_cons_succ]; refine hK _ ?_; clear hK K
          refine seq_store_row rfl rfl rfl (kc.drew) (lf_info _) (by simp [lfC_size]) (lfC_one _) (by rfl) (Gap.row _ (by omega) (by omega) _) ?_; intro K hK; simp only [Act.put, List.setIfInBounds_toArray, List.set_cons_zero, List.set_cons_succ]; refine hK _ _ ?_; clear hK K
          refine seq_store_row rfl rfl rfl ((ke.drew.apart (by omega) _)) (ft_info _) (by simp [ftC_size]) (ftC_one _) (by rfl) (Gap.row _ (by omega) (by omega) _) ?_; intro K hK; simp only [Act.put, List.setIfInBounds_toArray, List.set_cons_zero, List.set_cons_succ]; refine hK _ _ ?_; clear hK K
          refine seq_done ?_
          go_wp2
          (try simp only [Exit.inBlock, Exit.then]); (try rw [Exit.noGoto_ret]); refine bodyPost_ret (results_cc rfl _ _ rfl rfl (((kc.drew.row _).apart (by omega) _)) (((ke.drew.apart (by omega) _).row _)) Tryd.underlying31 rfl (by first | exact lf_info _ | kernel_rfl) Tryd.underlying33 rfl (by first | exact ft_info _ | kernel_rfl)) rfl ?_
          exact ⟨by rw [H2.out, flt_page], (KE.out.drew.row (by omega) _).row (by omega) _⟩
      · -- a leaf
        have H2 := Lib.hid (H.out.trans (I.out.trans e1))
        have hld := fun w (hM : Mem w S A L c) => load8_in hM hp8 hs1
        have hget : ∀ w, Calls Tryd.prog 33 #[.int .u64 ((wordL L (placeN t a (n : Int) / 8) : Nat) : Int)] w fun e w' => e = .returned (.agg (ptC (entN L (placeN t a (n : Int))))) ∧ Ext w w' := by unfold entN; exact hent
        have hpo := ent_hi hM.rl (placeN t a (n : Int))
        have hbad := fun w => bad_c (entN L (placeN t a (n : Int))) hpo (n : Int) (by omega) (by omega) w
        have hleaf := fun w => leaf_c (entN L (placeN t a (n : Int))) w
        have hpp := ent_pp L (placeN t a (n : Int))
        have hp5 := ptC_5 (entN L (placeN t a (n : Int)))
        have hp9 := ptC_9 (entN L (placeN t a (n : Int)))
        rw [hs2] at hbad
        rw [hs3] at hleaf
        clear H I hs3
        have hbe : ∀ b : Bool, b = (g || (entN L (placeN t a (n : Int))).g) → Hid (lookN S L r a = ⟨0, ⟨(n : Int), placeN t a (n : Int), globP (entN L (placeN t a (n : Int))) b⟩⟩) := fun b hb => Lib.hid (by rw [hb]; exact H2.out)
        clear H2
        cases g
        · have H2 := hbe _ rfl
          clear hbe
          simp only [Bool.false_or] at H2
          clear e1 hs1 hp8 hs2 hent hpo HW8
          generalize entN L (placeN t a (n : Int)) = p at *
          generalize wordL L (placeN t a (n : Int) / 8) = v at hld hget
          generalize placeN t a (n : Int) = pl at *
          go_wp2_with fail
          refine (hplc _).mono ?_
          rintro e w' ⟨rfl, rfl⟩
          clear hplc
          go_wp2_with ((refine wpList_load_blk (by rfl) 25 _ rfl rfl (by with_reducible assumption) Tryd.underlying25 rfl (by kernel_rfl) ?_)); refine (hld _ hM).mono ?_; rintro e w' ⟨rfl, hE⟩; (try replace hb := hb.ext hE); (try replace hc := hc.ext hE); (try replace hd := hd.ext hE); (try replace h5 := h5.ext hE); (try replace h6 := h6.ext hE); (try replace k5 := k5.ext hE); (try replace k6 := k6.ext hE); (try replace hM := hM.ext hE); (try replace HT := Lib.hid (HT.out.ext hE)); (try replace HE := Lib.hid (HE.out.trans hE)); (try replace HF := Lib.hid (HF.out.trans hE))
          clear hE
          go_wp2_with fail; refine (hget _).mono ?_; rintro e w' ⟨rfl, hE⟩; (try replace hb := hb.ext hE); (try replace hc := hc.ext hE); (try replace hd := hd.ext hE); (try replace h5 := h5.ext hE); (try replace h6 := h6.ext hE); (try replace k5 := k5.ext hE); (try replace k6 := k6.ext hE); (try replace hM := hM.ext hE); (try replace HT := Lib.hid (HT.out.ext hE)); (try replace HE := Lib.hid (HE.out.trans hE)); (try replace HF := Lib.hid (HF.out.trans hE))
          clear hE
          have hpn : ¬ (W0.heap.size = w'.heap.size) := by have := h6.lt; omega
          have hpm : ¬ (W0.heap.size + 1 = w'.heap.size) := by have := h6.lt; omega
          have hpc : ¬ (w.heap.size + 1 = w'.heap.size) := by have := h6.lt; omega
          have hpd : ¬ (w.heap.size + 1 + 1 = w'.heap.size) := by have := h6.lt; omega
          have hpw : w.heap.size ≤ w'.heap.size := by have := h6.lt; omega
          have hp := Blk.new w' 29 (ptC p); have hE := (Ext.refl w').alloc (.cells (ptC p) 29); (try replace hb := hb.ext hE); (try replace hc := hc.ext hE); (try replace hd := hd.ext hE); (try replace h5 := h5.ext hE); (try replace h6 := h6.ext hE); (try replace k5 := k5.ext hE); (try replace k6 := k6.ext hE); (try replace hM := hM.ext hE); (try replace HT := Lib.hid (HT.out.ext hE)); (try replace HE := Lib.hid (HE.out.trans hE)); (try replace HF := Lib.hid (HF.out.trans hE)); clear hE
          go_wp2_with (first | (refine wpList_store_new rfl 29 _ _ rfl (ptC _) _ _ rfl rfl (pt_info _) (by simp [ptC_size]) (ptC_one _) ?_) | (refine wpList_load_blk (by rfl) 29 _ rfl rfl (by with_reducible assumption) Tryd.underlying29 rfl (by kernel_rfl) ?_))
          refine (hbad _ HT.out.1).mono ?_
          rintro e w' ⟨rfl, hE⟩
          replace hp := hp.ext hE
          (try replace hb := hb.ext hE); (try replace hc := hc.ext hE); (try replace hd := hd.ext hE); (try replace h5 := h5.ext hE); (try replace h6 := h6.ext hE); (try replace k5 := k5.ext hE); (try replace k6 := k6.ext hE); (try replace hM := hM.ext hE); (try replace HT := Lib.hid (HT.out.ext hE)); (try replace HE := Lib.hid (HE.out.trans hE)); (try replace HF := Lib.hid (HF.out.trans hE))
          clear hE
          go_wp2_with (refine wpList_load_blk (by rfl) 29 _ rfl rfl (by with_reducible assumption) Tryd.underlying29 rfl (by kernel_rfl) ?_)
          refine (hleaf _).mono ?_
          rintro e w' ⟨rfl, hE⟩
          replace hp := hp.ext hE
          (try replace hb := hb.ext hE); (try replace hc := hc.ext hE); (try replace hd := hd.ext hE); (try replace h5 := h5.ext hE); (try replace h6 := h6.ext hE); (try replace k5 := k5.ext hE); (try replace k6 := k6.ext hE); (try replace hM := hM.ext hE); (try replace HT := Lib.hid (HT.out.ext hE)); (try replace HE := Lib.hid (HE.out.trans hE)); (try replace HF := Lib.hid (HF.out.trans hE))
          clear hE
          have q1 := hp.row (ptC (globP p p.g))
          have r1 := h5.apart (show W0.heap.size ≠ _ by exact hpn) (ptC (globP p p.g))
          go_wp2_with (first | (refine wpList_store_cell rfl 4 _ _ rfl rfl rfl hp (by simp [ptC_size]) (ptC_set5 p _) (by kernel_rfl) rfl rfl ?_) | (refine wpList_load_blk (by rfl) 29 _ rfl rfl (by with_reducible assumption) Tryd.underlying29 rfl (by kernel_rfl) ?_) | (refine wpList_build_as (by rfl) rfl (lf_build ⟨(n : Int), pl, _⟩) ?_) | (refine wpList_store_row rfl 31 _ _ rfl _ (lfC _) rfl rfl _ _ (by assumption) (lf_info _) (by simp [lfC_size]) (lfC_one _) ?_))
          have k5 := r1.row (lfC ⟨(n : Int), pl, globP p p.g⟩)
          have k6 := (h6.apart (show W0.heap.size + 1 ≠ _ by exact hpm) (ptC (globP p p.g))).apart (show W0.heap.size + 1 ≠ W0.heap.size by omega) (lfC ⟨(n : Int), pl, globP p p.g⟩)
          have kc := (hc.apart (show w.heap.size + 1 ≠ _ by exact hpc) (ptC (globP p p.g))).apart (show w.heap.size + 1 ≠ W0.heap.size by omega) (lfC ⟨(n : Int), pl, globP p p.g⟩)
          have ke := (hd.apart (show w.heap.size + 1 + 1 ≠ _ by exact hpd) (ptC (globP p p.g))).apart (show w.heap.size + 1 + 1 ≠ W0.heap.size by omega) (lfC ⟨(n : Int), pl, globP p p.g⟩)
          have KE := Lib.hid ((HE.out.row (show w.heap.size ≤ _ by exact hpw) (ptC (globP p p.g))).row (show w.heap.size ≤ W0.heap.size by omega) (lfC ⟨(n : Int), pl, globP p p.g⟩))
          generalize (w'.setRow _ (ptC (globP p p.g))).setRow W0.heap.size (lfC ⟨(n : Int), pl, globP p p.g⟩) = X at k5 k6 kc ke KE ⊢
          refine wp_region_seq [(0, false), (1, false), (2, true), (3, true)] (Gap (w.heap.size + 1) (w.heap.size + 3)) (by kernel_rfl) (by kernel_rfl) (Gap.refl _ _) (fun _ _ _ => Gap.trans) ?_; simp only [List.map, nth_z, nth_s]
          refine seq_load rfl rfl (fun x hx => Gap.blk hx (k5.drew) (by omega)) rfl Tryd.underlying31 (lf_info _) (by rfl) ?_; intro K hK; simp only [Act.put, List.setIfInBounds_toArray, List.set_cons_zero, List.set_cons_succ]; refine hK _ ?_; clear hK K
          refine seq_load rfl rfl (fun x hx => Gap.blk hx (k6.drew) (by omega)) rfl Tryd.underlying33 (ft_info _) (by rfl) ?_; intro K hK; simp only [Act.put, List.setIfInBounds_toArray, List.set_cons_zero, List.set_cons_succ]; refine hK _ ?_; clear hK K
          refine seq_store_row rfl rfl rfl (kc.drew) (lf_info _) (by simp [lfC_size]) (lfC_one _) (by rfl) (Gap.row _ (by omega) (by omega) _) ?_; intro K hK; simp only [Act.put, List.setIfInBounds_toArray, List.set_cons_zero, List.set_cons_succ]; refine hK _ _ ?_; clear hK K
          refine seq_store_row rfl rfl rfl ((ke.drew.apart (by omega) _)) (ft_info _) (by simp [ftC_size]) (ftC_one _) (by rfl) (Gap.row _ (by omega) (by omega) _) ?_; intro K hK; simp only [Act.put, List.setIfInBounds_toArray, List.set_cons_zero, List.set_cons_succ]; refine hK _ _ ?_; clear hK K
          refine seq_done ?_
          go_wp2
          (try simp only [Exit.inBlock, Exit.then]); (try rw [Exit.noGoto_ret]); refine bodyPost_ret (results_cc rfl _ _ rfl rfl (((kc.drew.row _).apart (by omega) _)) (((ke.drew.apart (by omega) _).row _)) Tryd.underlying31 rfl (by first | exact lf_info _ | kernel_rfl) Tryd.underlying33 rfl (by first | exact ft_info _ | kernel_rfl)) rfl ?_
          exact ⟨by rw [H2.out, flt_zero], (KE.out.drew.row (by omega) _).row (by omega) _⟩
        · have H2 := hbe _ rfl
          clear hbe
          simp only [Bool.true_or] at H2
          clear e1 hs1 hp8 hs2 hent hpo HW8
          generalize entN L (placeN t a (n : Int)) = p at *
          generalize wordL L (placeN t a (n : Int) / 8) = v at hld hget
          generalize placeN t a (n : Int) = pl at *
          go_wp2_with fail
          refine (hplc _).mono ?_
          rintro e w' ⟨rfl, rfl⟩
          clear hplc
          go_wp2_with ((refine wpList_load_blk (by rfl) 25 _ rfl rfl (by with_reducible assumption) Tryd.underlying25 rfl (by kernel_rfl) ?_)); refine (hld _ hM).mono ?_; rintro e w' ⟨rfl, hE⟩; (try replace hb := hb.ext hE); (try replace hc := hc.ext hE); (try replace hd := hd.ext hE); (try replace h5 := h5.ext hE); (try replace h6 := h6.ext hE); (try replace k5 := k5.ext hE); (try replace k6 := k6.ext hE); (try replace hM := hM.ext hE); (try replace HT := Lib.hid (HT.out.ext hE)); (try replace HE := Lib.hid (HE.out.trans hE)); (try replace HF := Lib.hid (HF.out.trans hE))
          clear hE
          go_wp2_with fail; refine (hget _).mono ?_; rintro e w' ⟨rfl, hE⟩; (try replace hb := hb.ext hE); (try replace hc := hc.ext hE); (try replace hd := hd.ext hE); (try replace h5 := h5.ext hE); (try replace h6 := h6.ext hE); (try replace k5 := k5.ext hE); (try replace k6 := k6.ext hE); (try replace hM := hM.ext hE); (try replace HT := Lib.hid (HT.out.ext hE)); (try replace HE := Lib.hid (HE.out.trans hE)); (try replace HF := Lib.hid (HF.out.trans hE))
          clear hE
          have hpn : ¬ (W0.heap.size = w'.heap.size) := by have := h6.lt; omega
          have hpm : ¬ (W0.heap.size + 1 = w'.heap.size) := by have := h6.lt; omega
          have hpc : ¬ (w.heap.size + 1 = w'.heap.size) := by have := h6.lt; omega
          have hpd : ¬ (w.heap.size + 1 + 1 = w'.heap.size) := by have := h6.lt; omega
          have hpw : w.heap.size ≤ w'.heap.size := by have := h6.lt; omega
          have hp := Blk.new w' 29 (ptC p); have hE := (Ext.refl w').alloc (.cells (ptC p) 29); (try replace hb := hb.ext hE); (try replace hc := hc.ext hE); (try replace hd := hd.ext hE); (try replace h5 := h5.ext hE); (try replace h6 := h6.ext hE); (try replace k5 := k5.ext hE); (try replace k6 := k6.ext hE); (try replace hM := hM.ext hE); (try replace HT := Lib.hid (HT.out.ext hE)); (try replace HE := Lib.hid (HE.out.trans hE)); (try replace HF := Lib.hid (HF.out.trans hE)); clear hE
          go_wp2_with (first | (refine wpList_store_new rfl 29 _ _ rfl (ptC _) _ _ rfl rfl (pt_info _) (by simp [ptC_size]) (ptC_one _) ?_) | (refine wpList_load_blk (by rfl) 29 _ rfl rfl (by with_reducible assumption) Tryd.underlying29 rfl (by kernel_rfl) ?_))
          refine (hbad _ HT.out.1).mono ?_
          rintro e w' ⟨rfl, hE⟩
          replace hp := hp.ext hE
          (try replace hb := hb.ext hE); (try replace hc := hc.ext hE); (try replace hd := hd.ext hE); (try replace h5 := h5.ext hE); (try replace h6 := h6.ext hE); (try replace k5 := k5.ext hE); (try replace k6 := k6.ext hE); (try replace hM := hM.ext hE); (try replace HT := Lib.hid (HT.out.ext hE)); (try replace HE := Lib.hid (HE.out.trans hE)); (try replace HF := Lib.hid (HF.out.trans hE))
          clear hE
          go_wp2_with (refine wpList_load_blk (by rfl) 29 _ rfl rfl (by with_reducible assumption) Tryd.underlying29 rfl (by kernel_rfl) ?_)
          refine (hleaf _).mono ?_
          rintro e w' ⟨rfl, hE⟩
          replace hp := hp.ext hE
          (try replace hb := hb.ext hE); (try replace hc := hc.ext hE); (try replace hd := hd.ext hE); (try replace h5 := h5.ext hE); (try replace h6 := h6.ext hE); (try replace k5 := k5.ext hE); (try replace k6 := k6.ext hE); (try replace hM := hM.ext hE); (try replace HT := Lib.hid (HT.out.ext hE)); (try replace HE := Lib.hid (HE.out.trans hE)); (try replace HF := Lib.hid (HF.out.trans hE))
          clear hE
          have q1 := hp.row (ptC (globP p true))
          have r1 := h5.apart (show W0.heap.size ≠ _ by exact hpn) (ptC (globP p true))
          go_wp2_with (first | (refine wpList_store_cell rfl 4 _ _ rfl rfl rfl hp (by simp [ptC_size]) (ptC_set5 p _) (by kernel_rfl) rfl rfl ?_) | (refine wpList_load_blk (by rfl) 29 _ rfl rfl (by with_reducible assumption) Tryd.underlying29 rfl (by kernel_rfl) ?_) | (refine wpList_build_as (by rfl) rfl (lf_build ⟨(n : Int), pl, _⟩) ?_) | (refine wpList_store_row rfl 31 _ _ rfl _ (lfC _) rfl rfl _ _ (by assumption) (lf_info _) (by simp [lfC_size]) (lfC_one _) ?_))
          have k5 := r1.row (lfC ⟨(n : Int), pl, globP p true⟩)
          have k6 := (h6.apart (show W0.heap.size + 1 ≠ _ by exact hpm) (ptC (globP p true))).apart (show W0.heap.size + 1 ≠ W0.heap.size by omega) (lfC ⟨(n : Int), pl, globP p true⟩)
          have kc := (hc.apart (show w.heap.size + 1 ≠ _ by exact hpc) (ptC (globP p true))).apart (show w.heap.size + 1 ≠ W0.heap.size by omega) (lfC ⟨(n : Int), pl, globP p true⟩)
          have ke := (hd.apart (show w.heap.size + 1 + 1 ≠ _ by exact hpd) (ptC (globP p true))).apart (show w.heap.size + 1 + 1 ≠ W0.heap.size by omega) (lfC ⟨(n : Int), pl, globP p true⟩)
          have KE := Lib.hid ((HE.out.row (show w.heap.size ≤ _ by exact hpw) (ptC (globP p true))).row (show w.heap.size ≤ W0.heap.size by omega) (lfC ⟨(n : Int), pl, globP p true⟩))
          generalize (w'.setRow _ (ptC (globP p true))).setRow W0.heap.size (lfC ⟨(n : Int), pl, globP p true⟩) = X at k5 k6 kc ke KE ⊢
          refine wp_region_seq [(0, false), (1, false), (2, true), (3, true)] (Gap (w.heap.size + 1) (w.heap.size + 3)) (by kernel_rfl) (by kernel_rfl) (Gap.refl _ _) (fun _ _ _ => Gap.trans) ?_; simp only [List.map, nth_z, nth_s]
          refine seq_load rfl rfl (fun x hx => Gap.blk hx (k5.drew) (by omega)) rfl Tryd.underlying31 (lf_info _) (by rfl) ?_; intro K hK; simp only [Act.put, List.setIfInBounds_toArray, List.set_cons_zero, List.set_cons_succ]; refine hK _ ?_; clear hK K
          refine seq_load rfl rfl (fun x hx => Gap.blk hx (k6.drew) (by omega)) rfl Tryd.underlying33 (ft_info _) (by rfl) ?_; intro K hK; simp only [Act.put, List.setIfInBounds_toArray, List.set_cons_zero, List.set_cons_succ]; refine hK _ ?_; clear hK K
          refine seq_store_row rfl rfl rfl (kc.drew) (lf_info _) (by simp [lfC_size]) (lfC_one _) (by rfl) (Gap.row _ (by omega) (by omega) _) ?_; intro K hK; simp only [Act.put, List.setIfInBounds_toArray, List.set_cons_zero, List.set_cons_succ]; refine hK _ _ ?_; clear hK K
          refine seq_store_row rfl rfl rfl ((ke.drew.apart (by omega) _)) (ft_info _) (by simp [ftC_size]) (ftC_one _) (by rfl) (Gap.row _ (by omega) (by omega) _) ?_; intro K hK; simp only [Act.put, List.setIfInBounds_toArray, List.set_cons_zero, List.set_cons_succ]; refine hK _ _ ?_; clear hK K
          refine seq_done ?_
          go_wp2
          (try simp only [Exit.inBlock, Exit.then]); (try rw [Exit.noGoto_ret]); refine bodyPost_ret (results_cc rfl _ _ rfl rfl (((kc.drew.row _).apart (by omega) _)) (((ke.drew.apart (by omega) _).row _)) Tryd.underlying31 rfl (by first | exact lf_info _ | kernel_rfl) Tryd.underlying33 rfl (by first | exact ft_info _ | kernel_rfl)) rfl ?_
          exact ⟨by rw [H2.out, flt_zero], (KE.out.drew.row (by omega) _).row (by omega) _⟩
      · -- a link
        have H2 := Lib.hid (I.out.trans e1)
        have HK := Lib.hid hk1
        clear hk1
        have hld := fun w (hM : Mem w S A L c) => load8_in hM hp8 hs1
        have hget : ∀ w, Calls Tryd.prog 33 #[.int .u64 ((wordL L (placeN t a (n : Int) / 8) : Nat) : Int)] w fun e w' => e = .returned (.agg (ptC (entN L (placeN t a (n : Int))))) ∧ Ext w w' := by unfold entN; exact hent
        have hpo := ent_hi hM.rl (placeN t a (n : Int))
        have hbad := fun w => bad_c (entN L (placeN t a (n : Int))) hpo (n : Int) (by omega) (by omega) w
        have hleaf := fun w => leaf_c (entN L (placeN t a (n : Int))) w
        have hpp := ent_pp L (placeN t a (n : Int))
        have hp5 := ptC_5 (entN L (placeN t a (n : Int)))
        have hp9 := ptC_9 (entN L (placeN t a (n : Int)))
        rw [hs2] at hbad
        rw [hs3] at hleaf
        clear I hs3
        cases g
        all_goals
          simp only [Bool.true_or, Bool.false_or] at H2
          clear e1 hs1 hp8 hs2 hent hpo HW8
          generalize entN L (placeN t a (n : Int)) = p at *
          generalize wordL L (placeN t a (n : Int) / 8) = v at hld hget
          generalize placeN t a (n : Int) = pl at *
          go_wp2_with fail
          refine (hplc _).mono ?_
          rintro e w' ⟨rfl, rfl⟩
          clear hplc
          go_wp2_with ((refine wpList_load_blk (by rfl) 25 _ rfl rfl (by with_reducible assumption) Tryd.underlying25 rfl (by kernel_rfl) ?_)); refine (hld _ hM).mono ?_; rintro e w' ⟨rfl, hE⟩; (try replace hb := hb.ext hE); (try replace hc := hc.ext hE); (try replace hd := hd.ext hE); (try replace h5 := h5.ext hE); (try replace h6 := h6.ext hE); (try replace k5 := k5.ext hE); (try replace k6 := k6.ext hE); (try replace hM := hM.ext hE); (try replace HT := Lib.hid (HT.out.ext hE)); (try replace HE := Lib.hid (HE.out.trans hE)); (try replace HF := Lib.hid (HF.out.trans hE))
          clear hE
          go_wp2_with fail; refine (hget _).mono ?_; rintro e w' ⟨rfl, hE⟩; (try replace hb := hb.ext hE); (try replace hc := hc.ext hE); (try replace hd := hd.ext hE); (try replace h5 := h5.ext hE); (try replace h6 := h6.ext hE); (try replace k5 := k5.ext hE); (try replace k6 := k6.ext hE); (try replace hM := hM.ext hE); (try replace HT := Lib.hid (HT.out.ext hE)); (try replace HE := Lib.hid (HE.out.trans hE)); (try replace HF := Lib.hid (HF.out.trans hE))
          clear hE
          have hpn : ¬ (W0.heap.size = w'.heap.size) := by have := h6.lt; omega
          have hpm : ¬ (W0.heap.size + 1 = w'.heap.size) := by have := h6.lt; omega
          have hpc : ¬ (w.heap.size + 1 = w'.heap.size) := by have := h6.lt; omega
          have hpd : ¬ (w.heap.size + 1 + 1 = w'.heap.size) := by have := h6.lt; omega
          have hpw : w.heap.size ≤ w'.heap.size := by have := h6.lt; omega
          have hp := Blk.new w' 29 (ptC p); have hE := (Ext.refl w').alloc (.cells (ptC p) 29); (try replace hb := hb.ext hE); (try replace hc := hc.ext hE); (try replace hd := hd.ext hE); (try replace h5 := h5.ext hE); (try replace h6 := h6.ext hE); (try replace k5 := k5.ext hE); (try replace k6 := k6.ext hE); (try replace hM := hM.ext hE); (try replace HT := Lib.hid (HT.out.ext hE)); (try replace HE := Lib.hid (HE.out.trans hE)); (try replace HF := Lib.hid (HF.out.trans hE)); clear hE
          go_wp2_with (first | (refine wpList_store_new rfl 29 _ _ rfl (ptC _) _ _ rfl rfl (pt_info _) (by simp [ptC_size]) (ptC_one _) ?_) | (refine wpList_load_blk (by rfl) 29 _ rfl rfl (by with_reducible assumption) Tryd.underlying29 rfl (by kernel_rfl) ?_))
          refine (hbad _ HT.out.1).mono ?_
          rintro e w' ⟨rfl, hE⟩
          replace hp := hp.ext hE
          (try replace hb := hb.ext hE); (try replace hc := hc.ext hE); (try replace hd := hd.ext hE); (try replace h5 := h5.ext hE); (try replace h6 := h6.ext hE); (try replace k5 := k5.ext hE); (try replace k6 := k6.ext hE); (try replace hM := hM.ext hE); (try replace HT := Lib.hid (HT.out.ext hE)); (try replace HE := Lib.hid (HE.out.trans hE)); (try replace HF := Lib.hid (HF.out.trans hE))
          clear hE
          go_wp2_with (refine wpList_load_blk (by rfl) 29 _ rfl rfl (by with_reducible assumption) Tryd.underlying29 rfl (by kernel_rfl) ?_)
          refine (hleaf _).mono ?_
          rintro e w' ⟨rfl, hE⟩
          replace hp := hp.ext hE
          (try replace hb := hb.ext hE); (try replace hc := hc.ext hE); (try replace hd := hd.ext hE); (try replace h5 := h5.ext hE); (try replace h6 := h6.ext hE); (try replace k5 := k5.ext hE); (try replace k6 := k6.ext hE); (try replace hM := hM.ext hE); (try replace HT := Lib.hid (HT.out.ext hE)); (try replace HE := Lib.hid (HE.out.trans hE)); (try replace HF := Lib.hid (HF.out.trans hE))
          clear hE
          have hq9 := (hp.cell 9).trans hp9
          go_wp2
          go_roundw
          case rel => exact ⟨k, p.pp, _, by have := HK.out; omega, rfl, rfl, by have := HK.out; subst this; go_num, hpp, Lib.hid H2.out, HF.out, h5, h6⟩
          case measure => simp [intOf]
end Go.Proofs.YthplkhkclhpobaaDoor
