/- Package hart: Agrees. -/
import Derived.Test.YtledkljbegpdpaaGreatDoorGchart
import Derived.Test.YtledkljbegpdpaaGreatDoorRhartb
import Derived.Test.YtledkljbegpdpaaGreatDoorGctlb
namespace Go.Proofs.YtledkljbegpdpaaGreatDoor
open Go.ChangeShapes Go.WideShapes Go.ChangeAt Go.RowKit
set_option linter.unusedVariables false
set_option linter.unusedSimpArgs false
set_option maxRecDepth 10000

theorem ag_lit (S : Nat) (M : List (Nat × Nat)) (r : Nat) (e : En) : agB S M r e = (decide ((lookN S M r (fstN e)).so = 0) && (decide ((lookN S M r (fstN e)).lf.lv = e.l) && (decide ((lookN S M r (fstN e)).lf.pt.pp = e.pp) && ((lookN S M r (fstN e)).lf.pt.a && ((!e.d || (lookN S M r (fstN e)).lf.pt.d) && !pmLess (permP (lookN S M r (fstN e)).lf.pt) e.pm))))) := by unfold agB; rfl
attribute [local irreducible] World.setRow World.alloc Blk
set_option maxHeartbeats 4000000 in
theorem holds16_c (e : En) (he : e.vp < 134217728) (r S : Nat) (B : Option Addr) (K : List (Nat × Nat)) (d : Nat) (hr : r < 17592186044416) (w : World) (hM : Mem w S B K d) (hT : Lay w) :
    Calls Tryz.prog 33 #[.agg (enC e), .int .u64 (r : Int), .agg #[.int .u64 (S : Int), .slice B K.length d]] w fun r' w' => r' = .returned (.bool (agB S K r e)) ∧ Ext w w' := by
  have h1 : Blk ((w.alloc (.cells (enC e) 52)).alloc (.cells #[.int .u64 (S : Int), .slice B K.length d] 32)) w.heap.size 52 (enC e) := (Blk.new w _ _).alloc _
  have h2 : Blk ((w.alloc (.cells (enC e) 52)).alloc (.cells #[.int .u64 (S : Int), .slice B K.length d] 32)) (w.heap.size + 1) 32 #[.int .u64 (S : Int), .slice B K.length d] := blk_at (by simp)
  have HE := Lib.hid (((Ext.refl w).alloc (.cells (enC e) 52)).alloc (.cells #[.int .u64 (S : Int), .slice B K.length d] 32))
  have x4 := (h1.cell 4).trans (enC_vp e)
  have cof := fun w => of5_c (e.vp : Int) (by omega) (by omega) w
  rw [← fst_eq] at cof
  have hfl := fst_lt e
  have clk := fun w (hM : Mem w S B K d) (hT : Lay w) => look_c hM hr (fst_lt e) 1 (by omega) hT
  have hq := ag_lit S K r e
  have hlf : (lookN S K r (fstN e)).so = 0 → 0 ≤ (lookN S K r (fstN e)).lf.lv ∧ (lookN S K r (fstN e)).lf.lv ≤ 2 := fun h => ⟨(look_leaf h).2.l0, (look_leaf h).2.l2⟩
  generalize hZ : lookN S K r (fstN e) = Z at *
  clear hZ
  by_cases hs : Z.so = 0
  case neg =>
    rw [decide_eq_false hs] at hq
    have hb1 : (ftC (fltF Z.so 1 (fstN e)))[0]? = some (.bool true) := by rw [flt_eq hs, ftC_def]; rfl
    generalize Z.lf = Lq at *
    generalize fltF Z.so 1 (fstN e) = Y at *
    generalize fstN e = a at *
    clear hs hlf
    go_enter Tryz.func33, Tryz.ntmps33
    go_wp2_with fail
    generalize (w.alloc (.cells (enC e) 52)).alloc (.cells #[.int .u64 (S : Int), .slice B K.length d] 32) = W1 at *
    refine (calls_ext (cof _)).mono ?_
    rintro r5 w' ⟨rfl, hE⟩
    clear x4
    (try replace h1 := h1.ext hE); (try replace h2 := h2.ext hE); (try replace h3 := h3.ext hE); (try replace h4 := h4.ext hE); (try replace h5 := h5.ext hE); (try replace hM := hM.ext hE); (try replace HE := Lib.hid (HE.out.trans hE)); (try replace r0 := r0.ext hE); (try replace r1 := r1.ext hE); (try replace r2 := r2.ext hE); (try replace r3 := r3.ext hE); (try replace r4 := r4.ext hE); (try replace r5 := r5.ext hE); (try replace r6 := r6.ext hE)
    clear hE cof
    go_wp2_with ((refine wpList_load_blk (by rfl) 32 _ rfl rfl h2 Tryz.underlying32 rfl (by kernel_rfl) ?_)); refine (clk _ (hM.ext HE.out) (hT.ext HE.out)).mono ?_; rintro e w' ⟨rfl, hE⟩; (try replace h1 := h1.ext hE); (try replace h2 := h2.ext hE); (try replace h3 := h3.ext hE); (try replace h4 := h4.ext hE); (try replace h5 := h5.ext hE); (try replace hM := hM.ext hE); (try replace HE := Lib.hid (HE.out.trans hE))
    clear hE clk
    have zz1 : Blk ((w'.alloc (.cells #[.int .i64 0, .int .u64 0, .bool false, .bool false, .bool false, .bool false, .bool false, .bool false, .bool false, .bool false, .int .u64 0, .int .u64 0, .int .u64 0] 68)).alloc (.cells #[.bool false, .int .i64 0, .int .u64 0] 37)) w'.heap.size 68 #[.int .i64 0, .int .u64 0, .bool false, .bool false, .bool false, .bool false, .bool false, .bool false, .bool false, .bool false, .int .u64 0, .int .u64 0, .int .u64 0] := (Blk.new _ _ _).alloc _; have zz2 : Blk (((w'.alloc (.cells #[.int .i64 0, .int .u64 0, .bool false, .bool false, .bool false, .bool false, .bool false, .bool false, .bool false, .bool false, .int .u64 0, .int .u64 0, .int .u64 0] 68)).alloc (.cells #[.bool false, .int .i64 0, .int .u64 0] 37)).setRow w'.heap.size (lfC Lq)) (w'.heap.size + 1) 37 #[.bool false, .int .i64 0, .int .u64 0] := Blk.apart (blk_at (by simp)) (by omega) _; have hE := ((((Ext.refl w').alloc (.cells #[.int .i64 0, .int .u64 0, .bool false, .bool false, .bool false, .bool false, .bool false, .bool false, .bool false, .bool false, .int .u64 0, .int .u64 0, .int .u64 0] 68)).alloc (.cells #[.bool false, .int .i64 0, .int .u64 0] 37)).row (show w'.heap.size ≤ w'.heap.size from Nat.le_refl _) (lfC Lq)).row (show w'.heap.size ≤ w'.heap.size + 1 by omega) (ftC Y); (try replace h1 := h1.ext hE); (try replace h2 := h2.ext hE); (try replace h3 := h3.ext hE); (try replace h4 := h4.ext hE); (try replace h5 := h5.ext hE); (try replace hM := hM.ext hE); (try replace HE := Lib.hid (HE.out.trans hE)); clear hE; have h3 := (zz1.row (lfC Lq)).apart (show w'.heap.size ≠ w'.heap.size + 1 by omega) (ftC Y); have h4 := zz2.row (ftC Y)
    have x4 := (h4.cell 0).trans hb1
    go_wp2_with (first | (refine wpList_store_blk rfl 68 _ _ rfl rfl rfl zz1 (lf_info _) (by simp [lfC_size]) (lfC_one _) ?_) | ((refine wpList_store_blk rfl 37 _ _ rfl rfl rfl zz2 (ft_info _) (by simp [ftC_size]) (ftC_one _) ?_); clear zz1 zz2; generalize (((w'.alloc (.cells #[.int .i64 0, .int .u64 0, .bool false, .bool false, .bool false, .bool false, .bool false, .bool false, .bool false, .bool false, .int .u64 0, .int .u64 0, .int .u64 0] 68)).alloc (.cells #[.bool false, .int .i64 0, .int .u64 0] 37)).setRow w'.heap.size (lfC Lq)).setRow (w'.heap.size + 1) (ftC Y) = X at *) | (refine wpList_load_blk (by rfl) 32 _ rfl rfl (by first | exact h1 | exact h2 | exact h3 | exact h4 | exact h5) Tryz.underlying32 rfl (by kernel_rfl) ?_) | (refine wpList_load_blk (by rfl) 68 _ rfl rfl (by first | exact h1 | exact h2 | exact h3 | exact h4 | exact h5) Tryz.underlying68 rfl (by kernel_rfl) ?_) | (refine wpList_load_blk (by rfl) 37 _ rfl rfl (by first | exact h1 | exact h2 | exact h3 | exact h4 | exact h5) Tryz.underlying37 rfl (by kernel_rfl) ?_) | (refine wpList_load_blk (by rfl) 63 _ rfl rfl (by first | exact h1 | exact h2 | exact h3 | exact h4 | exact h5) Tryz.underlying63 rfl (by kernel_rfl) ?_) | (refine wpList_cmp (op := .eql) (by rfl) 68 rfl rfl rfl (lf_guard) ((fun w => run_b (eql_lf w _ _) (dec_same _))) ?_) | (refine wpList_cmp (op := .neq) (by rfl) 68 rfl rfl rfl (lf_guard) ((fun w => run_b (neq_lf w _ _) (dec_nots _))) ?_) | (refine wpList_cmp (op := .neq) (by rfl) 37 rfl rfl rfl (ft_guard) ((fun w => run_b (neq_ft w _ _) (dec_nots _))) ?_) | (refine wpList_cmp (op := .eql) (by rfl) 37 rfl rfl rfl (ft_guard) ((fun w => run_b (eql_ft w _ _) (dec_same _))) ?_))
    go_ret
    refine ⟨?_, HE.out⟩
    rw [hq]
    first | rfl | simp
  case pos =>
    rw [decide_eq_true hs] at hq
    rw [hs, flt_zero] at clk
    obtain ⟨l0, l2⟩ := hlf hs
    have hb1 : (ftC zFt)[0]? = some (.bool false) := by rw [ftC_z]; rfl
    clear hs hlf
    generalize Z.lf = Lq at *
    generalize zFt = Y at *
    have cen := fun W t => of12_c Lq l0 l2 (fstN e) e.n hfl W t
    have e1 : (ofE Lq (fstN e) e.n).l = Lq.lv := (ofE_v Lq (fstN e) e.n).2.1
    have e2 : (ofE Lq (fstN e) e.n).pp = Lq.pt.pp := (ofE_v Lq (fstN e) e.n).2.2.1
    have e3 := ofE_d Lq (fstN e) e.n
    have e4 := ofE_pm Lq (fstN e) e.n
    have cls := fun W => less8_c (permP Lq.pt) e.pm W
    generalize ofE Lq (fstN e) e.n = t at *
    generalize fstN e = a at *
    cases ha : Lq.pt.a
    · rw [ha] at hq
      go_enter Tryz.func33, Tryz.ntmps33
      go_wp2_with fail
      generalize (w.alloc (.cells (enC e) 52)).alloc (.cells #[.int .u64 (S : Int), .slice B K.length d] 32) = W1 at *
      refine (calls_ext (cof _)).mono ?_
      rintro r5 w' ⟨rfl, hE⟩
      clear x4
      (try replace h1 := h1.ext hE); (try replace h2 := h2.ext hE); (try replace h3 := h3.ext hE); (try replace h4 := h4.ext hE); (try replace h5 := h5.ext hE); (try replace hM := hM.ext hE); (try replace HE := Lib.hid (HE.out.trans hE)); (try replace r0 := r0.ext hE); (try replace r1 := r1.ext hE); (try replace r2 := r2.ext hE); (try replace r3 := r3.ext hE); (try replace r4 := r4.ext hE); (try replace r5 := r5.ext hE); (try replace r6 := r6.ext hE)
      clear hE cof
      go_wp2_with ((refine wpList_load_blk (by rfl) 32 _ rfl rfl h2 Tryz.underlying32 rfl (by kernel_rfl) ?_)); refine (clk _ (hM.ext HE.out) (hT.ext HE.out)).mono ?_; rintro e w' ⟨rfl, hE⟩; (try replace h1 := h1.ext hE); (try replace h2 := h2.ext hE); (try replace h3 := h3.ext hE); (try replace h4 := h4.ext hE); (try replace h5 := h5.ext hE); (try replace hM := hM.ext hE); (try replace HE := Lib.hid (HE.out.trans hE))
      clear hE clk
      have zz1 : Blk ((w'.alloc (.cells #[.int .i64 0, .int .u64 0, .bool false, .bool false, .bool false, .bool false, .bool false, .bool false, .bool false, .bool false, .int .u64 0, .int .u64 0, .int .u64 0] 68)).alloc (.cells #[.bool false, .int .i64 0, .int .u64 0] 37)) w'.heap.size 68 #[.int .i64 0, .int .u64 0, .bool false, .bool false, .bool false, .bool false, .bool false, .bool false, .bool false, .bool false, .int .u64 0, .int .u64 0, .int .u64 0] := (Blk.new _ _ _).alloc _; have zz2 : Blk (((w'.alloc (.cells #[.int .i64 0, .int .u64 0, .bool false, .bool false, .bool false, .bool false, .bool false, .bool false, .bool false, .bool false, .int .u64 0, .int .u64 0, .int .u64 0] 68)).alloc (.cells #[.bool false, .int .i64 0, .int .u64 0] 37)).setRow w'.heap.size (lfC Lq)) (w'.heap.size + 1) 37 #[.bool false, .int .i64 0, .int .u64 0] := Blk.apart (blk_at (by simp)) (by omega) _; have hE := ((((Ext.refl w').alloc (.cells #[.int .i64 0, .int .u64 0, .bool false, .bool false, .bool false, .bool false, .bool false, .bool false, .bool false, .bool false, .int .u64 0, .int .u64 0, .int .u64 0] 68)).alloc (.cells #[.bool false, .int .i64 0, .int .u64 0] 37)).row (show w'.heap.size ≤ w'.heap.size from Nat.le_refl _) (lfC Lq)).row (show w'.heap.size ≤ w'.heap.size + 1 by omega) (ftC Y); (try replace h1 := h1.ext hE); (try replace h2 := h2.ext hE); (try replace h3 := h3.ext hE); (try replace h4 := h4.ext hE); (try replace h5 := h5.ext hE); (try replace hM := hM.ext hE); (try replace HE := Lib.hid (HE.out.trans hE)); clear hE; have h3 := (zz1.row (lfC Lq)).apart (show w'.heap.size ≠ w'.heap.size + 1 by omega) (ftC Y); have h4 := zz2.row (ftC Y)
      have x4 := (h4.cell 0).trans hb1
      have x5 := rng_cell h3.lf_pt 6 (ptC_a Lq.pt)
      rw [ha] at x5
      clear cls cen
      go_wp2_with (first | (refine wpList_store_blk rfl 68 _ _ rfl rfl rfl zz1 (lf_info _) (by simp [lfC_size]) (lfC_one _) ?_) | ((refine wpList_store_blk rfl 37 _ _ rfl rfl rfl zz2 (ft_info _) (by simp [ftC_size]) (ftC_one _) ?_); clear zz1 zz2; generalize (((w'.alloc (.cells #[.int .i64 0, .int .u64 0, .bool false, .bool false, .bool false, .bool false, .bool false, .bool false, .bool false, .bool false, .int .u64 0, .int .u64 0, .int .u64 0] 68)).alloc (.cells #[.bool false, .int .i64 0, .int .u64 0] 37)).setRow w'.heap.size (lfC Lq)).setRow (w'.heap.size + 1) (ftC Y) = X at *) | (refine wpList_load_blk (by rfl) 32 _ rfl rfl (by first | exact h1 | exact h2 | exact h3 | exact h4 | exact h5) Tryz.underlying32 rfl (by kernel_rfl) ?_) | (refine wpList_load_blk (by rfl) 68 _ rfl rfl (by first | exact h1 | exact h2 | exact h3 | exact h4 | exact h5) Tryz.underlying68 rfl (by kernel_rfl) ?_) | (refine wpList_load_blk (by rfl) 37 _ rfl rfl (by first | exact h1 | exact h2 | exact h3 | exact h4 | exact h5) Tryz.underlying37 rfl (by kernel_rfl) ?_) | (refine wpList_load_blk (by rfl) 63 _ rfl rfl (by first | exact h1 | exact h2 | exact h3 | exact h4 | exact h5) Tryz.underlying63 rfl (by kernel_rfl) ?_) | (refine wpList_cmp (op := .eql) (by rfl) 68 rfl rfl rfl (lf_guard) ((fun w => run_b (eql_lf w _ _) (dec_same _))) ?_) | (refine wpList_cmp (op := .neq) (by rfl) 68 rfl rfl rfl (lf_guard) ((fun w => run_b (neq_lf w _ _) (dec_nots _))) ?_) | (refine wpList_cmp (op := .neq) (by rfl) 37 rfl rfl rfl (ft_guard) ((fun w => run_b (neq_ft w _ _) (dec_nots _))) ?_) | (refine wpList_cmp (op := .eql) (by rfl) 37 rfl rfl rfl (ft_guard) ((fun w => run_b (eql_ft w _ _) (dec_same _))) ?_))
      go_ret
      refine ⟨?_, HE.out⟩
      rw [hq]
      first | rfl | simp
    · rw [ha] at hq
      go_enter Tryz.func33, Tryz.ntmps33
      go_wp2_with fail
      generalize (w.alloc (.cells (enC e) 52)).alloc (.cells #[.int .u64 (S : Int), .slice B K.length d] 32) = W1 at *
      refine (calls_ext (cof _)).mono ?_
      rintro r5 w' ⟨rfl, hE⟩
      clear x4
      (try replace h1 := h1.ext hE); (try replace h2 := h2.ext hE); (try replace h3 := h3.ext hE); (try replace h4 := h4.ext hE); (try replace h5 := h5.ext hE); (try replace hM := hM.ext hE); (try replace HE := Lib.hid (HE.out.trans hE)); (try replace r0 := r0.ext hE); (try replace r1 := r1.ext hE); (try replace r2 := r2.ext hE); (try replace r3 := r3.ext hE); (try replace r4 := r4.ext hE); (try replace r5 := r5.ext hE); (try replace r6 := r6.ext hE)
      clear hE cof
      go_wp2_with ((refine wpList_load_blk (by rfl) 32 _ rfl rfl h2 Tryz.underlying32 rfl (by kernel_rfl) ?_)); refine (clk _ (hM.ext HE.out) (hT.ext HE.out)).mono ?_; rintro e w' ⟨rfl, hE⟩; (try replace h1 := h1.ext hE); (try replace h2 := h2.ext hE); (try replace h3 := h3.ext hE); (try replace h4 := h4.ext hE); (try replace h5 := h5.ext hE); (try replace hM := hM.ext hE); (try replace HE := Lib.hid (HE.out.trans hE))
      clear hE clk
      have zz1 : Blk ((w'.alloc (.cells #[.int .i64 0, .int .u64 0, .bool false, .bool false, .bool false, .bool false, .bool false, .bool false, .bool false, .bool false, .int .u64 0, .int .u64 0, .int .u64 0] 68)).alloc (.cells #[.bool false, .int .i64 0, .int .u64 0] 37)) w'.heap.size 68 #[.int .i64 0, .int .u64 0, .bool false, .bool false, .bool false, .bool false, .bool false, .bool false, .bool false, .bool false, .int .u64 0, .int .u64 0, .int .u64 0] := (Blk.new _ _ _).alloc _; have zz2 : Blk (((w'.alloc (.cells #[.int .i64 0, .int .u64 0, .bool false, .bool false, .bool false, .bool false, .bool false, .bool false, .bool false, .bool false, .int .u64 0, .int .u64 0, .int .u64 0] 68)).alloc (.cells #[.bool false, .int .i64 0, .int .u64 0] 37)).setRow w'.heap.size (lfC Lq)) (w'.heap.size + 1) 37 #[.bool false, .int .i64 0, .int .u64 0] := Blk.apart (blk_at (by simp)) (by omega) _; have hE := ((((Ext.refl w').alloc (.cells #[.int .i64 0, .int .u64 0, .bool false, .bool false, .bool false, .bool false, .bool false, .bool false, .bool false, .bool false, .int .u64 0, .int .u64 0, .int .u64 0] 68)).alloc (.cells #[.bool false, .int .i64 0, .int .u64 0] 37)).row (show w'.heap.size ≤ w'.heap.size from Nat.le_refl _) (lfC Lq)).row (show w'.heap.size ≤ w'.heap.size + 1 by omega) (ftC Y); (try replace h1 := h1.ext hE); (try replace h2 := h2.ext hE); (try replace h3 := h3.ext hE); (try replace h4 := h4.ext hE); (try replace h5 := h5.ext hE); (try replace hM := hM.ext hE); (try replace HE := Lib.hid (HE.out.trans hE)); clear hE; have h3 := (zz1.row (lfC Lq)).apart (show w'.heap.size ≠ w'.heap.size + 1 by omega) (ftC Y); have h4 := zz2.row (ftC Y)
      have x4 := (h4.cell 0).trans hb1
      have x5 := rng_cell h3.lf_pt 6 (ptC_a Lq.pt)
      rw [ha] at x5
      have x1 := h1.en_n
      go_wp2_with (first | (refine wpList_store_blk rfl 68 _ _ rfl rfl rfl zz1 (lf_info _) (by simp [lfC_size]) (lfC_one _) ?_) | ((refine wpList_store_blk rfl 37 _ _ rfl rfl rfl zz2 (ft_info _) (by simp [ftC_size]) (ftC_one _) ?_); clear zz1 zz2; generalize (((w'.alloc (.cells #[.int .i64 0, .int .u64 0, .bool false, .bool false, .bool false, .bool false, .bool false, .bool false, .bool false, .bool false, .int .u64 0, .int .u64 0, .int .u64 0] 68)).alloc (.cells #[.bool false, .int .i64 0, .int .u64 0] 37)).setRow w'.heap.size (lfC Lq)).setRow (w'.heap.size + 1) (ftC Y) = X at *) | (refine wpList_load_blk (by rfl) 32 _ rfl rfl (by first | exact h1 | exact h2 | exact h3 | exact h4 | exact h5) Tryz.underlying32 rfl (by kernel_rfl) ?_) | (refine wpList_load_blk (by rfl) 68 _ rfl rfl (by first | exact h1 | exact h2 | exact h3 | exact h4 | exact h5) Tryz.underlying68 rfl (by kernel_rfl) ?_) | (refine wpList_load_blk (by rfl) 37 _ rfl rfl (by first | exact h1 | exact h2 | exact h3 | exact h4 | exact h5) Tryz.underlying37 rfl (by kernel_rfl) ?_) | (refine wpList_load_blk (by rfl) 63 _ rfl rfl (by first | exact h1 | exact h2 | exact h3 | exact h4 | exact h5) Tryz.underlying63 rfl (by kernel_rfl) ?_) | (refine wpList_cmp (op := .eql) (by rfl) 68 rfl rfl rfl (lf_guard) ((fun w => run_b (eql_lf w _ _) (dec_same _))) ?_) | (refine wpList_cmp (op := .neq) (by rfl) 68 rfl rfl rfl (lf_guard) ((fun w => run_b (neq_lf w _ _) (dec_nots _))) ?_) | (refine wpList_cmp (op := .neq) (by rfl) 37 rfl rfl rfl (ft_guard) ((fun w => run_b (neq_ft w _ _) (dec_nots _))) ?_) | (refine wpList_cmp (op := .eql) (by rfl) 37 rfl rfl rfl (ft_guard) ((fun w => run_b (eql_ft w _ _) (dec_same _))) ?_))
      clear x4 x5 x1
      refine (cen _ (hT.ext HE.out).1).mono ?_
      rintro r6 w' ⟨rfl, hE⟩
      (try replace h1 := h1.ext hE); (try replace h2 := h2.ext hE); (try replace h3 := h3.ext hE); (try replace h4 := h4.ext hE); (try replace h5 := h5.ext hE); (try replace hM := hM.ext hE); (try replace HE := Lib.hid (HE.out.trans hE)); (try replace r0 := r0.ext hE); (try replace r1 := r1.ext hE); (try replace r2 := r2.ext hE); (try replace r3 := r3.ext hE); (try replace r4 := r4.ext hE); (try replace r5 := r5.ext hE); (try replace r6 := r6.ext hE)
      clear hE cen h2 h3 h4 ha
      have zz1 : Blk (w'.alloc (.cells #[.bool false, .int .u64 0, .bool false, .int .i64 0, .int .u64 0, .int .u64 0, .bool false, .bool false, .bool false, .bool false, .bool false] 52)) w'.heap.size 52 #[.bool false, .int .u64 0, .bool false, .int .i64 0, .int .u64 0, .int .u64 0, .bool false, .bool false, .bool false, .bool false, .bool false] := Blk.new _ _ _; have hE := ((Ext.refl w').alloc (.cells #[.bool false, .int .u64 0, .bool false, .int .i64 0, .int .u64 0, .int .u64 0, .bool false, .bool false, .bool false, .bool false, .bool false] 52)).row (Nat.le_refl w'.heap.size) (enC t); (try replace h1 := h1.ext hE); (try replace h2 := h2.ext hE); (try replace h3 := h3.ext hE); (try replace h4 := h4.ext hE); (try replace h5 := h5.ext hE); (try replace hM := hM.ext hE); (try replace HE := Lib.hid (HE.out.trans hE)); clear hE; have h5 := zz1.row (enC t)
      have t3 := (h5.cell 3).trans (enC_l t)
      have t5 := (h5.cell 5).trans (enC_pp t)
      have t10 := (h5.cell 10).trans (enC_d t)
      have s3 := (h1.cell 3).trans (enC_l e)
      have s5 := (h1.cell 5).trans (enC_pp e)
      have s10 := (h1.cell 10).trans (enC_d e)
      rw [e1] at t3
      rw [e2] at t5
      rw [e3] at t10
      have hpt := enC_pm t
      rw [e4] at hpt
      generalize permP Lq.pt = Pq at *
      generalize Lq.pt.d = dq at *
      generalize Lq.pt.pp = pq at *
      generalize Lq.lv = lq at *
      go_upto_region 6 with (first | ((refine wpList_store_blk rfl 52 _ _ rfl rfl rfl zz1 (en_info _) (by simp [enC_size]) (enC_one _) ?_); clear zz1; generalize (w'.alloc (.cells #[.bool false, .int .u64 0, .bool false, .int .i64 0, .int .u64 0, .int .u64 0, .bool false, .bool false, .bool false, .bool false, .bool false] 52)).setRow w'.heap.size (enC t) = X at *) | (refine wpList_load_blk (by rfl) 32 _ rfl rfl (by first | exact h1 | exact h2 | exact h3 | exact h4 | exact h5) Tryz.underlying32 rfl (by kernel_rfl) ?_) | (refine wpList_load_blk (by rfl) 68 _ rfl rfl (by first | exact h1 | exact h2 | exact h3 | exact h4 | exact h5) Tryz.underlying68 rfl (by kernel_rfl) ?_) | (refine wpList_load_blk (by rfl) 37 _ rfl rfl (by first | exact h1 | exact h2 | exact h3 | exact h4 | exact h5) Tryz.underlying37 rfl (by kernel_rfl) ?_) | (refine wpList_load_blk (by rfl) 63 _ rfl rfl (by first | exact h1 | exact h2 | exact h3 | exact h4 | exact h5) Tryz.underlying63 rfl (by kernel_rfl) ?_) | (refine wpList_cmp (op := .eql) (by rfl) 68 rfl rfl rfl (lf_guard) ((fun w => run_b (eql_lf w _ _) (dec_same _))) ?_) | (refine wpList_cmp (op := .neq) (by rfl) 68 rfl rfl rfl (lf_guard) ((fun w => run_b (neq_lf w _ _) (dec_nots _))) ?_) | (refine wpList_cmp (op := .neq) (by rfl) 37 rfl rfl rfl (ft_guard) ((fun w => run_b (neq_ft w _ _) (dec_nots _))) ?_) | (refine wpList_cmp (op := .eql) (by rfl) 37 rfl rfl rfl (ft_guard) ((fun w => run_b (eql_ft w _ _) (dec_same _))) ?_))
      simp only [Act.put, List.setIfInBounds_toArray, List.set_cons_zero, List.set_cons_succ]
      by_cases c1 : lq = e.l
      case neg =>
        rw [decide_eq_false c1] at hq
        have d1 : (lq == e.l) = false := by rw [beq_eq_false_iff_ne]; exact c1
        clear cls c1
        go_wp2
        go_ret
        refine ⟨?_, HE.out⟩
        rw [hq]
        first | rfl | simp
      case pos =>
        rw [decide_eq_true c1] at hq
        have d1 : (lq == e.l) = true := by rw [c1]; simp
        by_cases c2 : pq = e.pp
        case neg =>
          rw [decide_eq_false c2] at hq
          have d2 : ((pq : Int) == (e.pp : Int)) = false := by rw [beq_eq_false_iff_ne]; omega
          clear cls c1 c2
          go_wp2
          go_ret
          refine ⟨?_, HE.out⟩
          rw [hq]
          first | rfl | simp
        case pos =>
          rw [decide_eq_true c2] at hq
          have d2 : ((pq : Int) == (e.pp : Int)) = true := by rw [c2]; simp
          clear c1 c2
          have hpe := enC_pm e
          generalize e.d = de at *
          generalize e.pm = pe at *
          generalize pmLess Pq pe = PL at *
          cases dq
          · cases de
            · skip
              go_wp2_with (first | (refine wpList_load_part (by rfl) 50 _ rfl rfl h5 (hpt) Tryz.underlying50 rfl (pm_info _) ?_) | (refine wpList_load_part (by rfl) 50 _ rfl rfl h1 (hpe) Tryz.underlying50 rfl (pm_info _) ?_))
              refine (cls _).mono ?_
              rintro r7 w7 ⟨rfl, hE⟩
              replace HE := Lib.hid (HE.out.trans hE)
              clear hE
              go_wp2
              go_ret
              refine ⟨?_, HE.out⟩
              rw [hq]
              first | rfl | simp
            · clear cls
              go_wp2
              go_ret
              refine ⟨?_, HE.out⟩
              rw [hq]
              first | rfl | simp
          · skip
            go_wp2_with (first | (refine wpList_load_part (by rfl) 50 _ rfl rfl h5 (hpt) Tryz.underlying50 rfl (pm_info _) ?_) | (refine wpList_load_part (by rfl) 50 _ rfl rfl h1 (hpe) Tryz.underlying50 rfl (pm_info _) ?_))
            refine (cls _).mono ?_
            rintro r7 w7 ⟨rfl, hE⟩
            replace HE := Lib.hid (HE.out.trans hE)
            clear hE
            go_wp2
            go_ret
            refine ⟨?_, HE.out⟩
            rw [hq]
            first | rfl | simp
end Go.Proofs.YtledkljbegpdpaaGreatDoor
/- Package hart: Agrees. -/
namespace Go.Proofs.YtledkljbegpdpaaGreatDoor
open Go.ChangeShapes Go.WideShapes Go.ChangeAt Go.RowKit
set_option linter.unusedVariables false
set_option linter.unusedSimpArgs false
set_option maxRecDepth 10000

theorem mine_ok (S : Nat) (K : List (Nat × Nat)) (p : Sp) (e : En) (hm : mineE p.ai e = true) : okA S K p e = agB S K p.pp e := by unfold okA; rw [hm, Bool.not_true, Bool.false_or]
set_option maxRecDepth 100000 in
set_option maxHeartbeats 4000000 in
theorem agrees16_c (A : Option Addr) (h : Hr) (c S : Nat) (B : Option Addr) (K : List (Nat × Nat)) (d : Nat) (hrt : rightT h.L = true) (hpp : h.sp.pp < 17592186044416) (w : World) (hr : RowV KS w A h.L c) (hM : Mem w S B K d) (hT : Layh w) :
    Calls Tryz.prog 15 #[.agg (hrC ⟨A, c, h⟩), .agg #[.int .u64 (S : Int), .slice B K.length d]] w fun r w' => r = .returned (.bool (agH S K h)) ∧ Ext w w' := by
  have h1 : Blk ((w.alloc (.cells (hrC ⟨A, c, h⟩) 29)).alloc (.cells #[.int .u64 (S : Int), .slice B K.length d] 32)) w.heap.size 29 (hrC ⟨A, c, h⟩) := (Blk.new w _ _).alloc _
  have h2 : Blk ((w.alloc (.cells (hrC ⟨A, c, h⟩) 29)).alloc (.cells #[.int .u64 (S : Int), .slice B K.length d] 32)) (w.heap.size + 1) 32 #[.int .u64 (S : Int), .slice B K.length d] := blk_at (by simp)
  have HE := Lib.hid (((Ext.refl w).alloc (.cells (hrC ⟨A, c, h⟩) 29)).alloc (.cells #[.int .u64 (S : Int), .slice B K.length d] 32))
  have hl16 := rt_len hrt
  have cae := fun w k => all14_c A h.L c (by omega) w k
  have hvp : ∀ e ∈ allT h.L, e.vp < 134217728 := fun e he => (may_lt (all_may hrt he)).1
  have hrow := hr.ext HE.out
  clear hr
  rw [show agH S K h = (allT h.L).all (okA S K h.sp) from by unfold agH okA; rfl]
  generalize allT h.L = M at *
  go_enter Tryz.func15, Tryz.ntmps15
  go_wp2_with (refine wpList_load_part (by rfl) 24 _ rfl rfl h1 (hrC_tlb A c h) Tryz.underlying24 rfl (tb_info _) ?_)
  refine (cae _ hrow).mono ?_
  rintro e w' ⟨v9, rfl, hown, hE⟩
  obtain ⟨A3, c3, rfl, hr3, -⟩ := own_rowv ke_ok hown
  (try replace hb := hb.ext hE); (try replace h1 := h1.ext hE); (try replace h2 := h2.ext hE); (try replace h3 := h3.ext hE); (try replace hM := hM.ext hE); (try replace HE := Lib.hid (HE.out.trans hE)); (try replace r0 := r0.ext hE); (try replace r1 := r1.ext hE); (try replace r2 := r2.ext hE); (try replace r3 := r3.ext hE); (try replace r4 := r4.ext hE); (try replace r5 := r5.ext hE); (try replace r6 := r6.ext hE)
  clear cae hrow hown
  have hMM := hM.ext HE.out
  have hTT := hT.ext HE.out
  clear hM hE hT
  have hrx : ∀ W : World, Ext w' W → RowV KE W A3 M c3 := fun W h => hr3.ext h
  have hMx : ∀ W : World, Ext w' W → Mem W S B K d := fun W h => hMM.ext h
  have hTx : ∀ W : World, Ext w' W → Layh W := fun W h => hTT.ext h
  clear hMM hTT
  have hEm : M.length ≤ 9223372036854775807 := Nat.le_trans hr3.2.2.1 hr3.2.2.2
  clear hr3
  have HE0 := Lib.hid (Ext.refl w')
  have b1 := h1
  have b2 := h2
  clear h1 h2
  go_wp2
  go_loopw [11] (fun v6 wr => ∃ k : Nat, k ≤ M.length ∧ v6 = .int .i64 k ∧ Hid (∀ j, j < k → okA S K h.sp (M.getD j e0) = true) ∧ Ext w' wr) (fun v6 _ => (M.length - intOf v6).toNat)
  case atStart => exact ⟨0, by omega, rfl, Lib.hid fun j hj => absurd hj (by omega), Ext.refl _⟩
  case round =>
    obtain ⟨k, hk, rfl, I, hE⟩ := hrel
    have HB := Lib.hid hE
    clear hE
    by_cases hlt : k < M.length
    · have hkz : (k : Int) < (M.length : Int) := by omega
      obtain ⟨b, off, rfl, hb, hr4⟩ := (hrx _ (Ext.refl _)).some (by omega)
      have e2 : wr.rangeAt b (off + k * 11) (enC (M.getD k e0)).toList := rgx_ext HB.out (hr4 k hlt)
      have I1 := Lib.hid (ag_le (okA S K h.sp) hlt I.out)
      have N1 := Lib.hid (ag_no (okA S K h.sp) hlt)
      have hev := hvp _ (getD_mem (d := e0) hlt)
      clear hr4 hrx hk I hvp
      generalize M.getD k e0 = e at *
      have h1 := b1.ext HB.out
      have h2 := b2.ext HB.out
      have h3 := Blk.new wr 52 (enC e)
      have h2a := h2.alloc (.cells (enC e) 52)
      have x1 := (h3.cell 1).trans (enC_n e)
      have x2 := (h3.cell 2).trans (enC_g e)
      have y2 := (h1.alloc (.cells (enC e) 52)).hr.ai
      have y3 := (h1.alloc (.cells (enC e) 52)).hr.pp
      have cho := fun W (hM : Mem W S B K d) (t : Layh W) => holds16_c e hev h.sp.pp S B K d hpp W hM t.t
      cases hg : e.g
      · rw [hg] at x2
        by_cases hn : e.n = h.sp.ai
        · have hmi : mineE h.sp.ai e = true := by unfold mineE; rw [hg, hn]; simp
          rw [hn] at x1
          clear hn hg
          have hok := mine_ok S K h.sp e hmi
          go_upto_region 4 with (first | (refine wpList_load_rng (w := wr) (by rfl) 52 _ rfl rfl e2 Tryz.underlying52 rfl (en_info _) ?_) | (refine wpList_store_new rfl 52 _ _ rfl (enC _) _ _ rfl rfl (en_info _) (by simp [enC_size]) (enC_one _) ?_))
          simp only [Act.put, List.setIfInBounds_toArray, List.set_cons_zero, List.set_cons_succ]
          go_wp2_with (first | (refine wpList_load_blk (by rfl) 52 _ rfl rfl h3 Tryz.underlying52 rfl (by kernel_rfl) ?_) | (refine wpList_load_blk (by rfl) 32 _ rfl rfl h2a Tryz.underlying32 rfl (by kernel_rfl) ?_))
          have hE := (Ext.refl wr).alloc (.cells (enC e) 52)
          replace HB := Lib.hid (HB.out.trans hE)
          refine (cho _ (hMx _ HB.out) (hTx _ HB.out)).mono ?_
          rintro r9 w9 ⟨rfl, hE9⟩
          replace HB := Lib.hid (HB.out.trans hE9)
          clear hE hE9 cho x1 x2 y2 y3
          rw [← hok]
          cases hok3 : okA S K h.sp e
          · go_wp2
            go_ret
            exact ⟨by rw [N1.out hok3] <;> rfl, HE.out.trans HB.out⟩
          · go_wp2
            go_roundw
            case rel => exact ⟨k + 1, by omega, by go_num, Lib.hid (I1.out hok3), HB.out⟩
            case measure => simp [intOf]; omega
        · have hn2 : ((e.n : Int) == (h.sp.ai : Int)) = false := by rw [beq_eq_false_iff_ne]; omega
          have hok3 : okA S K h.sp e = true := by unfold okA mineE; rw [hg]; simp [hn]
          clear hn hg cho
          go_upto_region 4 with (first | (refine wpList_load_rng (w := wr) (by rfl) 52 _ rfl rfl e2 Tryz.underlying52 rfl (en_info _) ?_) | (refine wpList_store_new rfl 52 _ _ rfl (enC _) _ _ rfl rfl (en_info _) (by simp [enC_size]) (enC_one _) ?_))
          simp only [Act.put, List.setIfInBounds_toArray, List.set_cons_zero, List.set_cons_succ]
          go_wp2
          replace HB := Lib.hid (HB.out.trans ((Ext.refl wr).alloc (.cells (enC e) 52)))
          go_roundw
          case rel => exact ⟨k + 1, by omega, by go_num, Lib.hid (I1.out hok3), HB.out⟩
          case measure => simp [intOf]; omega
      · rw [hg] at x2
        have hmi : mineE h.sp.ai e = true := by unfold mineE; rw [hg]; rfl
        clear hg
        have hok := mine_ok S K h.sp e hmi
        go_upto_region 4 with (first | (refine wpList_load_rng (w := wr) (by rfl) 52 _ rfl rfl e2 Tryz.underlying52 rfl (en_info _) ?_) | (refine wpList_store_new rfl 52 _ _ rfl (enC _) _ _ rfl rfl (en_info _) (by simp [enC_size]) (enC_one _) ?_))
        simp only [Act.put, List.setIfInBounds_toArray, List.set_cons_zero, List.set_cons_succ]
        go_wp2_with (first | (refine wpList_load_blk (by rfl) 52 _ rfl rfl h3 Tryz.underlying52 rfl (by kernel_rfl) ?_) | (refine wpList_load_blk (by rfl) 32 _ rfl rfl h2a Tryz.underlying32 rfl (by kernel_rfl) ?_))
        have hE := (Ext.refl wr).alloc (.cells (enC e) 52)
        replace HB := Lib.hid (HB.out.trans hE)
        refine (cho _ (hMx _ HB.out) (hTx _ HB.out)).mono ?_
        rintro r9 w9 ⟨rfl, hE9⟩
        replace HB := Lib.hid (HB.out.trans hE9)
        clear hE hE9 cho x1 x2 y2 y3
        rw [← hok]
        cases hok3 : okA S K h.sp e
        · go_wp2
          go_ret
          exact ⟨by rw [N1.out hok3] <;> rfl, HE.out.trans HB.out⟩
        · go_wp2
          go_roundw
          case rel => exact ⟨k + 1, by omega, by go_num, Lib.hid (I1.out hok3), HB.out⟩
          case measure => simp [intOf]; omega
    · obtain rfl : k = M.length := by omega
      have hal := ag_all (okA S K h.sp) I.out
      clear hrx hMx hTx I hvp hk hlt
      go_wp2
      go_ret
      exact ⟨by rw [hal] <;> rfl, HE.out.trans HB.out⟩
end Go.Proofs.YtledkljbegpdpaaGreatDoor
