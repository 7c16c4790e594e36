/- AdvKeeps. -/
import Derived.Test.YtlhoedpencmikaaDoorLaw17a
import Derived.Test.YtlhoedpencmikaaDoorLaw16f
namespace Go.Proofs.YtlhoedpencmikaaDoor
open Go.ChangeShapes Go.WideShapes Go.ChangeAt Go.RowKit
set_option linter.unusedVariables false
set_option linter.unusedSimpArgs false
set_option maxRecDepth 100000

attribute [local irreducible] World.setRow World.alloc Blk
set_option maxHeartbeats 8000000 in
theorem AdvKeeps_w (C : AdvC) (caw : Awk17) (A : Option Addr) (h : Hr) (c S : Nat) (B : Option Addr) (M : List (Nat × Nat)) (d a n : Nat) (i y : Int) (hok : h.ok) (hS : S < 18446744073709551616) (hC : IsCells M) (a1 : a < 18446744073709551616) (n1 : n < 256) (i1 : -9223372036854775808 ≤ i ∧ i ≤ 9223372036854775807) (y1 : -9223372036854775808 ≤ y ∧ y ≤ 9223372036854775807) (w : World) (hr : RowV KS w A h.L c) (hm : RowL w B M d) (hT : Layh w) :
    Calls Tryd.prog 3 #[.agg (hrC ⟨A, c, h⟩), .agg #[.int .u64 (S : Int), .slice B M.length d], .int .u64 (a : Int), .int .u8 (n : Int), .int .i64 i, .int .i64 y] w fun r w' => r = .returned (.bool true) ∧ Ext w w' := by
  have h1 : Blk ((w.alloc (.cells (hrC ⟨A, c, h⟩) 29)).alloc (.cells #[.int .u64 (S : Int), .slice B M.length d] 32)) w.heap.size 29 (hrC ⟨A, c, h⟩) := (Blk.new w _ _).alloc _
  have h2 : Blk ((w.alloc (.cells (hrC ⟨A, c, h⟩) 29)).alloc (.cells #[.int .u64 (S : Int), .slice B M.length d] 32)) (w.heap.size + 1) 32 #[.int .u64 (S : Int), .slice B M.length d] := blk_at (by simp)
  have HE := Lib.hid (((Ext.refl w).alloc (.cells (hrC ⟨A, c, h⟩) 29)).alloc (.cells #[.int .u64 (S : Int), .slice B M.length d] 32))
  have hrow : ∀ W : World, Ext w W → RowV KS W A h.L c := fun W e => hr.ext e
  have hmm : ∀ W : World, Ext w W → RowL W B M d := fun W e => hm.ext e
  have hTE : ∀ W : World, Ext w W → Layh W := fun W e => hT.ext e
  have cft := fun W p q => fits17_c A h c S B M d hS hC W p q
  cases hF : fitH h S M
  · skip
    go_enter Tryd.func3, Tryd.ntmps3
    go_wp2_with (fail); refine (caw _ (hTE _ HE.out)).mono ?_; rintro e w' ⟨rfl, hE⟩; (try replace hb := hb.ext hE); (try replace hm := hm.ext hE); (try replace h1 := h1.ext hE); (try replace h2 := h2.ext hE); (try replace h3 := h3.ext hE); (try replace h9 := h9.ext hE); (try replace hM := hM.ext hE); (try replace HE := Lib.hid (HE.out.trans hE)); (try replace r0 := r0.ext hE); (try replace r1 := r1.ext hE); (try replace r2 := r2.ext hE); (try replace r3 := r3.ext hE); (try replace r4 := r4.ext hE); (try replace r5 := r5.ext hE); (try replace r6 := r6.ext hE); clear hE
    go_wp2_with ((first | (refine wpList_load_blk (by rfl) 29 _ rfl rfl h1 Tryd.underlying29 rfl (by kernel_rfl) ?_) | (refine wpList_load_blk (by rfl) 32 _ rfl rfl h2 Tryd.underlying32 rfl (by kernel_rfl) ?_))); refine (cft _ (hrow _ HE.out) (hmm _ HE.out)).mono ?_; rintro e w' ⟨rfl, hE⟩; (try replace hb := hb.ext hE); (try replace hm := hm.ext hE); (try replace h1 := h1.ext hE); (try replace h2 := h2.ext hE); (try replace h3 := h3.ext hE); (try replace h9 := h9.ext hE); (try replace hM := hM.ext hE); (try replace HE := Lib.hid (HE.out.trans hE)); (try replace r0 := r0.ext hE); (try replace r1 := r1.ext hE); (try replace r2 := r2.ext hE); (try replace r3 := r3.ext hE); (try replace r4 := r4.ext hE); (try replace r5 := r5.ext hE); (try replace r6 := r6.ext hE); clear hE
    rw [hF]
    clear cft
    go_wp2_with (fail); refine (caw _ (hTE _ HE.out)).mono ?_; rintro e w' ⟨rfl, hE⟩; (try replace hb := hb.ext hE); (try replace hm := hm.ext hE); (try replace h1 := h1.ext hE); (try replace h2 := h2.ext hE); (try replace h3 := h3.ext hE); (try replace h9 := h9.ext hE); (try replace hM := hM.ext hE); (try replace HE := Lib.hid (HE.out.trans hE)); (try replace r0 := r0.ext hE); (try replace r1 := r1.ext hE); (try replace r2 := r2.ext hE); (try replace r3 := r3.ext hE); (try replace r4 := r4.ext hE); (try replace r5 := r5.ext hE); (try replace r6 := r6.ext hE); clear hE
    go_wp2
    go_ret
    exact ⟨rfl, HE.out⟩
  obtain ⟨h16, fr, f3, -⟩ := fit_h hF
  have hMm : ∀ W : World, Ext w W → Mem W S B M d := fun W e => fit_m hF hC (hmm W e)
  have hM0 := hMm w (Ext.refl _)
  have hMx : ∀ (W : World) (A1 : Option Addr) (c1 : Nat), RowL W A1 M c1 → Mem W S A1 M c1 := fun W A1 c1 r => ⟨r, hM0.rl, hM0.ok, hM0.few⟩
  clear hM0
  have hnk : ((n % 3 : Nat) : Int) = (n : Int) % 3 := by omega
  have cbr := fun A4 c4 B4 d4 W r m t => C.bring A4 h c4 S B4 M d4 a (n % 3) W fr hok (by omega) a1 r m (by omega) t
  have cev := fun A4 c4 W r t => C.evict A4 h c4 i y W fr i1 y1 r t
  have cpi := fun A4 c4 W => C.pick A4 h c4 y W y1
  have csm := fun A4 c4 W r q => rsame16_c A4 A h h c4 c (by omega) (by omega) W r q
  rw [decide_eq_true rfl] at csm
  have hcp := fun W (r : RowV KS W A h.L c) ty => copy_row ks_ok W r (by show h.L.length * 232 ≤ _; omega) (by unfold maxLen; omega) ty
  unfold BrT at cbr
  unfold EvT at cev
  simp only [hnk] at cbr
  clear fr h16
  go_enter Tryd.func3, Tryd.ntmps3
  go_wp2_with (fail); refine (caw _ (hTE _ HE.out)).mono ?_; rintro e w' ⟨rfl, hE⟩; (try replace hb := hb.ext hE); (try replace hm := hm.ext hE); (try replace h1 := h1.ext hE); (try replace h2 := h2.ext hE); (try replace h3 := h3.ext hE); (try replace h9 := h9.ext hE); (try replace hM := hM.ext hE); (try replace HE := Lib.hid (HE.out.trans hE)); (try replace r0 := r0.ext hE); (try replace r1 := r1.ext hE); (try replace r2 := r2.ext hE); (try replace r3 := r3.ext hE); (try replace r4 := r4.ext hE); (try replace r5 := r5.ext hE); (try replace r6 := r6.ext hE); clear hE
  go_wp2_with ((first | (refine wpList_load_blk (by rfl) 29 _ rfl rfl h1 Tryd.underlying29 rfl (by kernel_rfl) ?_) | (refine wpList_load_blk (by rfl) 32 _ rfl rfl h2 Tryd.underlying32 rfl (by kernel_rfl) ?_))); refine (cft _ (hrow _ HE.out) (hmm _ HE.out)).mono ?_; rintro e w' ⟨rfl, hE⟩; (try replace hb := hb.ext hE); (try replace hm := hm.ext hE); (try replace h1 := h1.ext hE); (try replace h2 := h2.ext hE); (try replace h3 := h3.ext hE); (try replace h9 := h9.ext hE); (try replace hM := hM.ext hE); (try replace HE := Lib.hid (HE.out.trans hE)); (try replace r0 := r0.ext hE); (try replace r1 := r1.ext hE); (try replace r2 := r2.ext hE); (try replace r3 := r3.ext hE); (try replace r4 := r4.ext hE); (try replace r5 := r5.ext hE); (try replace r6 := r6.ext hE); clear hE
  rw [hF]
  clear cft
  have h9n := Blk.new w' 29 (hrC ⟨A, c, h⟩)
  have hE := (Ext.refl w').alloc (.cells (hrC ⟨A, c, h⟩) 29)
  have hg9 : w.heap.size + 1 < w'.heap.size := h2.lt
  have h1k := h1
  (try replace hb := hb.ext hE); (try replace hm := hm.ext hE); (try replace h1 := h1.ext hE); (try replace h2 := h2.ext hE); (try replace h3 := h3.ext hE); (try replace h9 := h9.ext hE); (try replace hM := hM.ext hE); (try replace HE := Lib.hid (HE.out.trans hE)); (try replace r0 := r0.ext hE); (try replace r1 := r1.ext hE); (try replace r2 := r2.ext hE); (try replace r3 := r3.ext hE); (try replace r4 := r4.ext hE); (try replace r5 := r5.ext hE); (try replace r6 := r6.ext hE)
  clear hE
  have h9 := h9n
  clear h9n
  go_upto_region 4 with (first | (refine wpList_load_blk (by rfl) 29 _ rfl rfl h1k Tryd.underlying29 rfl (by kernel_rfl) ?_) | (refine wpList_store_new rfl 29 _ _ rfl (hrC _) _ _ rfl rfl (hr_info _) (by simp [hrC_size]) (hrC_one _) ?_))
  simp only [Act.put, List.setIfInBounds_toArray, List.set_cons_zero, List.set_cons_succ]
  clear h1k
  generalize w'.heap.size = g9 at *
  generalize w'.alloc (.cells (hrC ⟨A, c, h⟩) 29) = W9 at *
  have x1 : (W9.alloc (.cells #[] 55)).cell? ⟨w.heap.size, 0, none⟩ = some (.slice A h.L.length c) := (h1.alloc _).hr.s
  have hcq := hcp _ (hrow _ HE.out)
  clear hcp
  go_upto_region 5 with (first | (at_builtin; refine wpList_append_run' _ rfl _ _ _ rfl _ _ rfl rfl _ (hcq _) ?_; rintro v3 w3 ⟨hown, hE⟩; obtain ⟨A2, c2, rfl, r2, -⟩ := own_rowv ks_ok hown; (try replace hb := hb.ext hE); (try replace hm := hm.ext hE); (try replace h1 := h1.ext hE); (try replace h2 := h2.ext hE); (try replace h3 := h3.ext hE); (try replace h9 := h9.ext hE); (try replace hM := hM.ext hE); (try replace HE := Lib.hid (HE.out.trans hE)); (try replace r0 := r0.ext hE); (try replace r1 := r1.ext hE); (try replace r2 := r2.ext hE); (try replace r3 := r3.ext hE); (try replace r4 := r4.ext hE); (try replace r5 := r5.ext hE); (try replace r6 := r6.ext hE); clear hE hown) | (refine wpList_store_cell rfl 22 _ _ rfl rfl rfl h9 (by simp [hrC_size]) ((hrC_set0 A A2 c c2 h (L := h.L) rfl)) (by kernel_rfl) rfl rfl ?_))
  simp only [Act.put, List.setIfInBounds_toArray, List.set_cons_zero, List.set_cons_succ]
  clear x1 hcq
  have hc9 : hrC ⟨A2, c2, { h with L := h.L }⟩ = hrC ⟨A2, c2, h⟩ := rfl
  rw [hc9]
  clear hc9
  replace h1 := h1.apart (show w.heap.size ≠ g9 by omega) (hrC ⟨A2, c2, h⟩)
  replace h2 := h2.apart (show w.heap.size + 1 ≠ g9 by omega) (hrC ⟨A2, c2, h⟩)
  replace r2 := r2.set h9 (by rw [hrC_size]; decide) (hrC ⟨A2, c2, h⟩)
  replace h9 := h9.row (hrC ⟨A2, c2, h⟩)
  replace HE := Lib.hid (HE.out.row (show w.heap.size ≤ g9 by omega) (hrC ⟨A2, c2, h⟩))
  generalize w3.setRow g9 (hrC ⟨A2, c2, h⟩) = W5 at *
  have HE5 := Lib.hid (Ext.refl W5)
  have hlb : w.heap.size + 1 < W5.heap.size := h2.lt
  have hmX : ∀ W, Ext W5 W → RowL W B M d := fun W e => hmm W (HE.out.trans e)
  have h2b := h2
  go_cut [14] from 32 to 38 (fun q wx => ∃ (gm : Nat) (A1 : Option Addr) (c1 : Nat), q = .pointer (some ⟨gm, 0, none⟩) ∧ Hid (Blk wx gm 32 #[.int .u64 (S : Int), .slice A1 M.length c1]) ∧ Hid (RowL wx A1 M c1) ∧ Ext W5 wx)
  case first =>
    clear hMx hrow hmm hTE cbr cev cpi csm caw
    have HE := HE5
    have hb := h2b
    clear h1 h2 h9 r2 hr hm hT h2b HE5
    go_wp2_with fail
    (try replace hb := Blk.drew hb); (try replace hm := Blk.drew hm); (try replace h1 := Blk.drew h1); (try replace h2 := Blk.drew h2); (try replace h3 := Blk.drew h3); (try replace h9 := Blk.drew h9); replace HE := Lib.hid HE.out.drew
    obtain ⟨wd, hwd⟩ : ∃ wd, wd = W5.drew := ⟨_, rfl⟩
    refine wp_region_fork2 [(0, false), (1, false), (3, false), (4, false)] 2 [] 5 [(6, false), (7, true), (8, true)] 7 [(5, true), (6, false), (8, true)] 7 [(2, true), (5, true), (6, false), (8, true)] (Below W5.drew.heap.size) (by kernel_rfl) (by kernel_rfl) (Below.refl _) (fun _ _ _ => Below.trans) ?_
    simp only [List.map, nth_z, nth_s]
    replace hlb : w.heap.size + 1 < W5.drew.heap.size := hb.lt
    replace hmX : ∀ W, Below W5.drew.heap.size W5.drew W → RowL W B M d := fun W e => hmX W (HE.out.trans e)
    rw [← hwd] at hb hmX HE hlb ⊢
    clear hwd
    (repeat (first | (refine seq_skip (by rfl) ?_; intro K hK; simp only [Act.put, List.setIfInBounds_toArray, List.set_cons_zero, List.set_cons_succ]; refine hK _ ?_; clear hK K) | (refine seq_skipc (by rfl) ?_; intro K hK; simp only [Act.put, List.setIfInBounds_toArray, List.set_cons_zero, List.set_cons_succ]; refine hK _ ?_; clear hK K) | (refine seq_read (by rfl) (by rfl) ?_; intro K hK; go_big_quiet_op; first | go_big_quiet_on | (refine ⟨_, fun _ _ => rfl, ?_⟩; go_big_quiet_on))))
    refine seq_value (.int .u64 (S : Int)) (by rfl) (fun x hx => by have hq := (Below.cell hx (p := ⟨w.heap.size + 1, 0, none⟩) (by simp; omega)).trans (hb.cell 0); simp [go_sem, execOp, Act.eval, hq]) ?_; intro K hK; simp only [Act.put, List.setIfInBounds_toArray, List.set_cons_zero, List.set_cons_succ]; refine hK _ ?_; clear hK K
    (repeat (first | (refine seq_skip (by rfl) ?_; intro K hK; simp only [Act.put, List.setIfInBounds_toArray, List.set_cons_zero, List.set_cons_succ]; refine hK _ ?_; clear hK K) | (refine seq_skipc (by rfl) ?_; intro K hK; simp only [Act.put, List.setIfInBounds_toArray, List.set_cons_zero, List.set_cons_succ]; refine hK _ ?_; clear hK K) | (refine seq_read (by rfl) (by rfl) ?_; intro K hK; go_big_quiet_op; first | go_big_quiet_on | (refine ⟨_, fun _ _ => rfl, ?_⟩; go_big_quiet_on))))
    refine seq_value (.slice B M.length d) (by rfl) (fun x hx => by have hq := (Below.cell hx (p := ⟨w.heap.size + 1, 1, none⟩) (by simp; omega)).trans (hb.cell 1); simp [go_sem, execOp, Act.eval, hq]) ?_; intro K hK; simp only [Act.put, List.setIfInBounds_toArray, List.set_cons_zero, List.set_cons_succ]; refine hK _ ?_; clear hK K
    refine seq_done ?_
    have HB0 : Below wd.heap.size wd wd := Below.refl _ _
    refine ⟨?_, ?_⟩
    · refine seq_run (.slice (some ⟨wd.heap.size, 0, none⟩) 0 0) (wd.alloc (.cells #[] 48)) (by rfl) ?_ (Below.alloc (Below.refl _ _) (Nat.le_refl _) _) ?_; (simp [go_sem, execOp, Act.eval]); intro K hK; simp only [Act.put, List.setIfInBounds_toArray, List.set_cons_zero, List.set_cons_succ]; refine hK _ _ ?_; clear hK K
      have hown := own_empty wd
      have HB1 : Below wd.heap.size wd (wd.alloc (.cells #[] 48)) := Below.alloc (Below.refl _ _) (Nat.le_refl _) _
      generalize hW1 : wd.alloc (.cells #[] 48) = W1 at hown HB1 ⊢
      have hz1 : wd.heap.size < W1.heap.size := by rw [← hW1]; simp
      clear hW1
      refine seq_done ?_
      refine seq_done ?_
      refine ⟨?_, ?_⟩
      · obtain ⟨A1, c1, W2, hrun, hr1, hbel, -⟩ := copy_any hown (by omega) ((hmX _ HB1)) (by omega)
        refine seq_append _ (W2) _ _ rfl rfl rfl rfl (by rfl) hrun hbel ?_; intro K hK; simp only [Act.put, List.setIfInBounds_toArray, List.set_cons_zero, List.set_cons_succ]; refine hK _ _ ?_; clear hK K
        replace HB1 : Below wd.heap.size wd W2 := HB1.trans hbel
        have hz2 := hbel.size
        clear hrun hbel hown
        refine seq_done ?_
        refine seq_build_as rfl (mem_build S A1 M.length c1) (by rfl) ?_; intro K hK; simp only [Act.put, List.setIfInBounds_toArray, List.set_cons_zero, List.set_cons_succ]; refine hK _ ?_; clear hK K
        refine seq_run (.pointer (some ⟨W2.heap.size, 0, none⟩)) (W2.alloc (.cells #[.int .u64 0, .slice none 0 0] 32)) (by rfl) ?_ (Below.alloc (Below.refl _ _) (by omega) _) ?_; (simp [go_sem, execOp, Act.eval]); intro K hK; simp only [Act.put, List.setIfInBounds_toArray, List.set_cons_zero, List.set_cons_succ]; refine hK _ _ ?_; clear hK K
        have h1' := Blk.new W2 32 #[.int .u64 0, .slice none 0 0]
        replace hr1 := hr1.ext ((Ext.refl W2).alloc (.cells #[.int .u64 0, .slice none 0 0] 32))
        replace HB1 : Below wd.heap.size wd (W2.alloc (.cells #[.int .u64 0, .slice none 0 0] 32)) := Below.alloc HB1 (by omega) _
        obtain ⟨gm, hgm⟩ : ∃ gm, gm = W2.heap.size := ⟨_, rfl⟩
        have hz3 : wd.heap.size ≤ gm := by omega
        rw [← hgm] at h1' ⊢
        clear hgm
        generalize W2.alloc (.cells #[.int .u64 0, .slice none 0 0] 32) = W3 at h1' hr1 HB1 ⊢
        refine seq_store_row rfl rfl rfl h1' (by kernel_rfl) (by rfl) (by simp [Value.oneCell']) (by rfl) (below_row (Below.refl _ _) (by omega) _) ?_
        intro K hK
        simp only [Act.put, List.setIfInBounds_toArray, List.set_cons_zero, List.set_cons_succ]
        refine hK _ _ ?_
        clear hK K
        refine seq_done ?_
        go_wp2_with fail
        go_meet
        case rel => exact ⟨gm, A1, c1, rfl, Lib.hid (h1'.row _), Lib.hid (hr1.row (row_out hr1 h1') (Nat.le_refl _) (Nat.lt_succ_self _) _), HE.out.trans (below_row HB1 (by omega) _)⟩
      · refine seq_run (.pointer (some ⟨W1.heap.size, 0, none⟩)) (W1.alloc (.cells #[.int .u64 0, .slice none 0 0] 32)) (by rfl) ?_ (Below.alloc (Below.refl _ _) (by omega) _) ?_; (simp [go_sem, execOp, Act.eval]); intro K hK; simp only [Act.put, List.setIfInBounds_toArray, List.set_cons_zero, List.set_cons_succ]; refine hK _ _ ?_; clear hK K
        have h1' := Blk.new W1 32 #[.int .u64 0, .slice none 0 0]
        replace hown := World.ownsRow.alloc hown (.cells #[.int .u64 0, .slice none 0 0] 32)
        replace HB1 : Below wd.heap.size wd (W1.alloc (.cells #[.int .u64 0, .slice none 0 0] 32)) := Below.alloc HB1 (by omega) _
        obtain ⟨gm, hgm⟩ : ∃ gm, gm = W1.heap.size := ⟨_, rfl⟩
        have hz3 : wd.heap.size < gm := by omega
        rw [← hgm] at h1' ⊢
        clear hgm
        refine seq_done ?_
        have hz4 : wd.heap.size ≤ (W1.alloc (.cells #[.int .u64 0, .slice none 0 0] 32)).heap.size := HB1.size
        generalize W1.alloc (.cells #[.int .u64 0, .slice none 0 0] 32) = W2 at h1' hown HB1 hz4 ⊢
        obtain ⟨A1, c1, W3, hrun, hr1, hbel, hkp⟩ := copy_any hown hz4 ((hmX _ HB1)) (by omega)
        refine seq_append _ (W3) _ _ rfl rfl rfl rfl (by rfl) hrun hbel ?_; intro K hK; simp only [Act.put, List.setIfInBounds_toArray, List.set_cons_zero, List.set_cons_succ]; refine hK _ _ ?_; clear hK K
        replace HB1 : Below wd.heap.size wd W3 := HB1.trans hbel
        replace h1' := hkp _ _ _ h1' (by omega)
        clear hrun hbel hown hkp
        refine seq_build_as rfl (mem_build S A1 M.length c1) (by rfl) ?_; intro K hK; simp only [Act.put, List.setIfInBounds_toArray, List.set_cons_zero, List.set_cons_succ]; refine hK _ ?_; clear hK K
        refine seq_store_row rfl rfl rfl h1' (by kernel_rfl) (by rfl) (by simp [Value.oneCell']) (by rfl) (below_row (Below.refl _ _) (by omega) _) ?_
        intro K hK
        simp only [Act.put, List.setIfInBounds_toArray, List.set_cons_zero, List.set_cons_succ]
        refine hK _ _ ?_
        clear hK K
        refine seq_done ?_
        go_wp2_with fail
        go_meet
        case rel => exact ⟨gm, A1, c1, rfl, Lib.hid (h1'.row _), Lib.hid (hr1.row (row_out hr1 h1') (Nat.le_refl _) (Nat.lt_succ_self _) _), HE.out.trans (below_row HB1 (by omega) _)⟩
    · refine seq_run (.pointer (some ⟨wd.heap.size, 0, none⟩)) (wd.alloc (.cells #[.int .u64 0, .slice none 0 0] 32)) (by rfl) ?_ (Below.alloc (Below.refl _ _) (Nat.le_refl _) _) ?_; (simp [go_sem, execOp, Act.eval]); intro K hK; simp only [Act.put, List.setIfInBounds_toArray, List.set_cons_zero, List.set_cons_succ]; refine hK _ _ ?_; clear hK K
      have h1' := Blk.new wd 32 #[.int .u64 0, .slice none 0 0]
      have HB1 : Below wd.heap.size wd (wd.alloc (.cells #[.int .u64 0, .slice none 0 0] 32)) := Below.alloc (Below.refl _ _) (Nat.le_refl _) _
      obtain ⟨gm, hgm⟩ : ∃ gm, gm = wd.heap.size := ⟨_, rfl⟩
      have hz3 : wd.heap.size ≤ gm := by omega
      have hz4 : gm < (wd.alloc (.cells #[.int .u64 0, .slice none 0 0] 32)).heap.size := by rw [hgm]; simp
      generalize hW1 : wd.alloc (.cells #[.int .u64 0, .slice none 0 0] 32) = W1 at h1' HB1 hz4 ⊢
      clear hW1
      refine seq_done ?_
      refine seq_run (.slice (some ⟨W1.heap.size, 0, none⟩) 0 0) (W1.alloc (.cells #[] 48)) (by rfl) ?_ (Below.alloc (Below.refl _ _) (by omega) _) ?_; (simp [go_sem, execOp, Act.eval]); intro K hK; simp only [Act.put, List.setIfInBounds_toArray, List.set_cons_zero, List.set_cons_succ]; refine hK _ _ ?_; clear hK K
      have hown := own_mono (own_empty W1) (show wd.heap.size ≤ W1.heap.size by omega)
      replace h1' := h1'.alloc (.cells #[] 48)
      replace HB1 : Below wd.heap.size wd (W1.alloc (.cells #[] 48)) := Below.alloc HB1 (by omega) _
      have hz5 : wd.heap.size ≤ (W1.alloc (.cells #[] 48)).heap.size := HB1.size
      generalize W1.alloc (.cells #[] 48) = W2 at h1' hown HB1 hz5 ⊢
      obtain ⟨A1, c1, W3, hrun, hr1, hbel, hkp⟩ := copy_any hown hz5 ((hmX _ HB1)) (by omega)
      refine seq_append _ (W3) _ _ rfl rfl rfl rfl (by rfl) hrun hbel ?_; intro K hK; simp only [Act.put, List.setIfInBounds_toArray, List.set_cons_zero, List.set_cons_succ]; refine hK _ _ ?_; clear hK K
      replace HB1 : Below wd.heap.size wd W3 := HB1.trans hbel
      replace h1' := hkp _ _ _ h1' (by omega)
      rw [← hgm] at h1' ⊢
      clear hrun hbel hown hkp hgm
      refine seq_build_as rfl (mem_build S A1 M.length c1) (by rfl) ?_; intro K hK; simp only [Act.put, List.setIfInBounds_toArray, List.set_cons_zero, List.set_cons_succ]; refine hK _ ?_; clear hK K
      refine seq_store_row rfl rfl rfl h1' (by kernel_rfl) (by rfl) (by simp [Value.oneCell']) (by rfl) (below_row (Below.refl _ _) (by omega) _) ?_
      intro K hK
      simp only [Act.put, List.setIfInBounds_toArray, List.set_cons_zero, List.set_cons_succ]
      refine hK _ _ ?_
      clear hK K
      refine seq_done ?_
      go_wp2_with fail
      go_meet
      case rel => exact ⟨gm, A1, c1, rfl, Lib.hid (h1'.row _), Lib.hid (hr1.row (row_out hr1 h1') (Nat.le_refl _) (Nat.lt_succ_self _) _), HE.out.trans (below_row HB1 (by omega) _)⟩
  case rest =>
    obtain ⟨gm, A1, c1, rfl, hb1, hr1, hE⟩ := hcut
    replace h1 := h1.ext hE
    replace h2 := h2.ext hE
    replace h9 := h9.ext hE
    replace r2 := r2.ext hE
    replace HE := Lib.hid (HE.out.trans hE)
    have h3 := hb1.out
    have hM := hMx _ _ _ hr1.out
    clear hE hb1 hr1 HE5 hmX h2b hMx hlb
    generalize w.heap.size = g0 at *
    go_wp2_with (first | (refine wpList_load_blk (by rfl) 29 _ rfl rfl h9 Tryd.underlying29 rfl (by kernel_rfl) ?_) | (refine wpList_load_blk (by rfl) 32 _ rfl rfl h3 Tryd.underlying32 rfl (by kernel_rfl) ?_))
    refine (cbr _ _ _ _ _ r2 hM (hTE _ HE.out)).mono ?_
    rintro r5 w' ⟨A4, B4, cc4, d4, rfl, -, -, hE, -⟩
    (try replace hb := hb.ext hE); (try replace hm := hm.ext hE); (try replace h1 := h1.ext hE); (try replace h2 := h2.ext hE); (try replace h3 := h3.ext hE); (try replace h9 := h9.ext hE); (try replace hM := hM.ext hE); (try replace HE := Lib.hid (HE.out.trans hE)); (try replace r0 := r0.ext hE); (try replace r1 := r1.ext hE); (try replace r2 := r2.ext hE); (try replace r3 := r3.ext hE); (try replace r4 := r4.ext hE); (try replace r5 := r5.ext hE); (try replace r6 := r6.ext hE)
    clear hE cbr
    go_wp2_with ((refine wpList_load_blk (by rfl) 29 _ rfl rfl h9 Tryd.underlying29 rfl (by kernel_rfl) ?_)); refine (cev _ _ _ r2 (hTE _ HE.out)).mono ?_; rintro e w' ⟨A5, cc5, rfl, -, hE⟩; (try replace hb := hb.ext hE); (try replace hm := hm.ext hE); (try replace h1 := h1.ext hE); (try replace h2 := h2.ext hE); (try replace h3 := h3.ext hE); (try replace h9 := h9.ext hE); (try replace hM := hM.ext hE); (try replace HE := Lib.hid (HE.out.trans hE)); (try replace r0 := r0.ext hE); (try replace r1 := r1.ext hE); (try replace r2 := r2.ext hE); (try replace r3 := r3.ext hE); (try replace r4 := r4.ext hE); (try replace r5 := r5.ext hE); (try replace r6 := r6.ext hE); clear hE
    clear cev
    go_wp2_with ((refine wpList_load_blk (by rfl) 29 _ rfl rfl h9 Tryd.underlying29 rfl (by kernel_rfl) ?_)); refine (cpi _ _ _).mono ?_; rintro e w' ⟨rfl, hE⟩; (try replace hb := hb.ext hE); (try replace hm := hm.ext hE); (try replace h1 := h1.ext hE); (try replace h2 := h2.ext hE); (try replace h3 := h3.ext hE); (try replace h9 := h9.ext hE); (try replace hM := hM.ext hE); (try replace HE := Lib.hid (HE.out.trans hE)); (try replace r0 := r0.ext hE); (try replace r1 := r1.ext hE); (try replace r2 := r2.ext hE); (try replace r3 := r3.ext hE); (try replace r4 := r4.ext hE); (try replace r5 := r5.ext hE); (try replace r6 := r6.ext hE); clear hE
    clear cpi
    go_wp2_with (first | (refine wpList_load_blk (by rfl) 29 _ rfl rfl h9 Tryd.underlying29 rfl (by kernel_rfl) ?_) | (refine wpList_load_blk (by rfl) 29 _ rfl rfl h1 Tryd.underlying29 rfl (by kernel_rfl) ?_))
    refine (csm _ _ _ r2 (hrow _ HE.out)).mono ?_
    rintro r5 w' ⟨rfl, hE⟩
    (try replace hb := hb.ext hE); (try replace hm := hm.ext hE); (try replace h1 := h1.ext hE); (try replace h2 := h2.ext hE); (try replace h3 := h3.ext hE); (try replace h9 := h9.ext hE); (try replace hM := hM.ext hE); (try replace HE := Lib.hid (HE.out.trans hE)); (try replace r0 := r0.ext hE); (try replace r1 := r1.ext hE); (try replace r2 := r2.ext hE); (try replace r3 := r3.ext hE); (try replace r4 := r4.ext hE); (try replace r5 := r5.ext hE); (try replace r6 := r6.ext hE)
    clear hE csm
    go_wp2_with ((first | (refine wpList_load_blk (by rfl) 32 _ rfl rfl h3 Tryd.underlying32 rfl (by kernel_rfl) ?_) | (refine wpList_load_blk (by rfl) 32 _ rfl rfl h2 Tryd.underlying32 rfl (by kernel_rfl) ?_))); refine (same_x hM (hMm _ HE.out) rfl).mono ?_; rintro e w' ⟨rfl, hE⟩; (try replace hb := hb.ext hE); (try replace hm := hm.ext hE); (try replace h1 := h1.ext hE); (try replace h2 := h2.ext hE); (try replace h3 := h3.ext hE); (try replace h9 := h9.ext hE); (try replace hM := hM.ext hE); (try replace HE := Lib.hid (HE.out.trans hE)); (try replace r0 := r0.ext hE); (try replace r1 := r1.ext hE); (try replace r2 := r2.ext hE); (try replace r3 := r3.ext hE); (try replace r4 := r4.ext hE); (try replace r5 := r5.ext hE); (try replace r6 := r6.ext hE); clear hE
    go_wp2
    go_ret
    exact ⟨rfl, HE.out⟩
end Go.Proofs.YtlhoedpencmikaaDoor
