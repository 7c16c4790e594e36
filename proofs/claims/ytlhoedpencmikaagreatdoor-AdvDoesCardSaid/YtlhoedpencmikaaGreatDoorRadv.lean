/- The document's answers for layer 17 (atlasref17): Pick, Evict, Bring. -/
import Derived.Test.YtlhoedpencmikaaGreatDoorGadc
import Derived.Test.YtlhoedpencmikaaGreatDoorGrten
import Derived.Test.YtlhoedpencmikaaGreatDoorGrtwel
import Derived.Test.YtlhoedpencmikaaGreatDoorGrtlb
namespace Go.Proofs.YtlhoedpencmikaaGreatDoor
open Go.ChangeShapes Go.WideShapes Go.ChangeAt Go.RowKit
set_option linter.unusedVariables false
set_option linter.unusedSimpArgs false
set_option maxRecDepth 10000

attribute [local irreducible] World.setRow World.alloc Blk
theorem rpick17_c (A : Option Addr) (h : Hr) (c : Nat) (y : Int) (w : World) :
    Calls Tryz.prog 13 #[.agg (hrC ⟨A, c, h⟩), .int .i64 y] w fun r w' => r = .returned (.tuple #[.agg (hrC ⟨A, c, piH h y⟩), .int .i64 (piG y)]) ∧ Ext w w' := by
  have h1 : Blk ((w.alloc (.cells (hrC ⟨A, c, h⟩) 29)).alloc (.cells #[.slice none 0 0, .int .u64 0, .int .u64 0, .int .u64 0, .int .i64 0, .bool false, .bool false, .int .i64 0] 29)) w.heap.size 29 (hrC ⟨A, c, h⟩) := (Blk.new w _ _).alloc _
  have k2 : Blk ((w.alloc (.cells (hrC ⟨A, c, h⟩) 29)).alloc (.cells #[.slice none 0 0, .int .u64 0, .int .u64 0, .int .u64 0, .int .i64 0, .bool false, .bool false, .int .i64 0] 29)) (w.heap.size + 1) 29 #[.slice none 0 0, .int .u64 0, .int .u64 0, .int .u64 0, .int .i64 0, .bool false, .bool false, .int .i64 0] := blk_at (by simp)
  have HE := Lib.hid (((Ext.refl w).alloc (.cells (hrC ⟨A, c, h⟩) 29)).alloc (.cells #[.slice none 0 0, .int .u64 0, .int .u64 0, .int .u64 0, .int .i64 0, .bool false, .bool false, .int .i64 0] 29))
  by_cases h0 : 0 ≤ y
  · have d1 : decide (y < 0) = false := by simp; omega
    by_cases h3 : y ≤ 3
    · have d2 : decide (3 < y) = false := by simp; omega
      have hb : piB y = true := by rw [piB_eq, decide_eq_true_iff]; exact ⟨h0, h3⟩
      have hq : piH h y = { h with vi := y } := by rw [piH_eq, hb, if_pos rfl]
      have hg : piG y = 0 := by unfold piG; rw [hb, if_pos rfl]
      clear h0 h3 hb
      go_enter Tryz.func13, Tryz.ntmps13
      go_upto_region 4 with (refine wpList_store_cell rfl 3 _ _ rfl rfl rfl h1 (by simp [hrC_size]) (hrC_set7 A c h y) (by kernel_rfl) rfl rfl ?_)
      simp only [Act.put, List.setIfInBounds_toArray, List.set_cons_zero, List.set_cons_succ]
      replace k2 := k2.apart (show w.heap.size + 1 ≠ w.heap.size by omega) (hrC ⟨A, c, { h with vi := y }⟩)
      replace h1 := h1.row (hrC ⟨A, c, { h with vi := y }⟩)
      replace HE := Lib.hid (HE.out.row (Nat.le_refl _) (hrC ⟨A, c, { h with vi := y }⟩))
      generalize ((w.alloc (.cells (hrC ⟨A, c, h⟩) 29)).alloc (.cells #[.slice none 0 0, .int .u64 0, .int .u64 0, .int .u64 0, .int .i64 0, .bool false, .bool false, .int .i64 0] 29)).setRow w.heap.size (hrC ⟨A, c, { h with vi := y }⟩) = W1 at *
      go_wp2_with (first | (refine wpList_load_blk (by rfl) 29 _ rfl rfl h1 Tryz.underlying29 rfl (by kernel_rfl) ?_) | (refine wpList_store_blk rfl 29 _ _ rfl rfl rfl k2 (hr_info _) (by simp [hrC_size]) (hrC_one _) ?_))
      (try simp only [Exit.inBlock, Exit.then]); (try rw [Exit.noGoto_ret]); refine bodyPost_ret (results_c2 rfl _ _ _ _ _ _ rfl ((k2.row _)) rfl Tryz.underlying29 (hr_info _)) rfl ?_
      exact ⟨by rw [hq, hg]; rfl, HE.out.row (by omega) _⟩
    · have d2 : decide (3 < y) = true := by simp; omega
      have hb : piB y = false := by rw [piB_eq, decide_eq_false_iff_not]; omega
      have hq : piH h y = h := by rw [piH_eq, hb]; rfl
      have hg : piG y = 1 := by unfold piG; rw [hb]; rfl
      clear h0 h3 hb
      go_enter Tryz.func13, Tryz.ntmps13
      go_wp2_with (first | (refine wpList_load_blk (by rfl) 29 _ rfl rfl h1 Tryz.underlying29 rfl (by kernel_rfl) ?_) | (refine wpList_store_blk rfl 29 _ _ rfl rfl rfl k2 (hr_info _) (by simp [hrC_size]) (hrC_one _) ?_))
      (try simp only [Exit.inBlock, Exit.then]); (try rw [Exit.noGoto_ret]); refine bodyPost_ret (results_c2 rfl _ _ _ _ _ _ rfl ((k2.row _)) rfl Tryz.underlying29 (hr_info _)) rfl ?_
      exact ⟨by rw [hq, hg]; rfl, HE.out.row (by omega) _⟩
  · have d1 : decide (y < 0) = true := by simp; omega
    have hb : piB y = false := by rw [piB_eq, decide_eq_false_iff_not]; omega
    have hq : piH h y = h := by rw [piH_eq, hb]; rfl
    have hg : piG y = 1 := by unfold piG; rw [hb]; rfl
    clear h0 hb
    go_enter Tryz.func13, Tryz.ntmps13
    go_wp2_with (first | (refine wpList_load_blk (by rfl) 29 _ rfl rfl h1 Tryz.underlying29 rfl (by kernel_rfl) ?_) | (refine wpList_store_blk rfl 29 _ _ rfl rfl rfl k2 (hr_info _) (by simp [hrC_size]) (hrC_one _) ?_))
    (try simp only [Exit.inBlock, Exit.then]); (try rw [Exit.noGoto_ret]); refine bodyPost_ret (results_c2 rfl _ _ _ _ _ _ rfl ((k2.row _)) rfl Tryz.underlying29 (hr_info _)) rfl ?_
    exact ⟨by rw [hq, hg]; rfl, HE.out.row (by omega) _⟩
theorem rdrop17_c (A : Option Addr) (h : Hr) (c : Nat) (i v : Int) (hrt : rightT h.L = true) (w : World) (hr : RowV KS w A h.L c) :
    Calls Tryz.prog 35 #[.agg #[.slice A h.L.length c], .int .i64 i, .int .i64 v] w fun r w' => ∃ A' c', r = .returned (.tuple #[.agg #[.slice A' (evH h i v).L.length c'], .int .i64 (evG h i v)]) ∧ RowV KS w' A' (evH h i v).L c' ∧ Ext w w' := by
  have hl := rt_len hrt
  unfold evG
  cases hb : evB h i v
  · have hq : evH h i v = h := by rw [evH_eq, hb]; rfl
    rw [hq]
    have hn : ¬ (0 ≤ i ∧ i < h.L.length ∧ 0 ≤ v ∧ v ≤ 3) := by
      rw [evB_eq, decide_eq_false_iff_not] at hb
      exact hb
    exact (rdrop14_no A h.L.length c i v hn w).mono fun r w' ⟨h1, h2⟩ => ⟨A, c, h1, hr.ext h2, h2⟩
  · obtain ⟨e1, e2, e3, e4, e5⟩ := ev_cases hb
    rw [e5]
    have hc := rdrop14_c A h.L c (by omega) i.toNat v.toNat e1 e2 w hr
    rw [e3, e4] at hc
    exact hc.mono fun r w' ⟨A', c', h1, h2, _, h4⟩ => ⟨A', c', h1, h2, h4⟩
theorem revict17_c (A : Option Addr) (h : Hr) (c : Nat) (i v : Int) (hrt : rightT h.L = true) (w : World) (hr : RowV KS w A h.L c) :
    Calls Tryz.prog 11 #[.agg (hrC ⟨A, c, h⟩), .int .i64 i, .int .i64 v] w (EvT h i v w) := by
  have h1 : Blk ((w.alloc (.cells (hrC ⟨A, c, h⟩) 29)).alloc (.cells #[.slice none 0 0, .int .u64 0, .int .u64 0, .int .u64 0, .int .i64 0, .bool false, .bool false, .int .i64 0] 29)) w.heap.size 29 (hrC ⟨A, c, h⟩) := (Blk.new w _ _).alloc _
  have k2 : Blk ((w.alloc (.cells (hrC ⟨A, c, h⟩) 29)).alloc (.cells #[.slice none 0 0, .int .u64 0, .int .u64 0, .int .u64 0, .int .i64 0, .bool false, .bool false, .int .i64 0] 29)) (w.heap.size + 1) 29 #[.slice none 0 0, .int .u64 0, .int .u64 0, .int .u64 0, .int .i64 0, .bool false, .bool false, .int .i64 0] := blk_at (by simp)
  have HE := Lib.hid (((Ext.refl w).alloc (.cells (hrC ⟨A, c, h⟩) 29)).alloc (.cells #[.slice none 0 0, .int .u64 0, .int .u64 0, .int .u64 0, .int .i64 0, .bool false, .bool false, .int .i64 0] 29))
  have hrow : ∀ W : World, Ext w W → RowV KS W A h.L c := fun W e => hr.ext e
  have cdr := fun W r => rdrop17_c A h c i v hrt W r
  have hL : evH h i v = { h with L := (evH h i v).L } := by
    rw [evH_eq]
    split <;> rfl
  unfold EvT
  generalize evG h i v = G at *
  generalize evH h i v = H at *
  have EL := Lib.hid hL
  clear hrt hL
  go_enter Tryz.func11, Tryz.ntmps11
  go_wp2_with (refine wpList_load_part (by rfl) 24 _ rfl rfl h1 (hrC_tlb A c h) Tryz.underlying24 rfl (tb_info _) ?_)
  refine (cdr _ (hrow _ HE.out)).mono ?_
  rintro r5 w' ⟨A2, c2, rfl, hr2, hE⟩
  replace h1 := h1.ext hE
  replace k2 := k2.ext hE
  replace HE := Lib.hid (HE.out.trans hE)
  clear hE cdr hrow hr
  have hg2 := k2.lt
  have z1 := Blk.new w' 24 #[.slice none 0 0]
  have hE := (Ext.refl w').alloc (.cells #[.slice none 0 0] 24)
  replace h1 := h1.ext hE
  replace k2 := k2.ext hE
  replace hr2 := hr2.ext hE
  replace HE := Lib.hid (HE.out.trans hE)
  clear hE
  go_upto_region 2 with (refine wpList_store_blk rfl 24 _ _ rfl rfl rfl z1 (by kernel_rfl) (by rfl) (by simp [Value.oneCell']) ?_)
  (try simp only [Act.put, List.setIfInBounds_toArray, List.set_cons_zero, List.set_cons_succ])
  replace h1 := h1.apart (show w.heap.size ≠ w'.heap.size by omega) #[.slice A2 H.L.length c2]
  replace k2 := k2.apart (show w.heap.size + 1 ≠ w'.heap.size by omega) #[.slice A2 H.L.length c2]
  replace hr2 := hr2.set z1 (by decide) #[.slice A2 H.L.length c2]
  replace HE := Lib.hid (HE.out.row (show w.heap.size ≤ w'.heap.size by omega) #[.slice A2 H.L.length c2])
  replace z1 := z1.row #[.slice A2 H.L.length c2]
  generalize w'.heap.size = g at *
  generalize (w'.alloc (.cells #[.slice none 0 0] 24)).setRow g #[.slice A2 H.L.length c2] = W1 at *
  go_upto_region 3 with (first | (refine wpList_load_blk (by rfl) 24 _ rfl rfl z1 Tryz.underlying24 rfl (by kernel_rfl) ?_) | (refine wpList_store_part rfl 24 _ _ rfl rfl rfl h1 (by rw [hrC_size]; show 0 + 1 ≤ 8; decide) (hrC_put0 A A2 c c2 h (L := H.L) rfl) (tb_info _) (tbx_one _ _ _) ?_))
  (try simp only [Act.put, List.setIfInBounds_toArray, List.set_cons_zero, List.set_cons_succ])
  rw [← EL.out]
  replace k2 := k2.apart (show w.heap.size + 1 ≠ w.heap.size by omega) (hrC ⟨A2, c2, H⟩)
  replace hr2 := hr2.set h1 (by rw [hrC_size]; decide) (hrC ⟨A2, c2, H⟩)
  replace HE := Lib.hid (HE.out.row (Nat.le_refl _) (hrC ⟨A2, c2, H⟩))
  replace h1 := h1.row (hrC ⟨A2, c2, H⟩)
  generalize W1.setRow w.heap.size (hrC ⟨A2, c2, H⟩) = W2 at *
  go_wp2_with (first | (refine wpList_load_blk (by rfl) 29 _ rfl rfl h1 Tryz.underlying29 rfl (by kernel_rfl) ?_) | (refine wpList_store_blk rfl 29 _ _ rfl rfl rfl k2 (hr_info _) (by simp [hrC_size]) (hrC_one _) ?_))
  (try simp only [Exit.inBlock, Exit.then]); (try rw [Exit.noGoto_ret]); refine bodyPost_ret (results_c2 rfl _ _ _ _ _ _ rfl ((k2.row _)) rfl Tryz.underlying29 (hr_info _)) rfl ?_
  exact ⟨A2, c2, rfl, hr2.set k2 (by decide) _, HE.out.row (by omega) _⟩
theorem rput14_any (A : Option Addr) (L : List St) (c : Nat) (e : En) (v : Int) (hrt : rightT L = true) (hm : mayE e = true) (hv : e.v = true) (w : World) (hr : RowV KS w A L c) :
    Calls Tryz.prog 32 #[.agg #[.slice A L.length c], .agg (enC e), .int .i64 v] w (TlbR (putT e v L) w) := by
  have hl := rt_len hrt
  rcases Nat.eq_zero_or_pos L.length with h0 | hp
  · obtain rfl := List.eq_nil_of_length_eq_zero h0
    exact (rput14_nil A c e v w).mono fun r w' ⟨h1, hE⟩ => ⟨A, c, by rw [putT_nil rfl]; exact h1, by rw [putT_nil rfl]; exact hr.ext hE, hE⟩
  · have k := may_v hm hv
    exact (rput14_c A L c (by omega) hp e v k.l0 k.l2 (by have := (may_lt hm).1; omega) (right_t (rt_s hrt (ix_lt hp _ _))) w hr).mono fun r w' ⟨A', c', h1, h2, _, h4⟩ => ⟨A', c', h1, h2, h4⟩
set_option maxHeartbeats 4000000 in
theorem rbring17_c (A : Option Addr) (h : Hr) (c S : Nat) (B : Option Addr) (M : List (Nat × Nat)) (d a k : Nat) (hr : rightH h = true) (hk : k < 3) (a1 : a < 18446744073709551616) (w : World) (hrw : RowV KS w A h.L c) (hM : Mem w S B M d) (hf : M.length ≤ 990) (hT : Layh w) :
    Calls Tryz.prog 9 #[.agg (hrC ⟨A, c, h⟩), .agg #[.int .u64 (S : Int), .slice B M.length d], .int .u64 (a : Int), .int .i64 (k : Int)] w (BrT B S M h a w) := by
  obtain ⟨r1, r2, r3⟩ := right_split hr
  obtain ⟨W0, hW⟩ : ∃ W0, W0 = (((w.alloc (.cells (hrC ⟨A, c, h⟩) 29)).alloc (.cells #[.int .u64 (S : Int), .slice B M.length d] 32)).alloc (.cells #[.slice none 0 0, .int .u64 0, .int .u64 0, .int .u64 0, .int .i64 0, .bool false, .bool false, .int .i64 0] 29)).alloc (.cells #[.int .u64 0, .slice none 0 0] 32) := ⟨_, rfl⟩
  have HE : Hid (Ext w W0) := Lib.hid (by rw [hW]; exact ((((Ext.refl w).alloc _).alloc _).alloc _).alloc _)
  have h1 : Blk W0 w.heap.size 29 (hrC ⟨A, c, h⟩) := by rw [hW]; exact (((Blk.new w _ _).alloc _).alloc _).alloc _
  have h2 : Blk W0 (w.heap.size + 1) 32 #[.int .u64 (S : Int), .slice B M.length d] := by rw [hW]; exact ((blk_at (by simp)).alloc _).alloc _
  have k3 : Blk W0 (w.heap.size + 2) 29 #[.slice none 0 0, .int .u64 0, .int .u64 0, .int .u64 0, .int .i64 0, .bool false, .bool false, .int .i64 0] := by rw [hW]; exact (blk_at (by simp)).alloc _
  have k4 : Blk W0 (w.heap.size + 3) 32 #[.int .u64 0, .slice none 0 0] := by rw [hW]; exact blk_at (by simp)
  have hrow : ∀ W : World, Ext w W → RowV KS W A h.L c := fun W e => hrw.ext e
  have hMm : ∀ W : World, Ext w W → Mem W S B M d := fun W e => hM.ext e
  have hTE : ∀ W : World, Ext w W → Layh W := fun W e => hT.ext e
  have crl := fun W m => rlook_c (w := W) (S := S) (A := B) (L := M) (c := d) m (r := h.sp.pp) (a := a) (sm_fits r2).2.2 a1 k hk
  have HW := Lib.hid hW
  clear hW
  unfold BrT
  by_cases hmd : h.sp.md = 8
  case neg =>
    have hb : brB S M h a = false := by unfold brB; simp [hmd]
    obtain ⟨hBM, hBH⟩ := br_no hb
    have d0 : ((h.sp.md : Int) != 8) = true := by simp; omega
    rw [hBM, hBH]
    clear hb hBM hBH crl
    go_enter Tryz.func9, Tryz.ntmps9
    go_upto_region 1 with fail
    rw [← HW.out]
    clear HW
    have x1 := h1.hr.md
    go_wp2_with fail
    clear x1
    (try replace hb := Blk.drew hb); (try replace h1 := Blk.drew h1); (try replace h2 := Blk.drew h2); (try replace h5 := Blk.drew h5); (try replace h6 := Blk.drew h6); (try replace h7 := Blk.drew h7); (try replace h8 := Blk.drew h8); (try replace k3 := Blk.drew k3); (try replace k4 := Blk.drew k4); replace HE := Lib.hid HE.out.drew
    refine wp_region_seq [(0, false), (1, false), (2, true), (3, true)] (Gap (w.heap.size + 2) (w.heap.size + 4)) (by kernel_rfl) (by kernel_rfl) (Gap.refl _ _) (fun _ _ _ => Gap.trans) ?_; simp only [List.map, nth_z, nth_s]
    (repeat (first | (refine seq_skip (by rfl) ?_; intro K hK; simp only [Act.put, List.setIfInBounds_toArray, List.set_cons_zero, List.set_cons_succ]; refine hK _ ?_; clear hK K) | (refine seq_skipc (by rfl) ?_; intro K hK; simp only [Act.put, List.setIfInBounds_toArray, List.set_cons_zero, List.set_cons_succ]; refine hK _ ?_; clear hK K) | (refine seq_read (by rfl) (by rfl) ?_; intro K hK; go_big_quiet_op; first | go_big_quiet_on | (refine ⟨_, fun _ _ => rfl, ?_⟩; go_big_quiet_on)) | (refine seq_nil rfl rfl (by rfl) ?_; intro K hK; simp only [Act.put, List.setIfInBounds_toArray, List.set_cons_zero, List.set_cons_succ]; refine hK _ ?_; clear hK K)))
    refine seq_load rfl rfl (fun x hx => Gap.blk hx (h1) (by omega)) rfl Tryz.underlying29 (hr_info _) (by rfl) ?_; intro K hK; simp only [Act.put, List.setIfInBounds_toArray, List.set_cons_zero, List.set_cons_succ]; refine hK _ ?_; clear hK K
    (repeat (first | (refine seq_skip (by rfl) ?_; intro K hK; simp only [Act.put, List.setIfInBounds_toArray, List.set_cons_zero, List.set_cons_succ]; refine hK _ ?_; clear hK K) | (refine seq_skipc (by rfl) ?_; intro K hK; simp only [Act.put, List.setIfInBounds_toArray, List.set_cons_zero, List.set_cons_succ]; refine hK _ ?_; clear hK K) | (refine seq_read (by rfl) (by rfl) ?_; intro K hK; go_big_quiet_op; first | go_big_quiet_on | (refine ⟨_, fun _ _ => rfl, ?_⟩; go_big_quiet_on)) | (refine seq_nil rfl rfl (by rfl) ?_; intro K hK; simp only [Act.put, List.setIfInBounds_toArray, List.set_cons_zero, List.set_cons_succ]; refine hK _ ?_; clear hK K)))
    refine seq_load rfl rfl (fun x hx => Gap.blk hx (h2) (by omega)) rfl Tryz.underlying32 (me_info _ _ _ _) (by rfl) ?_; intro K hK; simp only [Act.put, List.setIfInBounds_toArray, List.set_cons_zero, List.set_cons_succ]; refine hK _ ?_; clear hK K
    (repeat (first | (refine seq_skip (by rfl) ?_; intro K hK; simp only [Act.put, List.setIfInBounds_toArray, List.set_cons_zero, List.set_cons_succ]; refine hK _ ?_; clear hK K) | (refine seq_skipc (by rfl) ?_; intro K hK; simp only [Act.put, List.setIfInBounds_toArray, List.set_cons_zero, List.set_cons_succ]; refine hK _ ?_; clear hK K) | (refine seq_read (by rfl) (by rfl) ?_; intro K hK; go_big_quiet_op; first | go_big_quiet_on | (refine ⟨_, fun _ _ => rfl, ?_⟩; go_big_quiet_on)) | (refine seq_nil rfl rfl (by rfl) ?_; intro K hK; simp only [Act.put, List.setIfInBounds_toArray, List.set_cons_zero, List.set_cons_succ]; refine hK _ ?_; clear hK K)))
    refine seq_store_row rfl rfl rfl (k3) (hr_info _) (by simp [hrC_size]) (hrC_one _) (by rfl) (Gap.row _ (by omega) (by omega) _) ?_; intro K hK; simp only [Act.put, List.setIfInBounds_toArray, List.set_cons_zero, List.set_cons_succ]; refine hK _ _ ?_; clear hK K
    refine seq_store_row rfl rfl rfl ((k4.apart (by omega) _)) (by kernel_rfl) (by rfl) (by simp [Value.oneCell']) (by rfl) (Gap.row _ (by omega) (by omega) _) ?_; intro K hK; simp only [Act.put, List.setIfInBounds_toArray, List.set_cons_zero, List.set_cons_succ]; refine hK _ _ ?_; clear hK K
    refine seq_done ?_
    go_wp2
    (try simp only [Exit.inBlock, Exit.then]); (try rw [Exit.noGoto_ret]); refine bodyPost_ret (results_cc rfl _ _ rfl rfl (((k3.row _).apart (by omega) _)) (((k4.apart (by omega) _).row _)) Tryz.underlying29 rfl (by first | exact hr_info _ | kernel_rfl) Tryz.underlying32 rfl (by first | exact me_info _ | kernel_rfl)) rfl ?_
    exact ⟨A, B, c, d, rfl, ((hrow _ HE.out).set k3 (by decide) _).set (k4.apart (by omega) _) (by decide) _, ((hMm _ HE.out).set ((hM.out (w.heap.size + 4)).one (by omega) (by omega)) _).set ((hM.out (w.heap.size + 4)).one (by omega) (by omega)) _, (HE.out.row (by omega) _).row (by omega) _, fun _ _ _ h0 => h0⟩
  have d0 : ((h.sp.md : Int) != 8) = false := by rw [hmd]; rfl
  by_cases hso : (lookN S M h.sp.pp a).so = 0
  case neg =>
    have hb : brB S M h a = false := by unfold brB; simp [hso]
    obtain ⟨hBM, hBH⟩ := br_no hb
    have hfb : (fltF (lookN S M h.sp.pp a).so k a).b = true := by rw [flt_eq hso]
    rw [hBM, hBH]
    clear hb hBM hBH hso
    generalize fltF (lookN S M h.sp.pp a).so k a = F at *
    generalize (lookN S M h.sp.pp a).lf = l at *
    go_enter Tryz.func9, Tryz.ntmps9
    go_upto_region 1 with fail
    rw [← HW.out]
    clear HW
    have x1 := h1.hr.md
    have x2 := h1.hr.pp
    go_wp2_with (refine wpList_load_blk (by rfl) 32 _ rfl rfl h2 Tryz.underlying32 rfl (by kernel_rfl) ?_)
    clear x1 x2
    refine (crl _ (hMm _ HE.out)).mono ?_
    rintro r5 w' ⟨rfl, hE⟩
    (try replace hb := hb.ext hE); (try replace h1 := h1.ext hE); (try replace h2 := h2.ext hE); (try replace h5 := h5.ext hE); (try replace h6 := h6.ext hE); (try replace h7 := h7.ext hE); (try replace h8 := h8.ext hE); (try replace k3 := k3.ext hE); (try replace k4 := k4.ext hE); (try replace hM := hM.ext hE); (try replace hN := hN.ext hE); (try replace HE := Lib.hid (HE.out.trans hE)); (try replace r0 := r0.ext hE); (try replace r1 := r1.ext hE); (try replace r2 := r2.ext hE); (try replace r3 := r3.ext hE); (try replace r4 := r4.ext hE); (try replace r5 := r5.ext hE); (try replace r6 := r6.ext hE)
    clear hE crl
    have zz1 : Blk ((w'.alloc (.cells #[.int .i64 0, .int .u64 0, .bool false, .bool false, .bool false, .bool false, .bool false, .bool false, .bool false, .bool false, .int .u64 0, .int .u64 0, .int .u64 0] 75)).alloc (.cells #[.bool false, .int .i64 0, .int .u64 0] 54)) w'.heap.size 75 #[.int .i64 0, .int .u64 0, .bool false, .bool false, .bool false, .bool false, .bool false, .bool false, .bool false, .bool false, .int .u64 0, .int .u64 0, .int .u64 0] := (Blk.new _ _ _).alloc _; have zz2 : Blk (((w'.alloc (.cells #[.int .i64 0, .int .u64 0, .bool false, .bool false, .bool false, .bool false, .bool false, .bool false, .bool false, .bool false, .int .u64 0, .int .u64 0, .int .u64 0] 75)).alloc (.cells #[.bool false, .int .i64 0, .int .u64 0] 54)).setRow w'.heap.size (lfC l)) (w'.heap.size + 1) 54 #[.bool false, .int .i64 0, .int .u64 0] := Blk.apart (blk_at (by simp)) (by omega) _; have hE := ((((Ext.refl w').alloc (.cells #[.int .i64 0, .int .u64 0, .bool false, .bool false, .bool false, .bool false, .bool false, .bool false, .bool false, .bool false, .int .u64 0, .int .u64 0, .int .u64 0] 75)).alloc (.cells #[.bool false, .int .i64 0, .int .u64 0] 54)).row (show w'.heap.size ≤ w'.heap.size from Nat.le_refl _) (lfC l)).row (show w'.heap.size ≤ w'.heap.size + 1 by omega) (ftC F); (try replace hb := hb.ext hE); (try replace h1 := h1.ext hE); (try replace h2 := h2.ext hE); (try replace h5 := h5.ext hE); (try replace h6 := h6.ext hE); (try replace h7 := h7.ext hE); (try replace h8 := h8.ext hE); (try replace k3 := k3.ext hE); (try replace k4 := k4.ext hE); (try replace hM := hM.ext hE); (try replace hN := hN.ext hE); (try replace HE := Lib.hid (HE.out.trans hE)); clear hE; have h5 := (zz1.row (lfC l)).apart (show w'.heap.size ≠ w'.heap.size + 1 by omega) (ftC F); have h6 := zz2.row (ftC F)
    have x6 := h6.ft.1
    rw [hfb] at x6
    go_upto_region 5 with (first | (refine wpList_store_blk rfl 75 _ _ rfl rfl rfl zz1 (lf_info _) (by simp [lfC_size]) (lfC_one _) ?_) | ((refine wpList_store_blk rfl 54 _ _ rfl rfl rfl zz2 (ft_info _) (by simp [ftC_size]) (ftC_one _) ?_); clear zz1 zz2; generalize (((w'.alloc (.cells #[.int .i64 0, .int .u64 0, .bool false, .bool false, .bool false, .bool false, .bool false, .bool false, .bool false, .bool false, .int .u64 0, .int .u64 0, .int .u64 0] 75)).alloc (.cells #[.bool false, .int .i64 0, .int .u64 0] 54)).setRow w'.heap.size (lfC l)).setRow (w'.heap.size + 1) (ftC F) = X at *) | (refine wpList_load_blk (by rfl) 32 _ rfl rfl (by first | exact h1 | exact h2 | exact h5 | exact h6 | exact h7 | exact h8 | exact k3 | exact k4 | exact hb) Tryz.underlying32 rfl (by kernel_rfl) ?_) | (refine wpList_load_blk (by rfl) 75 _ rfl rfl (by first | exact h1 | exact h2 | exact h5 | exact h6 | exact h7 | exact h8 | exact k3 | exact k4 | exact hb) Tryz.underlying75 rfl (by kernel_rfl) ?_) | (refine wpList_load_blk (by rfl) 54 _ rfl rfl (by first | exact h1 | exact h2 | exact h5 | exact h6 | exact h7 | exact h8 | exact k3 | exact k4 | exact hb) Tryz.underlying54 rfl (by kernel_rfl) ?_) | (refine wpList_load_blk (by rfl) 95 _ rfl rfl (by first | exact h1 | exact h2 | exact h5 | exact h6 | exact h7 | exact h8 | exact k3 | exact k4 | exact hb) Tryz.underlying95 rfl (by kernel_rfl) ?_) | (refine wpList_cmp (op := .eql) (by rfl) 75 rfl rfl rfl (lf_guard) ((fun w => run_b (eql_lf w _ _) (dec_same _))) ?_) | (refine wpList_cmp (op := .neq) (by rfl) 75 rfl rfl rfl (lf_guard) ((fun w => run_b (neq_lf w _ _) (dec_nots _))) ?_) | (refine wpList_cmp (op := .neq) (by rfl) 54 rfl rfl rfl (ft_guard) ((fun w => run_b (neq_ft w _ _) (dec_nots _))) ?_) | (refine wpList_cmp (op := .eql) (by rfl) 54 rfl rfl rfl (ft_guard) ((fun w => run_b (eql_ft w _ _) (dec_same _))) ?_))
    (try simp only [Act.put, List.setIfInBounds_toArray, List.set_cons_zero, List.set_cons_succ])
    clear x6 h5 h6
    go_wp2_with fail
    (try replace hb := Blk.drew hb); (try replace h1 := Blk.drew h1); (try replace h2 := Blk.drew h2); (try replace h5 := Blk.drew h5); (try replace h6 := Blk.drew h6); (try replace h7 := Blk.drew h7); (try replace h8 := Blk.drew h8); (try replace k3 := Blk.drew k3); (try replace k4 := Blk.drew k4); replace HE := Lib.hid HE.out.drew
    refine wp_region_seq [(0, false), (1, false), (2, true), (3, true)] (Gap (w.heap.size + 2) (w.heap.size + 4)) (by kernel_rfl) (by kernel_rfl) (Gap.refl _ _) (fun _ _ _ => Gap.trans) ?_; simp only [List.map, nth_z, nth_s]
    (repeat (first | (refine seq_skip (by rfl) ?_; intro K hK; simp only [Act.put, List.setIfInBounds_toArray, List.set_cons_zero, List.set_cons_succ]; refine hK _ ?_; clear hK K) | (refine seq_skipc (by rfl) ?_; intro K hK; simp only [Act.put, List.setIfInBounds_toArray, List.set_cons_zero, List.set_cons_succ]; refine hK _ ?_; clear hK K) | (refine seq_read (by rfl) (by rfl) ?_; intro K hK; go_big_quiet_op; first | go_big_quiet_on | (refine ⟨_, fun _ _ => rfl, ?_⟩; go_big_quiet_on)) | (refine seq_nil rfl rfl (by rfl) ?_; intro K hK; simp only [Act.put, List.setIfInBounds_toArray, List.set_cons_zero, List.set_cons_succ]; refine hK _ ?_; clear hK K)))
    refine seq_load rfl rfl (fun x hx => Gap.blk hx (h1) (by omega)) rfl Tryz.underlying29 (hr_info _) (by rfl) ?_; intro K hK; simp only [Act.put, List.setIfInBounds_toArray, List.set_cons_zero, List.set_cons_succ]; refine hK _ ?_; clear hK K
    (repeat (first | (refine seq_skip (by rfl) ?_; intro K hK; simp only [Act.put, List.setIfInBounds_toArray, List.set_cons_zero, List.set_cons_succ]; refine hK _ ?_; clear hK K) | (refine seq_skipc (by rfl) ?_; intro K hK; simp only [Act.put, List.setIfInBounds_toArray, List.set_cons_zero, List.set_cons_succ]; refine hK _ ?_; clear hK K) | (refine seq_read (by rfl) (by rfl) ?_; intro K hK; go_big_quiet_op; first | go_big_quiet_on | (refine ⟨_, fun _ _ => rfl, ?_⟩; go_big_quiet_on)) | (refine seq_nil rfl rfl (by rfl) ?_; intro K hK; simp only [Act.put, List.setIfInBounds_toArray, List.set_cons_zero, List.set_cons_succ]; refine hK _ ?_; clear hK K)))
    refine seq_load rfl rfl (fun x hx => Gap.blk hx (h2) (by omega)) rfl Tryz.underlying32 (me_info _ _ _ _) (by rfl) ?_; intro K hK; simp only [Act.put, List.setIfInBounds_toArray, List.set_cons_zero, List.set_cons_succ]; refine hK _ ?_; clear hK K
    (repeat (first | (refine seq_skip (by rfl) ?_; intro K hK; simp only [Act.put, List.setIfInBounds_toArray, List.set_cons_zero, List.set_cons_succ]; refine hK _ ?_; clear hK K) | (refine seq_skipc (by rfl) ?_; intro K hK; simp only [Act.put, List.setIfInBounds_toArray, List.set_cons_zero, List.set_cons_succ]; refine hK _ ?_; clear hK K) | (refine seq_read (by rfl) (by rfl) ?_; intro K hK; go_big_quiet_op; first | go_big_quiet_on | (refine ⟨_, fun _ _ => rfl, ?_⟩; go_big_quiet_on)) | (refine seq_nil rfl rfl (by rfl) ?_; intro K hK; simp only [Act.put, List.setIfInBounds_toArray, List.set_cons_zero, List.set_cons_succ]; refine hK _ ?_; clear hK K)))
    refine seq_store_row rfl rfl rfl (k3) (hr_info _) (by simp [hrC_size]) (hrC_one _) (by rfl) (Gap.row _ (by omega) (by omega) _) ?_; intro K hK; simp only [Act.put, List.setIfInBounds_toArray, List.set_cons_zero, List.set_cons_succ]; refine hK _ _ ?_; clear hK K
    refine seq_store_row rfl rfl rfl ((k4.apart (by omega) _)) (by kernel_rfl) (by rfl) (by simp [Value.oneCell']) (by rfl) (Gap.row _ (by omega) (by omega) _) ?_; intro K hK; simp only [Act.put, List.setIfInBounds_toArray, List.set_cons_zero, List.set_cons_succ]; refine hK _ _ ?_; clear hK K
    refine seq_done ?_
    go_wp2
    (try simp only [Exit.inBlock, Exit.then]); (try rw [Exit.noGoto_ret]); refine bodyPost_ret (results_cc rfl _ _ rfl rfl (((k3.row _).apart (by omega) _)) (((k4.apart (by omega) _).row _)) Tryz.underlying29 rfl (by first | exact hr_info _ | kernel_rfl) Tryz.underlying32 rfl (by first | exact me_info _ | kernel_rfl)) rfl ?_
    exact ⟨A, B, c, d, rfl, ((hrow _ HE.out).set k3 (by decide) _).set (k4.apart (by omega) _) (by decide) _, ((hMm _ HE.out).set ((hM.out (w.heap.size + 4)).one (by omega) (by omega)) _).set ((hM.out (w.heap.size + 4)).one (by omega) (by omega)) _, (HE.out.row (by omega) _).row (by omega) _, fun _ _ _ h0 => h0⟩
  have hb : brB S M h a = true := by unfold brB; simp [hmd, hso]
  have BB := brings hM.rl a1 (sm_fits r2).2.1 hb
  obtain ⟨-, -, hBM, hBH⟩ := br_yes hb
  have hBF : brF S M h a = { (lookN S M h.sp.pp a).lf with pt := usedP (lookN S M h.sp.pp a).lf.pt false } := by unfold brF; rfl
  have y1 := BB.lf.al
  have y2 := BB.lf.lt
  have y3 := (leaf_g BB.lf).2.1
  have y4 := BB.le
  have y5 := BB.may
  have y6 := BB.v
  have crm := fun W m => rmark_c (w := W) (S := S) (A := B) (L := M) (c := d) m (by omega) (lookN S M h.sp.pp a).lf y1 y2 y3 false
  unfold Marked at crm
  have hfz : fltF (lookN S M h.sp.pp a).so k a = ⟨false, 0, 0⟩ := by rw [hso]; unfold fltF; rfl
  rw [hfz] at crl
  rw [← hBF, ← hBM] at crm
  have hK0 : (brM S M h a).length ≤ 991 := by have := brM_len (S := S) (M := M) (h := h) (a := a); omega
  have EH := Lib.hid hBH
  clear hfz hBF hBM hBH BB hb hso y1 y2 y3
  generalize brM S M h a = K at *
  generalize brF S M h a = F at *
  generalize (lookN S M h.sp.pp a).lf = l at *
  have cof := fun W => rof12_c F y4 a h.sp.ai a1 W
  have cpt := fun W r => rput14_any A h.L c (ofE F a h.sp.ai) h.vi r1 y5 y6 W r
  unfold TlbR at cpt
  generalize ofE F a h.sp.ai = en at *
  clear y4 y5 y6
  go_enter Tryz.func9, Tryz.ntmps9
  go_upto_region 1 with fail
  rw [← HW.out]
  clear HW
  have x1 := h1.hr.md
  have x2 := h1.hr.pp
  go_wp2_with (refine wpList_load_blk (by rfl) 32 _ rfl rfl h2 Tryz.underlying32 rfl (by kernel_rfl) ?_)
  clear x1 x2
  refine (crl _ (hMm _ HE.out)).mono ?_
  rintro r5 w' ⟨rfl, hE⟩
  (try replace hb := hb.ext hE); (try replace h1 := h1.ext hE); (try replace h2 := h2.ext hE); (try replace h5 := h5.ext hE); (try replace h6 := h6.ext hE); (try replace h7 := h7.ext hE); (try replace h8 := h8.ext hE); (try replace k3 := k3.ext hE); (try replace k4 := k4.ext hE); (try replace hM := hM.ext hE); (try replace hN := hN.ext hE); (try replace HE := Lib.hid (HE.out.trans hE)); (try replace r0 := r0.ext hE); (try replace r1 := r1.ext hE); (try replace r2 := r2.ext hE); (try replace r3 := r3.ext hE); (try replace r4 := r4.ext hE); (try replace r5 := r5.ext hE); (try replace r6 := r6.ext hE)
  clear hE crl
  have zz1 : Blk ((w'.alloc (.cells #[.int .i64 0, .int .u64 0, .bool false, .bool false, .bool false, .bool false, .bool false, .bool false, .bool false, .bool false, .int .u64 0, .int .u64 0, .int .u64 0] 75)).alloc (.cells #[.bool false, .int .i64 0, .int .u64 0] 54)) w'.heap.size 75 #[.int .i64 0, .int .u64 0, .bool false, .bool false, .bool false, .bool false, .bool false, .bool false, .bool false, .bool false, .int .u64 0, .int .u64 0, .int .u64 0] := (Blk.new _ _ _).alloc _; have zz2 : Blk (((w'.alloc (.cells #[.int .i64 0, .int .u64 0, .bool false, .bool false, .bool false, .bool false, .bool false, .bool false, .bool false, .bool false, .int .u64 0, .int .u64 0, .int .u64 0] 75)).alloc (.cells #[.bool false, .int .i64 0, .int .u64 0] 54)).setRow w'.heap.size (lfC l)) (w'.heap.size + 1) 54 #[.bool false, .int .i64 0, .int .u64 0] := Blk.apart (blk_at (by simp)) (by omega) _; have hE := ((((Ext.refl w').alloc (.cells #[.int .i64 0, .int .u64 0, .bool false, .bool false, .bool false, .bool false, .bool false, .bool false, .bool false, .bool false, .int .u64 0, .int .u64 0, .int .u64 0] 75)).alloc (.cells #[.bool false, .int .i64 0, .int .u64 0] 54)).row (show w'.heap.size ≤ w'.heap.size from Nat.le_refl _) (lfC l)).row (show w'.heap.size ≤ w'.heap.size + 1 by omega) (ftC ⟨false, 0, 0⟩); (try replace hb := hb.ext hE); (try replace h1 := h1.ext hE); (try replace h2 := h2.ext hE); (try replace h5 := h5.ext hE); (try replace h6 := h6.ext hE); (try replace h7 := h7.ext hE); (try replace h8 := h8.ext hE); (try replace k3 := k3.ext hE); (try replace k4 := k4.ext hE); (try replace hM := hM.ext hE); (try replace hN := hN.ext hE); (try replace HE := Lib.hid (HE.out.trans hE)); clear hE; have h5 := (zz1.row (lfC l)).apart (show w'.heap.size ≠ w'.heap.size + 1 by omega) (ftC ⟨false, 0, 0⟩); have h6 := zz2.row (ftC ⟨false, 0, 0⟩)
  have x6 : _ = some (Value.bool false) := h6.ft.1
  go_upto_region 6 with (first | (refine wpList_store_blk rfl 75 _ _ rfl rfl rfl zz1 (lf_info _) (by simp [lfC_size]) (lfC_one _) ?_) | ((refine wpList_store_blk rfl 54 _ _ rfl rfl rfl zz2 (ft_info _) (by simp [ftC_size]) (ftC_one _) ?_); clear zz1 zz2; generalize (((w'.alloc (.cells #[.int .i64 0, .int .u64 0, .bool false, .bool false, .bool false, .bool false, .bool false, .bool false, .bool false, .bool false, .int .u64 0, .int .u64 0, .int .u64 0] 75)).alloc (.cells #[.bool false, .int .i64 0, .int .u64 0] 54)).setRow w'.heap.size (lfC l)).setRow (w'.heap.size + 1) (ftC ⟨false, 0, 0⟩) = X at *) | (refine wpList_load_blk (by rfl) 32 _ rfl rfl (by first | exact h1 | exact h2 | exact h5 | exact h6 | exact h7 | exact h8 | exact k3 | exact k4 | exact hb) Tryz.underlying32 rfl (by kernel_rfl) ?_) | (refine wpList_load_blk (by rfl) 75 _ rfl rfl (by first | exact h1 | exact h2 | exact h5 | exact h6 | exact h7 | exact h8 | exact k3 | exact k4 | exact hb) Tryz.underlying75 rfl (by kernel_rfl) ?_) | (refine wpList_load_blk (by rfl) 54 _ rfl rfl (by first | exact h1 | exact h2 | exact h5 | exact h6 | exact h7 | exact h8 | exact k3 | exact k4 | exact hb) Tryz.underlying54 rfl (by kernel_rfl) ?_) | (refine wpList_load_blk (by rfl) 95 _ rfl rfl (by first | exact h1 | exact h2 | exact h5 | exact h6 | exact h7 | exact h8 | exact k3 | exact k4 | exact hb) Tryz.underlying95 rfl (by kernel_rfl) ?_) | (refine wpList_cmp (op := .eql) (by rfl) 75 rfl rfl rfl (lf_guard) ((fun w => run_b (eql_lf w _ _) (dec_same _))) ?_) | (refine wpList_cmp (op := .neq) (by rfl) 75 rfl rfl rfl (lf_guard) ((fun w => run_b (neq_lf w _ _) (dec_nots _))) ?_) | (refine wpList_cmp (op := .neq) (by rfl) 54 rfl rfl rfl (ft_guard) ((fun w => run_b (neq_ft w _ _) (dec_nots _))) ?_) | (refine wpList_cmp (op := .eql) (by rfl) 54 rfl rfl rfl (ft_guard) ((fun w => run_b (eql_ft w _ _) (dec_same _))) ?_))
  (try simp only [Act.put, List.setIfInBounds_toArray, List.set_cons_zero, List.set_cons_succ])
  clear x6 h6
  go_wp2_with (first | (refine wpList_load_blk (by rfl) 32 _ rfl rfl h2 Tryz.underlying32 rfl (by kernel_rfl) ?_) | (refine wpList_load_blk (by rfl) 75 _ rfl rfl h5 Tryz.underlying75 rfl (by kernel_rfl) ?_))
  have hs0 := k4.lt
  refine (crm _ (hMm _ HE.out)).mono ?_
  rintro r6 w6 ⟨B2, d2, rfl, hN, ho2, hE⟩
  have hout : Out w.heap.size (w.heap.size + 4) B2 K.length := ho2 _ _ (by omega) (hM.out _)
  have hol : ∀ lo hi, hi ≤ w.heap.size → Out lo hi B M.length → Out lo hi B2 K.length := fun lo hi hh h0 => ho2 lo hi (by omega) h0
  clear ho2 crm h2 h5
  (try replace hb := hb.ext hE); (try replace h1 := h1.ext hE); (try replace h2 := h2.ext hE); (try replace h5 := h5.ext hE); (try replace h6 := h6.ext hE); (try replace h7 := h7.ext hE); (try replace h8 := h8.ext hE); (try replace k3 := k3.ext hE); (try replace k4 := k4.ext hE); (try replace hM := hM.ext hE); (try replace hN := hN.ext hE); (try replace HE := Lib.hid (HE.out.trans hE)); (try replace r0 := r0.ext hE); (try replace r1 := r1.ext hE); (try replace r2 := r2.ext hE); (try replace r3 := r3.ext hE); (try replace r4 := r4.ext hE); (try replace r5 := r5.ext hE); (try replace r6 := r6.ext hE)
  clear hE
  have hs6 := k4.lt
  have zz1 : Blk ((w6.alloc (.cells #[.int .u64 0, .slice none 0 0] 32)).alloc (.cells #[.int .i64 0, .int .u64 0, .bool false, .bool false, .bool false, .bool false, .bool false, .bool false, .bool false, .bool false, .int .u64 0, .int .u64 0, .int .u64 0] 75)) w6.heap.size 32 #[.int .u64 0, .slice none 0 0] := (Blk.new _ _ _).alloc _
  have zz2 : Blk (((w6.alloc (.cells #[.int .u64 0, .slice none 0 0] 32)).alloc (.cells #[.int .i64 0, .int .u64 0, .bool false, .bool false, .bool false, .bool false, .bool false, .bool false, .bool false, .bool false, .int .u64 0, .int .u64 0, .int .u64 0] 75)).setRow w6.heap.size #[.int .u64 (S : Int), .slice B2 K.length d2]) (w6.heap.size + 1) 75 #[.int .i64 0, .int .u64 0, .bool false, .bool false, .bool false, .bool false, .bool false, .bool false, .bool false, .bool false, .int .u64 0, .int .u64 0, .int .u64 0] := Blk.apart (blk_at (by simp)) (by omega) _
  have h7 := (zz1.row #[.int .u64 (S : Int), .slice B2 K.length d2]).apart (show w6.heap.size ≠ w6.heap.size + 1 by omega) (lfC F)
  have h8 := zz2.row (lfC F)
  have hE := ((((Ext.refl w6).alloc (.cells #[.int .u64 0, .slice none 0 0] 32)).alloc (.cells #[.int .i64 0, .int .u64 0, .bool false, .bool false, .bool false, .bool false, .bool false, .bool false, .bool false, .bool false, .int .u64 0, .int .u64 0, .int .u64 0] 75)).row (Nat.le_refl _) #[.int .u64 (S : Int), .slice B2 K.length d2]).row (show w6.heap.size ≤ w6.heap.size + 1 by omega) (lfC F)
  replace h1 := h1.ext hE
  replace k3 := k3.ext hE
  replace k4 := k4.ext hE
  replace hN := hN.ext hE
  replace HE := Lib.hid (HE.out.trans hE)
  clear hE
  go_upto_region 7 with (first | (refine wpList_store_blk rfl 32 _ _ rfl rfl rfl zz1 (by kernel_rfl) (by rfl) (by simp [Value.oneCell']) ?_) | ((refine wpList_store_blk rfl 75 _ _ rfl rfl rfl zz2 (lf_info _) (by simp [lfC_size]) (lfC_one _) ?_); clear zz1 zz2; generalize (((w6.alloc (.cells #[.int .u64 0, .slice none 0 0] 32)).alloc (.cells #[.int .i64 0, .int .u64 0, .bool false, .bool false, .bool false, .bool false, .bool false, .bool false, .bool false, .bool false, .int .u64 0, .int .u64 0, .int .u64 0] 75)).setRow w6.heap.size #[.int .u64 (S : Int), .slice B2 K.length d2]).setRow (w6.heap.size + 1) (lfC F) = X2 at *))
  (try simp only [Act.put, List.setIfInBounds_toArray, List.set_cons_zero, List.set_cons_succ])
  generalize w6.heap.size = g7 at *
  generalize w'.heap.size = g5 at *
  have hrX : ∀ W : World, Ext X2 W → RowV KS W A h.L c := fun W e => hrow W (HE.out.trans e)
  have HW := HE
  clear HE
  have HE := Lib.hid (Ext.refl X2)
  have hn2 := h1.lt
  go_cut [] from 40 to 52 (fun wx => ∃ A6 c6, Hid (Blk wx w.heap.size 29 (hrC ⟨A6, c6, { h with L := putT en h.vi h.L }⟩)) ∧ Hid (RowV KS wx A6 (putT en h.vi h.L) c6) ∧ Only w.heap.size X2 wx)
  case first =>
    go_wp2_with fail
    (try replace hb := Blk.drew hb); (try replace h1 := Blk.drew h1); (try replace h2 := Blk.drew h2); (try replace h5 := Blk.drew h5); (try replace h6 := Blk.drew h6); (try replace h7 := Blk.drew h7); (try replace h8 := Blk.drew h8); (try replace k3 := Blk.drew k3); (try replace k4 := Blk.drew k4); replace HE := Lib.hid HE.out.drew
    refine wp_region_fork [(0, false), (2, false), (3, false), (4, false), (5, false), (6, false), (8, false), (9, false)] 1 [(7, true), (10, true), (11, false), (12, true)] 7 [(1, true), (10, true), (11, false), (12, true)] (Save w.heap.size 0 1) (by kernel_rfl) (by kernel_rfl) (Save.refl _ _ _) (fun _ _ _ => Save.trans) ?_
    simp only [List.map, nth_z, nth_s]
    (repeat (first | (refine seq_skip (by rfl) ?_; intro K hK; simp only [Act.put, List.setIfInBounds_toArray, List.set_cons_zero, List.set_cons_succ]; refine hK _ ?_; clear hK K) | (refine seq_skipc (by rfl) ?_; intro K hK; simp only [Act.put, List.setIfInBounds_toArray, List.set_cons_zero, List.set_cons_succ]; refine hK _ ?_; clear hK K) | (refine seq_read (by rfl) (by rfl) ?_; intro K hK; go_big_quiet_op; first | go_big_quiet_on | (refine ⟨_, fun _ _ => rfl, ?_⟩; go_big_quiet_on)) | (refine seq_nil rfl rfl (by rfl) ?_; intro K hK; simp only [Act.put, List.setIfInBounds_toArray, List.set_cons_zero, List.set_cons_succ]; refine hK _ ?_; clear hK K)))
    refine seq_load rfl rfl (fun y hx => Save.blk hx h8 (by omega)) rfl Tryz.underlying75 (lf_info _) (by rfl) ?_
    intro K hK; simp only [Act.put, List.setIfInBounds_toArray, List.set_cons_zero, List.set_cons_succ]; refine hK _ ?_; clear hK K
    (repeat (first | (refine seq_skip (by rfl) ?_; intro K hK; simp only [Act.put, List.setIfInBounds_toArray, List.set_cons_zero, List.set_cons_succ]; refine hK _ ?_; clear hK K) | (refine seq_skipc (by rfl) ?_; intro K hK; simp only [Act.put, List.setIfInBounds_toArray, List.set_cons_zero, List.set_cons_succ]; refine hK _ ?_; clear hK K) | (refine seq_read (by rfl) (by rfl) ?_; intro K hK; go_big_quiet_op; first | go_big_quiet_on | (refine ⟨_, fun _ _ => rfl, ?_⟩; go_big_quiet_on)) | (refine seq_nil rfl rfl (by rfl) ?_; intro K hK; simp only [Act.put, List.setIfInBounds_toArray, List.set_cons_zero, List.set_cons_succ]; refine hK _ ?_; clear hK K)))
    refine seq_value (.int .u64 (h.sp.ai : Int)) (by rfl) (fun x hx => by have hq := (hx.cell h1 (by omega) h1.hr.ai); simp [go_sem, execOp, Act.eval, hq]) ?_; intro K hK; simp only [Act.put, List.setIfInBounds_toArray, List.set_cons_zero, List.set_cons_succ]; refine hK _ ?_; clear hK K
    (repeat (first | (refine seq_skip (by rfl) ?_; intro K hK; simp only [Act.put, List.setIfInBounds_toArray, List.set_cons_zero, List.set_cons_succ]; refine hK _ ?_; clear hK K) | (refine seq_skipc (by rfl) ?_; intro K hK; simp only [Act.put, List.setIfInBounds_toArray, List.set_cons_zero, List.set_cons_succ]; refine hK _ ?_; clear hK K) | (refine seq_read (by rfl) (by rfl) ?_; intro K hK; go_big_quiet_op; first | go_big_quiet_on | (refine ⟨_, fun _ _ => rfl, ?_⟩; go_big_quiet_on)) | (refine seq_nil rfl rfl (by rfl) ?_; intro K hK; simp only [Act.put, List.setIfInBounds_toArray, List.set_cons_zero, List.set_cons_succ]; refine hK _ ?_; clear hK K)))
    refine seq_value (.int .i64 h.vi) (by rfl) (fun x hx => by have hq := (hx.cell h1 (by omega) h1.hr.vi); simp [go_sem, execOp, Act.eval, hq]) ?_; intro K hK; simp only [Act.put, List.setIfInBounds_toArray, List.set_cons_zero, List.set_cons_succ]; refine hK _ ?_; clear hK K
    (repeat (first | (refine seq_skip (by rfl) ?_; intro K hK; simp only [Act.put, List.setIfInBounds_toArray, List.set_cons_zero, List.set_cons_succ]; refine hK _ ?_; clear hK K) | (refine seq_skipc (by rfl) ?_; intro K hK; simp only [Act.put, List.setIfInBounds_toArray, List.set_cons_zero, List.set_cons_succ]; refine hK _ ?_; clear hK K) | (refine seq_read (by rfl) (by rfl) ?_; intro K hK; go_big_quiet_op; first | go_big_quiet_on | (refine ⟨_, fun _ _ => rfl, ?_⟩; go_big_quiet_on)) | (refine seq_nil rfl rfl (by rfl) ?_; intro K hK; simp only [Act.put, List.setIfInBounds_toArray, List.set_cons_zero, List.set_cons_succ]; refine hK _ ?_; clear hK K)))
    refine seq_done ?_
    refine ⟨?_, ?_⟩
    · skip
      refine seq_part_now rfl rfl (h1) (hrC_tlb A c h) rfl Tryz.underlying24 (tb_info _) (by rfl) ((Save.refl _ _ _ _)) ?_; intro K hK; simp only [Act.put, List.setIfInBounds_toArray, List.set_cons_zero, List.set_cons_succ]; refine hK _ _ ?_; clear hK K
      refine seq_call (cof _) rfl Tryz.func33 (by kernel_rfl) (by kernel_rfl) (by rfl) (by rfl) ?_; intro K hK; rintro e w' ⟨rfl, hE⟩; refine ⟨_, rfl, (Save.ext hE), ?_⟩; simp only [Act.put, List.setIfInBounds_toArray, List.set_cons_zero, List.set_cons_succ]; refine hK _ _ ?_; clear hK K
      replace h1 := h1.ext hE
      replace HE := Lib.hid (HE.out.trans hE)
      clear hE
      refine seq_call (cpt _ (hrX _ HE.out)) rfl Tryz.func32 (by kernel_rfl) (by kernel_rfl) (by rfl) (by rfl) ?_; intro K hK; rintro e w' ⟨A6, c6, rfl, hr6, hE⟩; refine ⟨_, rfl, (Save.ext hE), ?_⟩; simp only [Act.put, List.setIfInBounds_toArray, List.set_cons_zero, List.set_cons_succ]; refine hK _ _ ?_; clear hK K
      replace h1 := h1.ext hE
      replace HE := Lib.hid (HE.out.trans hE)
      clear hE
      (repeat (first | (refine seq_skip (by rfl) ?_; intro K hK; simp only [Act.put, List.setIfInBounds_toArray, List.set_cons_zero, List.set_cons_succ]; refine hK _ ?_; clear hK K) | (refine seq_skipc (by rfl) ?_; intro K hK; simp only [Act.put, List.setIfInBounds_toArray, List.set_cons_zero, List.set_cons_succ]; refine hK _ ?_; clear hK K) | (refine seq_read (by rfl) (by rfl) ?_; intro K hK; go_big_quiet_op; first | go_big_quiet_on | (refine ⟨_, fun _ _ => rfl, ?_⟩; go_big_quiet_on)) | (refine seq_nil rfl rfl (by rfl) ?_; intro K hK; simp only [Act.put, List.setIfInBounds_toArray, List.set_cons_zero, List.set_cons_succ]; refine hK _ ?_; clear hK K)))
      have h1k := h1
      refine seq_store_part rfl rfl rfl (h1k) ((by rw [hrC_size]; show 0 + 1 ≤ 8; decide)) ((hrC_put0 A A6 c c6 h (L := putT en h.vi h.L) rfl)) ((tb_info _)) ((tbx_one _ _ _)) (by rfl) ((Save.row h1k (fun i hi => by rw [← hrC_put0 A A6 c c6 h (L := putT en h.vi h.L) rfl]; exact putAt_out i _ _ _ hi))) ?_; intro K hK; simp only [Act.put, List.setIfInBounds_toArray, List.set_cons_zero, List.set_cons_succ]; refine hK _ _ ?_; clear hK K
      refine seq_done ?_
      go_wp2_with fail
      go_meet
      case rel => exact ⟨A6, c6, Lib.hid (h1.row _), Lib.hid (hr6.set h1 (by rw [hrC_size]; decide) _), (Only.ext (Nat.le_of_lt hn2) HE.out).trans (Only.row _ w.heap.size _)⟩
    · skip
      refine seq_call (cof _) rfl Tryz.func33 (by kernel_rfl) (by kernel_rfl) (by rfl) (by rfl) ?_; intro K hK; rintro e w' ⟨rfl, hE⟩; refine ⟨_, rfl, (Save.ext hE), ?_⟩; simp only [Act.put, List.setIfInBounds_toArray, List.set_cons_zero, List.set_cons_succ]; refine hK _ _ ?_; clear hK K
      replace h1 := h1.ext hE
      replace HE := Lib.hid (HE.out.trans hE)
      clear hE
      refine seq_part_now rfl rfl (h1) (hrC_tlb A c h) rfl Tryz.underlying24 (tb_info _) (by rfl) ((Save.refl _ _ _ _)) ?_; intro K hK; simp only [Act.put, List.setIfInBounds_toArray, List.set_cons_zero, List.set_cons_succ]; refine hK _ _ ?_; clear hK K
      refine seq_call (cpt _ (hrX _ HE.out)) rfl Tryz.func32 (by kernel_rfl) (by kernel_rfl) (by rfl) (by rfl) ?_; intro K hK; rintro e w' ⟨A6, c6, rfl, hr6, hE⟩; refine ⟨_, rfl, (Save.ext hE), ?_⟩; simp only [Act.put, List.setIfInBounds_toArray, List.set_cons_zero, List.set_cons_succ]; refine hK _ _ ?_; clear hK K
      replace h1 := h1.ext hE
      replace HE := Lib.hid (HE.out.trans hE)
      clear hE
      (repeat (first | (refine seq_skip (by rfl) ?_; intro K hK; simp only [Act.put, List.setIfInBounds_toArray, List.set_cons_zero, List.set_cons_succ]; refine hK _ ?_; clear hK K) | (refine seq_skipc (by rfl) ?_; intro K hK; simp only [Act.put, List.setIfInBounds_toArray, List.set_cons_zero, List.set_cons_succ]; refine hK _ ?_; clear hK K) | (refine seq_read (by rfl) (by rfl) ?_; intro K hK; go_big_quiet_op; first | go_big_quiet_on | (refine ⟨_, fun _ _ => rfl, ?_⟩; go_big_quiet_on)) | (refine seq_nil rfl rfl (by rfl) ?_; intro K hK; simp only [Act.put, List.setIfInBounds_toArray, List.set_cons_zero, List.set_cons_succ]; refine hK _ ?_; clear hK K)))
      have h1k := h1
      refine seq_store_part rfl rfl rfl (h1k) ((by rw [hrC_size]; show 0 + 1 ≤ 8; decide)) ((hrC_put0 A A6 c c6 h (L := putT en h.vi h.L) rfl)) ((tb_info _)) ((tbx_one _ _ _)) (by rfl) ((Save.row h1k (fun i hi => by rw [← hrC_put0 A A6 c c6 h (L := putT en h.vi h.L) rfl]; exact putAt_out i _ _ _ hi))) ?_; intro K hK; simp only [Act.put, List.setIfInBounds_toArray, List.set_cons_zero, List.set_cons_succ]; refine hK _ _ ?_; clear hK K
      refine seq_done ?_
      go_wp2_with fail
      go_meet
      case rel => exact ⟨A6, c6, Lib.hid (h1.row _), Lib.hid (hr6.set h1 (by rw [hrC_size]; decide) _), (Only.ext (Nat.le_of_lt hn2) HE.out).trans (Only.row _ w.heap.size _)⟩
  case rest =>
    obtain ⟨A6, c6, hb6, hr6, hO6⟩ := hcut
    clear h1 h8 cof cpt hrX HE
    have h1 := hb6.out
    replace k3 := hO6.blk k3 (show w.heap.size + 2 ≠ w.heap.size by omega)
    replace k4 := hO6.blk k4 (show w.heap.size + 3 ≠ w.heap.size by omega)
    replace h7 := hO6.blk h7 (show g7 ≠ w.heap.size by omega)
    replace hN := hN.only (hout.one (by omega) (by omega)) hO6
    replace hr6 := hr6.out
    replace HE := Lib.hid (hO6.outer HW.out (Nat.le_refl _))
    clear hb6 hO6 HW
    have h1k := h1
    replace hN := hN.set (hout.one (Nat.le_refl _) (by omega)) (hrC ⟨A6, c6, brH S M h a⟩)
    replace hr6 := hr6.set h1 (by rw [hrC_size]; decide) (hrC ⟨A6, c6, brH S M h a⟩)
    replace k3 := k3.apart (show w.heap.size + 2 ≠ w.heap.size by omega) (hrC ⟨A6, c6, brH S M h a⟩)
    replace k4 := k4.apart (show w.heap.size + 3 ≠ w.heap.size by omega) (hrC ⟨A6, c6, brH S M h a⟩)
    replace h7 := h7.apart (show g7 ≠ w.heap.size by omega) (hrC ⟨A6, c6, brH S M h a⟩)
    replace HE := Lib.hid (HE.out.row (Nat.le_refl _) (hrC ⟨A6, c6, brH S M h a⟩))
    replace h1 := h1.row (hrC ⟨A6, c6, brH S M h a⟩)
    have hset : (hrC ⟨A6, c6, { h with L := putT en h.vi h.L }⟩).setIfInBounds 7 (.int .i64 (-1)) = hrC ⟨A6, c6, brH S M h a⟩ := by rw [EH.out]; exact hrC_set7 A6 c6 { h with L := putT en h.vi h.L } (-1)
    go_upto_region 9 with (refine wpList_store_cell rfl 3 _ _ rfl rfl rfl h1k (by simp [hrC_size]) (hset) (by kernel_rfl) rfl rfl ?_)
    (try simp only [Act.put, List.setIfInBounds_toArray, List.set_cons_zero, List.set_cons_succ])
    clear h1k hset
    rw [show putT en h.vi h.L = (brH S M h a).L by rw [EH.out]] at hr6
    clear EH
    generalize wc.setRow w.heap.size (hrC ⟨A6, c6, brH S M h a⟩) = W8 at *
    (try replace hb := Blk.drew hb); (try replace h1 := Blk.drew h1); (try replace h2 := Blk.drew h2); (try replace h5 := Blk.drew h5); (try replace h6 := Blk.drew h6); (try replace h7 := Blk.drew h7); (try replace h8 := Blk.drew h8); (try replace k3 := Blk.drew k3); (try replace k4 := Blk.drew k4); replace HE := Lib.hid HE.out.drew
    refine wp_region_seq [(0, false), (1, false), (2, true), (3, true)] (Gap (w.heap.size + 2) (w.heap.size + 4)) (by kernel_rfl) (by kernel_rfl) (Gap.refl _ _) (fun _ _ _ => Gap.trans) ?_; simp only [List.map, nth_z, nth_s]
    (repeat (first | (refine seq_skip (by rfl) ?_; intro K hK; simp only [Act.put, List.setIfInBounds_toArray, List.set_cons_zero, List.set_cons_succ]; refine hK _ ?_; clear hK K) | (refine seq_skipc (by rfl) ?_; intro K hK; simp only [Act.put, List.setIfInBounds_toArray, List.set_cons_zero, List.set_cons_succ]; refine hK _ ?_; clear hK K) | (refine seq_read (by rfl) (by rfl) ?_; intro K hK; go_big_quiet_op; first | go_big_quiet_on | (refine ⟨_, fun _ _ => rfl, ?_⟩; go_big_quiet_on)) | (refine seq_nil rfl rfl (by rfl) ?_; intro K hK; simp only [Act.put, List.setIfInBounds_toArray, List.set_cons_zero, List.set_cons_succ]; refine hK _ ?_; clear hK K)))
    refine seq_load rfl rfl (fun x hx => Gap.blk hx (h1) (by omega)) rfl Tryz.underlying29 (hr_info _) (by rfl) ?_; intro K hK; simp only [Act.put, List.setIfInBounds_toArray, List.set_cons_zero, List.set_cons_succ]; refine hK _ ?_; clear hK K
    (repeat (first | (refine seq_skip (by rfl) ?_; intro K hK; simp only [Act.put, List.setIfInBounds_toArray, List.set_cons_zero, List.set_cons_succ]; refine hK _ ?_; clear hK K) | (refine seq_skipc (by rfl) ?_; intro K hK; simp only [Act.put, List.setIfInBounds_toArray, List.set_cons_zero, List.set_cons_succ]; refine hK _ ?_; clear hK K) | (refine seq_read (by rfl) (by rfl) ?_; intro K hK; go_big_quiet_op; first | go_big_quiet_on | (refine ⟨_, fun _ _ => rfl, ?_⟩; go_big_quiet_on)) | (refine seq_nil rfl rfl (by rfl) ?_; intro K hK; simp only [Act.put, List.setIfInBounds_toArray, List.set_cons_zero, List.set_cons_succ]; refine hK _ ?_; clear hK K)))
    refine seq_load rfl rfl (fun x hx => Gap.blk hx (h7) (by omega)) rfl Tryz.underlying32 (me_info _ _ _ _) (by rfl) ?_; intro K hK; simp only [Act.put, List.setIfInBounds_toArray, List.set_cons_zero, List.set_cons_succ]; refine hK _ ?_; clear hK K
    (repeat (first | (refine seq_skip (by rfl) ?_; intro K hK; simp only [Act.put, List.setIfInBounds_toArray, List.set_cons_zero, List.set_cons_succ]; refine hK _ ?_; clear hK K) | (refine seq_skipc (by rfl) ?_; intro K hK; simp only [Act.put, List.setIfInBounds_toArray, List.set_cons_zero, List.set_cons_succ]; refine hK _ ?_; clear hK K) | (refine seq_read (by rfl) (by rfl) ?_; intro K hK; go_big_quiet_op; first | go_big_quiet_on | (refine ⟨_, fun _ _ => rfl, ?_⟩; go_big_quiet_on)) | (refine seq_nil rfl rfl (by rfl) ?_; intro K hK; simp only [Act.put, List.setIfInBounds_toArray, List.set_cons_zero, List.set_cons_succ]; refine hK _ ?_; clear hK K)))
    refine seq_store_row rfl rfl rfl (k3) (hr_info _) (by simp [hrC_size]) (hrC_one _) (by rfl) (Gap.row _ (by omega) (by omega) _) ?_; intro K hK; simp only [Act.put, List.setIfInBounds_toArray, List.set_cons_zero, List.set_cons_succ]; refine hK _ _ ?_; clear hK K
    refine seq_store_row rfl rfl rfl ((k4.apart (by omega) _)) (by kernel_rfl) (by rfl) (by simp [Value.oneCell']) (by rfl) (Gap.row _ (by omega) (by omega) _) ?_; intro K hK; simp only [Act.put, List.setIfInBounds_toArray, List.set_cons_zero, List.set_cons_succ]; refine hK _ _ ?_; clear hK K
    refine seq_done ?_
    go_wp2
    (try simp only [Exit.inBlock, Exit.then]); (try rw [Exit.noGoto_ret]); refine bodyPost_ret (results_cc rfl _ _ rfl rfl (((k3.row _).apart (by omega) _)) (((k4.apart (by omega) _).row _)) Tryz.underlying29 rfl (by first | exact hr_info _ | kernel_rfl) Tryz.underlying32 rfl (by first | exact me_info _ | kernel_rfl)) rfl ?_
    replace hr6 := hr6.ext (Ext.refl _).drew
    replace hN := hN.ext (Ext.refl _).drew
    exact ⟨A6, B2, c6, d2, rfl, (hr6.set k3 (by decide) _).set (k4.apart (by omega) _) (by decide) _, (hN.set (hout.one (by omega) (by omega)) _).set (hout.one (by omega) (by omega)) _, (HE.out.row (by omega) _).row (by omega) _, hol⟩
end Go.Proofs.YtlhoedpencmikaaGreatDoor
