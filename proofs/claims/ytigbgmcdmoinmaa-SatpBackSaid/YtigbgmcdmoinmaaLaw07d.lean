/- SatpBack. -/
import Derived.Test.YtigbgmcdmoinmaaLaw07a
namespace Go.Proofs.Ytigbgmcdmoinmaa
open Go.ChangeShapes Go.WideShapes Go.ChangeAt Go.RowKit
set_option linter.unusedVariables false
set_option linter.unusedSimpArgs false

theorem sg_ok {x : Nat} (hx : x < 18446744073709551616) : (sgP x).ok := by
  unfold sgP
  split
  · exact rd_ok hx
  · unfold zSp Sp.ok; decide
theorem sg_sm (x : Nat) : smB (sgP x) = true := by
  unfold sgP
  split
  · assumption
  · exact sm_zero
theorem back_put {x : Nat} (hx : x < 18446744073709551616) (w : World) :
    Calls Try.prog 7 #[.agg (spC (sgP x))] w fun e w' => e = .returned (.tuple #[.int .u64 ((wdN (sgP x) : Nat) : Int), .int .i64 0]) ∧ Ext w w' := sput_yes (sgP x) (sg_ok hx) (sg_sm x) w
theorem eql_spz (w : World) : (binOp .eql 24 (.agg (spC zSp)) (.agg #[.int .u64 0, .int .u64 0, .int .u64 0])).run Try.prog w = .ok (.bool true) w := by
  have h := eql_sp w zSp zSp
  rw [decide_eq_true rfl] at h
  have e := zSp_cells
  exact (congrArg (fun c => (binOp .eql 24 (.agg (spC zSp)) (.agg c)).run Try.prog w) e).symm.trans h
set_option maxRecDepth 100000 in
set_option maxHeartbeats 4000000 in
theorem SatpBack_w (p : Sp) (hp : p.ok) (q : Sp) (hq : q.ok) (x : Nat) (hx : x < 18446744073709551616) (w : World) :
    Calls Try.prog 4 #[.agg (spC p), .agg (spC q), .int .u64 (x : Int)] w fun e w' => e = .returned (.bool true) ∧ Ext w w' := by
  have hx : (∃ Y : Sp, (∀ w, Calls Try.prog 8 #[.int .u64 (x : Int)] w fun e w' => e = .returned (.tuple #[.agg (spC Y), .int .i64 0]) ∧ Ext w w') ∧ (∀ w, Calls Try.prog 7 #[.agg (spC Y)] w fun e w' => e = .returned (.tuple #[.int .u64 (x : Int), .int .i64 0]) ∧ Ext w w') ∧ True) ∨
      ∃ y : Nat, (∀ w, Calls Try.prog 8 #[.int .u64 (x : Int)] w fun e w' => e = .returned (.tuple #[.agg (spC zSp), .int .i64 1]) ∧ Ext w w') ∧ (∀ w, Calls Try.prog 7 #[.agg (spC zSp)] w fun e w' => e = .returned (.tuple #[.int .u64 (y : Int), .int .i64 0]) ∧ Ext w w') := by
    have h1 := sget_c x hx
    cases hm : smB (rdP x)
    · rw [sgP_not hm, hm] at h1
      exact .inr ⟨wdN zSp, h1, sput_yes zSp (by unfold zSp Sp.ok; decide) sm_zero⟩
    · have h2 := sput_yes (rdP x) (rd_ok hx) hm
      rw [sgP_may hm, hm] at h1
      rw [wd_rd hx] at h2
      exact .inl ⟨rdP x, h1, h2, trivial⟩
  cases hmp : smB p
  · have hpp := sput_no p hp hmp
    cases hmq : smB q
    · have hpq := sput_no q hq hmq
      clear hmp hmq hp hq
      have HE := Lib.hid (((Ext.refl w).alloc (.cells (spC p) 24)).alloc (.cells (spC q) 24))
      obtain ⟨hb, hc⟩ := blk_two (Ext.refl ((w.alloc (.cells (spC p) 24)).alloc (.cells (spC q) 24)))
      go_enter Try.func4, Try.ntmps4
      go_wp2_with fail; refine (awake7_c _).mono ?_; rintro e w1 ⟨rfl, hE⟩; replace HE := Lib.hid (HE.out.trans hE)
      replace hb := hb.ext hE
      replace hc := hc.ext hE
      clear hE
      go_wp2_with (refine wpList_load_blk (by rfl) 24 _ rfl rfl (by assumption) Try.underlying24 rfl (by kernel_rfl) ?_)
      refine (hpp _).mono ?_
      rintro e w2 ⟨rfl, hE⟩
      replace HE := Lib.hid (HE.out.trans hE)
      replace hb := hb.ext hE
      replace hc := hc.ext hE
      clear hE
      clear hpp
      go_wp2_with (refine wpList_load_blk (by rfl) 24 _ rfl rfl (by assumption) Try.underlying24 rfl (by kernel_rfl) ?_)
      refine (hpq _).mono ?_
      rintro e w2 ⟨rfl, hE⟩
      replace HE := Lib.hid (HE.out.trans hE)
      replace hb := hb.ext hE
      replace hc := hc.ext hE
      clear hE
      clear hpq
      go_wp2_with fail
      rcases hx with ⟨Y, hgx, hpx, hyz⟩ | ⟨Y, hgx, hpx⟩
      · refine (hgx _).mono ?_
        rintro e w4 ⟨rfl, hE⟩
        replace HE := Lib.hid (HE.out.trans hE)
        clear hE hgx hb hc
        have hv := Blk.new w4 24 (spC Y)
        replace HE := Lib.hid (HE.out.alloc (.cells (spC Y) 24))
        go_wp2_with first | (refine wpList_store_new rfl 24 _ _ rfl (spC _) _ _ rfl rfl (sp_info _) (by simp [spC_size]) (spC_one _) ?_) | (refine wpList_load_blk (by rfl) 24 _ rfl rfl (by assumption) Try.underlying24 rfl (by kernel_rfl) ?_)
        refine (hpx _).mono ?_
        rintro e w5 ⟨rfl, hE⟩
        replace HE := Lib.hid (HE.out.trans hE)
        replace hv := hv.ext hE
        clear hE hpx
        go_wp2_with (refine wpList_load_blk (by rfl) 24 _ rfl rfl (by assumption) Try.underlying24 rfl (by kernel_rfl) ?_)
        go_ret
        exact ⟨rfl, HE.out⟩
      · refine (hgx _).mono ?_
        rintro e w4 ⟨rfl, hE⟩
        replace HE := Lib.hid (HE.out.trans hE)
        clear hE hgx hb hc
        have hv := Blk.new w4 24 (spC zSp)
        replace HE := Lib.hid (HE.out.alloc (.cells (spC zSp) 24))
        go_wp2_with first | (refine wpList_store_new rfl 24 _ _ rfl (spC _) _ _ rfl rfl (sp_info _) (by simp [spC_size]) (spC_one _) ?_) | (refine wpList_load_blk (by rfl) 24 _ rfl rfl (by assumption) Try.underlying24 rfl (by kernel_rfl) ?_)
        refine (hpx _).mono ?_
        rintro e w5 ⟨rfl, hE⟩
        replace HE := Lib.hid (HE.out.trans hE)
        replace hv := hv.ext hE
        clear hE hpx
        have hqz := eql_spz
        have hgd := sp_guard
        go_wp2_with (refine wpList_load_blk (by rfl) 24 _ rfl rfl (by assumption) Try.underlying24 rfl (by kernel_rfl) ?_)
        go_ret
        exact ⟨rfl, HE.out⟩
    · have hpq := sput_yes q hq hmq
      clear hmp hmq hp hq
      have HE := Lib.hid (((Ext.refl w).alloc (.cells (spC p) 24)).alloc (.cells (spC q) 24))
      obtain ⟨hb, hc⟩ := blk_two (Ext.refl ((w.alloc (.cells (spC p) 24)).alloc (.cells (spC q) 24)))
      go_enter Try.func4, Try.ntmps4
      go_wp2_with fail; refine (awake7_c _).mono ?_; rintro e w1 ⟨rfl, hE⟩; replace HE := Lib.hid (HE.out.trans hE)
      replace hb := hb.ext hE
      replace hc := hc.ext hE
      clear hE
      go_wp2_with (refine wpList_load_blk (by rfl) 24 _ rfl rfl (by assumption) Try.underlying24 rfl (by kernel_rfl) ?_)
      refine (hpp _).mono ?_
      rintro e w2 ⟨rfl, hE⟩
      replace HE := Lib.hid (HE.out.trans hE)
      replace hb := hb.ext hE
      replace hc := hc.ext hE
      clear hE
      clear hpp
      go_wp2_with (refine wpList_load_blk (by rfl) 24 _ rfl rfl (by assumption) Try.underlying24 rfl (by kernel_rfl) ?_)
      refine (hpq _).mono ?_
      rintro e w2 ⟨rfl, hE⟩
      replace HE := Lib.hid (HE.out.trans hE)
      replace hb := hb.ext hE
      replace hc := hc.ext hE
      clear hE
      clear hpq
      go_wp2_with fail
      rcases hx with ⟨Y, hgx, hpx, hyz⟩ | ⟨Y, hgx, hpx⟩
      · refine (hgx _).mono ?_
        rintro e w4 ⟨rfl, hE⟩
        replace HE := Lib.hid (HE.out.trans hE)
        clear hE hgx hb hc
        have hv := Blk.new w4 24 (spC Y)
        replace HE := Lib.hid (HE.out.alloc (.cells (spC Y) 24))
        go_wp2_with first | (refine wpList_store_new rfl 24 _ _ rfl (spC _) _ _ rfl rfl (sp_info _) (by simp [spC_size]) (spC_one _) ?_) | (refine wpList_load_blk (by rfl) 24 _ rfl rfl (by assumption) Try.underlying24 rfl (by kernel_rfl) ?_)
        refine (hpx _).mono ?_
        rintro e w5 ⟨rfl, hE⟩
        replace HE := Lib.hid (HE.out.trans hE)
        replace hv := hv.ext hE
        clear hE hpx
        go_wp2_with (refine wpList_load_blk (by rfl) 24 _ rfl rfl (by assumption) Try.underlying24 rfl (by kernel_rfl) ?_)
        go_ret
        exact ⟨rfl, HE.out⟩
      · refine (hgx _).mono ?_
        rintro e w4 ⟨rfl, hE⟩
        replace HE := Lib.hid (HE.out.trans hE)
        clear hE hgx hb hc
        have hv := Blk.new w4 24 (spC zSp)
        replace HE := Lib.hid (HE.out.alloc (.cells (spC zSp) 24))
        go_wp2_with first | (refine wpList_store_new rfl 24 _ _ rfl (spC _) _ _ rfl rfl (sp_info _) (by simp [spC_size]) (spC_one _) ?_) | (refine wpList_load_blk (by rfl) 24 _ rfl rfl (by assumption) Try.underlying24 rfl (by kernel_rfl) ?_)
        refine (hpx _).mono ?_
        rintro e w5 ⟨rfl, hE⟩
        replace HE := Lib.hid (HE.out.trans hE)
        replace hv := hv.ext hE
        clear hE hpx
        have hqz := eql_spz
        have hgd := sp_guard
        go_wp2_with (refine wpList_load_blk (by rfl) 24 _ rfl rfl (by assumption) Try.underlying24 rfl (by kernel_rfl) ?_)
        go_ret
        exact ⟨rfl, HE.out⟩
  · have hpp := sput_yes p hp hmp
    have hgp := sget_c (wdN p) (wd_lt p)
    rw [sg_may hmp, rd_may hmp, hmp, if_pos rfl] at hgp
    have hqp : ∀ w, (binOp .neq 24 (.agg (spC p)) (.agg (spC p))).run Try.prog w = .ok (.bool false) w := fun w => by
      have h := neq_sp w p p
      rwa [decide_eq_true rfl] at h
    cases hmq : smB q
    · have hpq := sput_no q hq hmq
      clear hmp hmq hp hq
      have HE := Lib.hid (((Ext.refl w).alloc (.cells (spC p) 24)).alloc (.cells (spC q) 24))
      obtain ⟨hb, hc⟩ := blk_two (Ext.refl ((w.alloc (.cells (spC p) 24)).alloc (.cells (spC q) 24)))
      go_enter Try.func4, Try.ntmps4
      go_wp2_with fail; refine (awake7_c _).mono ?_; rintro e w1 ⟨rfl, hE⟩; replace HE := Lib.hid (HE.out.trans hE)
      replace hb := hb.ext hE
      replace hc := hc.ext hE
      clear hE
      go_wp2_with (refine wpList_load_blk (by rfl) 24 _ rfl rfl (by assumption) Try.underlying24 rfl (by kernel_rfl) ?_)
      refine (hpp _).mono ?_
      rintro e w2 ⟨rfl, hE⟩
      replace HE := Lib.hid (HE.out.trans hE)
      replace hb := hb.ext hE
      replace hc := hc.ext hE
      clear hE
      clear hpp
      go_wp2_with (refine wpList_load_blk (by rfl) 24 _ rfl rfl (by assumption) Try.underlying24 rfl (by kernel_rfl) ?_)
      refine (hpq _).mono ?_
      rintro e w2 ⟨rfl, hE⟩
      replace HE := Lib.hid (HE.out.trans hE)
      replace hb := hb.ext hE
      replace hc := hc.ext hE
      clear hE
      clear hpq
      go_wp2_with fail
      refine (hgp _).mono ?_
      rintro e w3 ⟨rfl, hE⟩
      replace HE := Lib.hid (HE.out.trans hE)
      replace hb := hb.ext hE
      replace hc := hc.ext hE
      clear hE
      clear hgp
      have hu := Blk.new w3 24 (spC p)
      replace HE := Lib.hid (HE.out.alloc (.cells (spC p) 24))
      replace hb := hb.alloc (.cells (spC p) 24)
      replace hc := hc.alloc (.cells (spC p) 24)
      have hgd := sp_guard
      go_wp2_with first | (refine wpList_store_new rfl 24 _ _ rfl (spC _) _ _ rfl rfl (sp_info _) (by simp [spC_size]) (spC_one _) ?_) | (refine wpList_load_blk (by rfl) 24 _ rfl rfl (by assumption) Try.underlying24 rfl (by kernel_rfl) ?_)
      clear hu hqp
      try clear hqq
      try clear hxy
      rcases hx with ⟨Y, hgx, hpx, hyz⟩ | ⟨Y, hgx, hpx⟩
      · refine (hgx _).mono ?_
        rintro e w4 ⟨rfl, hE⟩
        replace HE := Lib.hid (HE.out.trans hE)
        clear hE hgx hb hc
        have hv := Blk.new w4 24 (spC Y)
        replace HE := Lib.hid (HE.out.alloc (.cells (spC Y) 24))
        go_wp2_with first | (refine wpList_store_new rfl 24 _ _ rfl (spC _) _ _ rfl rfl (sp_info _) (by simp [spC_size]) (spC_one _) ?_) | (refine wpList_load_blk (by rfl) 24 _ rfl rfl (by assumption) Try.underlying24 rfl (by kernel_rfl) ?_)
        refine (hpx _).mono ?_
        rintro e w5 ⟨rfl, hE⟩
        replace HE := Lib.hid (HE.out.trans hE)
        replace hv := hv.ext hE
        clear hE hpx
        go_wp2_with (refine wpList_load_blk (by rfl) 24 _ rfl rfl (by assumption) Try.underlying24 rfl (by kernel_rfl) ?_)
        go_ret
        exact ⟨rfl, HE.out⟩
      · refine (hgx _).mono ?_
        rintro e w4 ⟨rfl, hE⟩
        replace HE := Lib.hid (HE.out.trans hE)
        clear hE hgx hb hc
        have hv := Blk.new w4 24 (spC zSp)
        replace HE := Lib.hid (HE.out.alloc (.cells (spC zSp) 24))
        go_wp2_with first | (refine wpList_store_new rfl 24 _ _ rfl (spC _) _ _ rfl rfl (sp_info _) (by simp [spC_size]) (spC_one _) ?_) | (refine wpList_load_blk (by rfl) 24 _ rfl rfl (by assumption) Try.underlying24 rfl (by kernel_rfl) ?_)
        refine (hpx _).mono ?_
        rintro e w5 ⟨rfl, hE⟩
        replace HE := Lib.hid (HE.out.trans hE)
        replace hv := hv.ext hE
        clear hE hpx
        have hqz := eql_spz
        have hgd := sp_guard
        go_wp2_with (refine wpList_load_blk (by rfl) 24 _ rfl rfl (by assumption) Try.underlying24 rfl (by kernel_rfl) ?_)
        go_ret
        exact ⟨rfl, HE.out⟩
    · have hpq := sput_yes q hq hmq
      have hqq := fun w => eql_sp w p q
      have hxy : ((wdN p : Int) == (wdN q : Int)) = decide (p = q) := by rw [← wd_inj hmp hmq, Bool.eq_iff_iff, beq_iff_eq, decide_eq_true_iff]; omega
      clear hmp hmq hp hq
      generalize wdN p = X1 at *
      generalize wdN q = X2 at *
      revert hqq hxy
      cases decide (p = q) <;> intro hqq hxy
      all_goals
        have HE := Lib.hid (((Ext.refl w).alloc (.cells (spC p) 24)).alloc (.cells (spC q) 24))
        obtain ⟨hb, hc⟩ := blk_two (Ext.refl ((w.alloc (.cells (spC p) 24)).alloc (.cells (spC q) 24)))
        go_enter Try.func4, Try.ntmps4
        go_wp2_with fail; refine (awake7_c _).mono ?_; rintro e w1 ⟨rfl, hE⟩; replace HE := Lib.hid (HE.out.trans hE)
        replace hb := hb.ext hE
        replace hc := hc.ext hE
        clear hE
        go_wp2_with (refine wpList_load_blk (by rfl) 24 _ rfl rfl (by assumption) Try.underlying24 rfl (by kernel_rfl) ?_)
        refine (hpp _).mono ?_
        rintro e w2 ⟨rfl, hE⟩
        replace HE := Lib.hid (HE.out.trans hE)
        replace hb := hb.ext hE
        replace hc := hc.ext hE
        clear hE
        clear hpp
        go_wp2_with (refine wpList_load_blk (by rfl) 24 _ rfl rfl (by assumption) Try.underlying24 rfl (by kernel_rfl) ?_)
        refine (hpq _).mono ?_
        rintro e w2 ⟨rfl, hE⟩
        replace HE := Lib.hid (HE.out.trans hE)
        replace hb := hb.ext hE
        replace hc := hc.ext hE
        clear hE
        clear hpq
        go_wp2_with fail
        refine (hgp _).mono ?_
        rintro e w3 ⟨rfl, hE⟩
        replace HE := Lib.hid (HE.out.trans hE)
        replace hb := hb.ext hE
        replace hc := hc.ext hE
        clear hE
        clear hgp
        have hu := Blk.new w3 24 (spC p)
        replace HE := Lib.hid (HE.out.alloc (.cells (spC p) 24))
        replace hb := hb.alloc (.cells (spC p) 24)
        replace hc := hc.alloc (.cells (spC p) 24)
        have hgd := sp_guard
        go_wp2_with first | (refine wpList_store_new rfl 24 _ _ rfl (spC _) _ _ rfl rfl (sp_info _) (by simp [spC_size]) (spC_one _) ?_) | (refine wpList_load_blk (by rfl) 24 _ rfl rfl (by assumption) Try.underlying24 rfl (by kernel_rfl) ?_)
        clear hu hqp
        try clear hqq
        try clear hxy
        rcases hx with ⟨Y, hgx, hpx, hyz⟩ | ⟨Y, hgx, hpx⟩
        · refine (hgx _).mono ?_
          rintro e w4 ⟨rfl, hE⟩
          replace HE := Lib.hid (HE.out.trans hE)
          clear hE hgx hb hc
          have hv := Blk.new w4 24 (spC Y)
          replace HE := Lib.hid (HE.out.alloc (.cells (spC Y) 24))
          go_wp2_with first | (refine wpList_store_new rfl 24 _ _ rfl (spC _) _ _ rfl rfl (sp_info _) (by simp [spC_size]) (spC_one _) ?_) | (refine wpList_load_blk (by rfl) 24 _ rfl rfl (by assumption) Try.underlying24 rfl (by kernel_rfl) ?_)
          refine (hpx _).mono ?_
          rintro e w5 ⟨rfl, hE⟩
          replace HE := Lib.hid (HE.out.trans hE)
          replace hv := hv.ext hE
          clear hE hpx
          go_wp2_with (refine wpList_load_blk (by rfl) 24 _ rfl rfl (by assumption) Try.underlying24 rfl (by kernel_rfl) ?_)
          go_ret
          exact ⟨rfl, HE.out⟩
        · refine (hgx _).mono ?_
          rintro e w4 ⟨rfl, hE⟩
          replace HE := Lib.hid (HE.out.trans hE)
          clear hE hgx hb hc
          have hv := Blk.new w4 24 (spC zSp)
          replace HE := Lib.hid (HE.out.alloc (.cells (spC zSp) 24))
          go_wp2_with first | (refine wpList_store_new rfl 24 _ _ rfl (spC _) _ _ rfl rfl (sp_info _) (by simp [spC_size]) (spC_one _) ?_) | (refine wpList_load_blk (by rfl) 24 _ rfl rfl (by assumption) Try.underlying24 rfl (by kernel_rfl) ?_)
          refine (hpx _).mono ?_
          rintro e w5 ⟨rfl, hE⟩
          replace HE := Lib.hid (HE.out.trans hE)
          replace hv := hv.ext hE
          clear hE hpx
          have hqz := eql_spz
          have hgd := sp_guard
          go_wp2_with (refine wpList_load_blk (by rfl) 24 _ rfl rfl (by assumption) Try.underlying24 rfl (by kernel_rfl) ?_)
          go_ret
          exact ⟨rfl, HE.out⟩
end Go.Proofs.Ytigbgmcdmoinmaa
