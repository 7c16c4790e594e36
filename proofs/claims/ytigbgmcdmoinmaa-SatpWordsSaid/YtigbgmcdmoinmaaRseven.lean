/- The document's answers of layer 7 (atlasref07). -/
import Derived.Test.YtigbgmcdmoinmaaCseven
namespace Go.Proofs.Ytigbgmcdmoinmaa
open Go.ChangeShapes Go.WideShapes Go.ChangeAt Go.RowKit
set_option linter.unusedVariables false
set_option linter.unusedSimpArgs false

theorem sm_if (p : Sp) : smB p = if p.md = 0 then decide (p.ai = 0) && decide (p.pp = 0) else decide (p.md = 8) && decide (p.ai < 65536) && decide (p.pp < 17592186044416) := by unfold smB; rfl
theorem beq_dec (a b : Nat) : ((a : Int) == (b : Int)) = decide (a = b) := by rw [Bool.eq_iff_iff, beq_iff_eq, decide_eq_true_iff]; omega
theorem blt_dec (a b : Nat) : decide ((a : Int) < (b : Int)) = decide (a < b) := by rw [Bool.eq_iff_iff, decide_eq_true_iff, decide_eq_true_iff]; omega
set_option maxRecDepth 100000 in
set_option maxHeartbeats 1000000 in
theorem rmay7_c (p : Sp) (w : World) :
    Calls Try.prog 11 #[.agg (spC p)] w fun e w' => e = .returned (.bool (smB p)) ∧ Ext w w' := by
  have H := Lib.hid (sm_if p)
  have HE := Lib.hid ((Ext.refl w).alloc (.cells (spC p) 24))
  rw [spC_eq] at HE ⊢
  have e0 : ((p.md : Int) == 0) = decide (p.md = 0) := beq_dec p.md 0
  have e1 : ((p.ai : Int) == 0) = decide (p.ai = 0) := beq_dec p.ai 0
  have e2 : ((p.pp : Int) == 0) = decide (p.pp = 0) := beq_dec p.pp 0
  have e3 : ((p.md : Int) == 8) = decide (p.md = 8) := beq_dec p.md 8
  have e4 : decide ((p.ai : Int) < 65536) = decide (p.ai < 65536) := blt_dec p.ai 65536
  have e5 : decide ((p.pp : Int) < 17592186044416) = decide (p.pp < 17592186044416) := blt_dec p.pp 17592186044416
  by_cases h0 : p.md = 0
  · rw [decide_eq_true h0] at e0
    replace H := Lib.hid (H.out.trans (if_pos h0))
    clear e3 e4 e5 h0
    cases h1 : decide (p.ai = 0)
    all_goals
      rw [h1] at e1 H
      clear h1
      go_enter Try.func11, Try.ntmps11
      go_wp2
      go_ret
      first | exact ⟨by rw [H.out]; rfl, HE.out⟩ | exact ⟨by rw [H.out, ← e2]; rfl, HE.out⟩
  · rw [decide_eq_false h0] at e0
    replace H := Lib.hid (H.out.trans (if_neg h0))
    clear e1 e2 h0
    cases h1 : decide (p.md = 8) <;> cases h2 : decide (p.ai < 65536)
    all_goals
      rw [h1] at e3 H
      rw [h2] at e4 H
      clear h1 h2
      go_enter Try.func11, Try.ntmps11
      go_wp2
      go_ret
      first | exact ⟨by rw [H.out]; rfl, HE.out⟩ | exact ⟨by rw [H.out, ← e5]; rfl, HE.out⟩
set_option maxRecDepth 100000 in
theorem rput7_c (p : Sp) (hp : smB p = true) (w : World) :
    Calls Try.prog 13 #[.agg (spC p)] w fun e w' => e = .returned (.int .u64 ((wdN p : Nat) : Int)) ∧ Ext w w' := by
  have H := wd_may hp
  obtain ⟨h1, h2, h3⟩ := sm_fits hp
  have HE := Lib.hid ((Ext.refl w).alloc (.cells (spC p) 24))
  rw [spC_eq] at HE ⊢
  go_enter Try.func13, Try.ntmps13
  go_wp2
  go_ret
  refine ⟨congrArg (fun i => Ending.returned (.int .u64 i)) (?_ : (p.pp : Int) + (p.ai : Int) * 17592186044416 + (p.md : Int) * 1152921504606846976 = ((wdN p : Nat) : Int)), HE.out⟩
  omega
theorem rd_cells (x : Nat) : spC (rdP x) = #[.int .u64 ((x : Int) / 1152921504606846976), .int .u64 ((x : Int) / 17592186044416 % 65536), .int .u64 ((x : Int) % 17592186044416)] := by unfold rdP; rw [spC_def]; rfl
set_option maxRecDepth 100000 in
set_option maxHeartbeats 1000000 in
theorem rget7_c (x : Nat) (hx : x < 18446744073709551616) (w : World) :
    Calls Try.prog 9 #[.int .u64 (x : Int)] w fun e w' => e = .returned (.tuple #[.agg (spC (sgP x)), .int .i64 (if smB (rdP x) then 0 else 1)]) ∧ Ext w w' := by
  have hmay := rmay7_c (rdP x)
  cases hm : smB (rdP x)
  · rw [hm] at hmay
    rw [sgP_not hm, zSp_cells]
    have HE := Lib.hid (((Ext.refl w).alloc (.cells #[.int .u64 0, .int .u64 0, .int .u64 0] 24)).alloc (.cells (spC (rdP x)) 24))
    have hb := Blk.new w 24 #[.int .u64 0, .int .u64 0, .int .u64 0]
    go_enter Try.func9, Try.ntmps9
    go_wp2_with fail
    rw [← rd_cells x]
    replace hb := hb.alloc (.cells (spC (rdP x)) 24)
    have hc := Blk.new (w.alloc (.cells #[.int .u64 0, .int .u64 0, .int .u64 0] 24)) 24 (spC (rdP x))
    rw [World.size_alloc] at hc
    refine (hmay _).mono ?_
    rintro e w2 ⟨rfl, hE⟩
    replace HE := Lib.hid (HE.out.trans hE)
    replace hb := hb.ext hE
    replace hc := hc.ext hE
    clear hE hmay
    go_wp2_with first | (refine wpList_store_row rfl 24 _ _ rfl _ (spC _) rfl rfl _ _ hb (sp_info _) (by simp [spC_size]) (spC_one _) ?_) | (refine wpList_store_row rfl 24 _ _ rfl _ _ rfl rfl _ _ hb (by kernel_rfl) (by rfl) (by simp [Value.oneCell']) ?_) | (refine wpList_load_blk (by rfl) 24 _ rfl rfl (by assumption) Try.underlying24 rfl (by kernel_rfl) ?_)
    (try simp only [Exit.inBlock, Exit.then]); refine bodyPost_ret (results_c2 rfl _ _ _ _ _ _ rfl ((hb.row _)) rfl Try.underlying24 (by kernel_rfl)) rfl ?_
    exact ⟨rfl, Ext.row HE.out (Nat.le_refl _) _⟩
  · rw [hm] at hmay
    rw [sgP_may hm]
    have HE := Lib.hid (((Ext.refl w).alloc (.cells #[.int .u64 0, .int .u64 0, .int .u64 0] 24)).alloc (.cells (spC (rdP x)) 24))
    have hb := Blk.new w 24 #[.int .u64 0, .int .u64 0, .int .u64 0]
    go_enter Try.func9, Try.ntmps9
    go_wp2_with fail
    rw [← rd_cells x]
    replace hb := hb.alloc (.cells (spC (rdP x)) 24)
    have hc := Blk.new (w.alloc (.cells #[.int .u64 0, .int .u64 0, .int .u64 0] 24)) 24 (spC (rdP x))
    rw [World.size_alloc] at hc
    refine (hmay _).mono ?_
    rintro e w2 ⟨rfl, hE⟩
    replace HE := Lib.hid (HE.out.trans hE)
    replace hb := hb.ext hE
    replace hc := hc.ext hE
    clear hE hmay
    go_wp2_with first | (refine wpList_store_row rfl 24 _ _ rfl _ (spC _) rfl rfl _ _ hb (sp_info _) (by simp [spC_size]) (spC_one _) ?_) | (refine wpList_store_row rfl 24 _ _ rfl _ _ rfl rfl _ _ hb (by kernel_rfl) (by rfl) (by simp [Value.oneCell']) ?_) | (refine wpList_load_blk (by rfl) 24 _ rfl rfl (by assumption) Try.underlying24 rfl (by kernel_rfl) ?_)
    (try simp only [Exit.inBlock, Exit.then]); refine bodyPost_ret (results_c2 rfl _ _ _ _ _ _ rfl ((hb.row _)) rfl Try.underlying24 (by kernel_rfl)) rfl ?_
    exact ⟨rfl, Ext.row HE.out (Nat.le_refl _) _⟩
end Go.Proofs.Ytigbgmcdmoinmaa
