/- The document's answers for layer 16 (package atlasref16): Right, Same, Bare. -/
import Derived.Test.YtlhoedpencmikaaGreatDoorHr
import Derived.Test.YtlhoedpencmikaaGreatDoorGseven
import Derived.Test.YtlhoedpencmikaaGreatDoorLaw14x
namespace Go.Proofs.YtlhoedpencmikaaGreatDoor
open Go.ChangeShapes Go.WideShapes Go.ChangeAt Go.RowKit
set_option linter.unusedVariables false
set_option linter.unusedSimpArgs false
set_option maxRecDepth 10000

theorem rightH_eq (h : Hr) : rightH h = (rightT h.L && (smB h.sp && (h.pr == 0 || h.pr == 1))) := by unfold rightH; rfl
theorem rright16_c (A : Option Addr) (h : Hr) (c : Nat) (w : World) (hr : RowV KS w A h.L c) :
    Calls Tryz.prog 24 #[.agg (hrC ⟨A, c, h⟩)] w fun r w' => r = .returned (.bool (rightH h)) ∧ Ext w w' := by
  have h1 := Blk.new w 29 (hrC ⟨A, c, h⟩)
  have HE := Lib.hid ((Ext.refl w).alloc (.cells (hrC ⟨A, c, h⟩) 29))
  have hLm : h.L.length ≤ 9223372036854775807 := Nat.le_trans hr.2.2.1 hr.2.2.2
  have crt := fun w k => rright14_c A h.L c hLm w k
  have csp := fun w => rmay7_c h.sp w
  have hq := rightH_eq h
  generalize rightT h.L = R at *
  generalize smB h.sp = P at *
  cases R
  · go_enter Tryz.func24, Tryz.ntmps24
    go_wp2_with (refine wpList_load_part (by rfl) 24 _ rfl rfl h1 (hrC_tlb A c h) Tryz.underlying24 rfl (tb_info _) ?_)
    refine (crt _ (hr.ext HE.out)).mono ?_
    rintro e w' ⟨rfl, hE⟩
    replace h1 := h1.ext hE; replace HE := Lib.hid (HE.out.trans hE); 
    clear hE crt csp
    go_wp2
    go_ret
    refine ⟨?_, HE.out⟩
    rw [hq]
    (rfl)
  · go_enter Tryz.func24, Tryz.ntmps24
    go_wp2_with (refine wpList_load_part (by rfl) 24 _ rfl rfl h1 (hrC_tlb A c h) Tryz.underlying24 rfl (tb_info _) ?_)
    refine (crt _ (hr.ext HE.out)).mono ?_
    rintro e w' ⟨rfl, hE⟩
    replace h1 := h1.ext hE; replace HE := Lib.hid (HE.out.trans hE); 
    clear hE crt
    go_wp2_with (refine wpList_load_part (by rfl) 27 _ rfl rfl h1 (hrC_sp A c h) Tryz.underlying27 rfl (sp_info _) ?_)
    refine (csp _).mono ?_
    rintro e w' ⟨rfl, hE⟩
    replace h1 := h1.ext hE; replace HE := Lib.hid (HE.out.trans hE); 
    clear hE csp
    have x4 := h1.hr.pr
    cases P
    · skip
      go_wp2
      go_ret
      refine ⟨?_, HE.out⟩
      rw [hq]
      (rfl)
    · by_cases e0 : h.pr = 0
      · rw [e0] at x4 hq
        go_wp2
        go_ret
        refine ⟨?_, HE.out⟩
        rw [hq]
        (rfl)
      · have e0' : (h.pr == 0) = false := by rw [beq_eq_false_iff_ne]; exact e0
        rw [e0'] at hq
        go_wp2
        go_ret
        refine ⟨?_, HE.out⟩
        rw [hq]
        (rfl)
theorem hr_dec (h g : Hr) : decide (h = g) = (decide (h.L = g.L) && (decide (h.sp = g.sp) && ((h.pr == g.pr) && ((h.su == g.su) && ((h.mx == g.mx) && (h.vi == g.vi)))))) := by
  obtain ⟨L, sp, pr, su, mx, vi⟩ := h
  obtain ⟨L', sp', pr', su', mx', vi'⟩ := g
  rw [Bool.eq_iff_iff]
  simp
set_option maxHeartbeats 2000000 in
theorem rsame16_c (A B : Option Addr) (h g : Hr) (c d : Nat) (hL : h.L.length ≤ 1000) (gL : g.L.length ≤ 1000) (w : World) (hr : RowV KS w A h.L c) (gr : RowV KS w B g.L d) :
    Calls Tryz.prog 14 #[.agg (hrC ⟨A, c, h⟩), .agg (hrC ⟨B, d, g⟩)] w fun r w' => r = .returned (.bool (decide (h = g))) ∧ Ext w w' := by
  obtain ⟨h1, h2⟩ := blk_two (Ext.refl ((w.alloc (.cells (hrC ⟨A, c, h⟩) 29)).alloc (.cells (hrC ⟨B, d, g⟩) 29)))
  have HE := Lib.hid (((Ext.refl w).alloc (.cells (hrC ⟨A, c, h⟩) 29)).alloc (.cells (hrC ⟨B, d, g⟩) 29))
  have csm := fun w k k' => rsame14_c A B h.L g.L c d hL gL w k k'
  have hq := hr_dec h g
  have hsp : ∀ w, (binOp .eql 27 (.agg (spC h.sp)) (.agg (spC g.sp))).run Tryz.prog w = .ok (.bool (decide (h.sp = g.sp))) w := fun w => eql_sp w _ _
  generalize decide (h.L = g.L) = R at *
  generalize decide (h.sp = g.sp) = P at *
  go_enter Tryz.func14, Tryz.ntmps14
  go_wp2_with (first | (refine wpList_load_part (by rfl) 24 _ rfl rfl h1 (hrC_tlb A c h) Tryz.underlying24 rfl (tb_info _) ?_) | (refine wpList_load_part (by rfl) 24 _ rfl rfl h2 (hrC_tlb B d g) Tryz.underlying24 rfl (tb_info _) ?_))
  refine (csm _ (hr.ext HE.out) (gr.ext HE.out)).mono ?_
  rintro e w' ⟨rfl, hE⟩
  replace h1 := h1.ext hE; replace h2 := h2.ext hE; replace HE := Lib.hid (HE.out.trans hE); 
  clear hE csm
  have y4 := h1.hr.pr
  have y5 := h1.hr.su
  have y6 := h1.hr.mx
  have y7 := h1.hr.vi
  have z4 := h2.hr.pr
  have z5 := h2.hr.su
  have z6 := h2.hr.mx
  have z7 := h2.hr.vi
  cases R
  · skip
    go_wp2
    go_ret
    refine ⟨?_, HE.out⟩
    rw [hq]
    (rfl)
  cases P
  · go_wp2_with (first | (refine wpList_load_part (by rfl) 27 _ rfl rfl h1 (hrC_sp A c h) Tryz.underlying27 rfl (sp_info _) ?_) | (refine wpList_load_part (by rfl) 27 _ rfl rfl h2 (hrC_sp B d g) Tryz.underlying27 rfl (sp_info _) ?_) | (refine wpList_cmp (op := .eql) (by rfl) 27 rfl rfl rfl (sp_guard) (hsp) ?_))
    go_ret
    refine ⟨?_, HE.out⟩
    rw [hq]
    (rfl)
  cases e4 : (h.pr == g.pr)
  · rw [e4] at hq
    go_wp2_with (first | (refine wpList_load_part (by rfl) 27 _ rfl rfl h1 (hrC_sp A c h) Tryz.underlying27 rfl (sp_info _) ?_) | (refine wpList_load_part (by rfl) 27 _ rfl rfl h2 (hrC_sp B d g) Tryz.underlying27 rfl (sp_info _) ?_) | (refine wpList_cmp (op := .eql) (by rfl) 27 rfl rfl rfl (sp_guard) (hsp) ?_))
    go_ret
    refine ⟨?_, HE.out⟩
    rw [hq]
    (rfl)
  cases e5 : (h.su == g.su)
  · rw [e4, e5] at hq
    go_wp2_with (first | (refine wpList_load_part (by rfl) 27 _ rfl rfl h1 (hrC_sp A c h) Tryz.underlying27 rfl (sp_info _) ?_) | (refine wpList_load_part (by rfl) 27 _ rfl rfl h2 (hrC_sp B d g) Tryz.underlying27 rfl (sp_info _) ?_) | (refine wpList_cmp (op := .eql) (by rfl) 27 rfl rfl rfl (sp_guard) (hsp) ?_))
    go_ret
    refine ⟨?_, HE.out⟩
    rw [hq]
    (rfl)
  cases e6 : (h.mx == g.mx)
  · rw [e4, e5, e6] at hq
    go_wp2_with (first | (refine wpList_load_part (by rfl) 27 _ rfl rfl h1 (hrC_sp A c h) Tryz.underlying27 rfl (sp_info _) ?_) | (refine wpList_load_part (by rfl) 27 _ rfl rfl h2 (hrC_sp B d g) Tryz.underlying27 rfl (sp_info _) ?_) | (refine wpList_cmp (op := .eql) (by rfl) 27 rfl rfl rfl (sp_guard) (hsp) ?_))
    go_ret
    refine ⟨?_, HE.out⟩
    rw [hq]
    (rfl)
  rw [e4, e5, e6] at hq
  go_wp2_with (first | (refine wpList_load_part (by rfl) 27 _ rfl rfl h1 (hrC_sp A c h) Tryz.underlying27 rfl (sp_info _) ?_) | (refine wpList_load_part (by rfl) 27 _ rfl rfl h2 (hrC_sp B d g) Tryz.underlying27 rfl (sp_info _) ?_) | (refine wpList_cmp (op := .eql) (by rfl) 27 rfl rfl rfl (sp_guard) (hsp) ?_))
  go_ret
  refine ⟨?_, HE.out⟩
  rw [hq]
  (rfl)
end Go.Proofs.YtlhoedpencmikaaGreatDoor
