/- Layer 4: awake answers true. -/
import Derived.Test.YtdiffllpoappfaaDoorRpoo
namespace Go.Proofs.YtdiffllpoappfaaDoor
open Go.ChangeShapes Go.WideShapes Go.ChangeAt Go.RowKit
set_option linter.unusedVariables false
set_option linter.unusedSimpArgs false

theorem Tab.ext {w w' : World} (h : Tab w) (hE : Ext w w') : Tab w' := h.below hE
theorem Tab.alloc {w : World} (h : Tab w) (o : Obj) : Tab (w.alloc o) := h.ext ((Ext.refl w).alloc o)

theorem a_low3 : lowN' 3 = 0 := by decide +kernel
theorem a_low2 : lowN' 2 = 1 := by decide +kernel
theorem a_take3 : takeF 3 = 2 := by decide +kernel
theorem a_take2 : takeF 2 = 0 := by decide +kernel
theorem a_give0 : freedN 10 2 0 10 = 1 := by decide +kernel
theorem a_is0 : isB 10 2 0 10 = true := by decide +kernel
theorem a_give1 : freedN 10 2 1 10 = 1 := by decide +kernel
theorem a_is1 : isB 10 2 1 10 = false := by decide +kernel
theorem a_is11 : isB 10 2 1 11 = true := by decide +kernel
theorem a_is12 : isB 10 2 1 12 = false := by decide +kernel
theorem a_pop1 : popN 1 64 = 1 := by decide +kernel
theorem a_r1 : rightB 10 2 1 = true := by decide +kernel
theorem a_r2 : rightB 10 2 0 = true := by decide +kernel
theorem a_r3 : rightB 0 0 1 = false := by decide +kernel
theorem a_r4 : rightB 0 65 0 = false := by decide +kernel

theorem n_10 (w : World) : Calls Tryd.prog 19 #[.int .u64 10, .int .i64 2] w fun e w' => e = .returned (.tuple #[.agg #[.int .u64 10, .int .i64 2, .int .u64 3], .int .i64 0]) ∧ Ext w w' := new_yes 10 2 (by decide) (by decide) a_r2 w
theorem n_65 (w : World) : Calls Tryd.prog 19 #[.int .u64 0, .int .i64 65] w fun e w' => e = .returned (.tuple #[.agg #[.int .u64 0, .int .i64 0, .int .u64 0], .int .i64 1]) ∧ Ext w w' := new_no 0 65 (by decide) (by decide) (by decide) a_r4 w
theorem t_3 (w : World) (hT : Tab w) : Calls Tryd.prog 11 #[.agg #[.int .u64 10, .int .i64 2, .int .u64 3]] w fun e w' => e = .returned (.tuple #[.agg #[.int .u64 10, .int .i64 2, .int .u64 2], .int .u64 10, .int .i64 0]) ∧ Ext w w' := by
  have := take_yes 10 2 3 (by decide) (by decide) (by decide) w hT
  rwa [a_low3, a_take3] at this
theorem t_2 (w : World) (hT : Tab w) : Calls Tryd.prog 11 #[.agg #[.int .u64 10, .int .i64 2, .int .u64 2]] w fun e w' => e = .returned (.tuple #[.agg #[.int .u64 10, .int .i64 2, .int .u64 0], .int .u64 11, .int .i64 0]) ∧ Ext w w' := by
  have := take_yes 10 2 2 (by decide) (by decide) (by decide) w hT
  rwa [a_low2, a_take2] at this
theorem t_0 (w : World) (hT : Tab w) : Calls Tryd.prog 11 #[.agg #[.int .u64 10, .int .i64 2, .int .u64 0]] w fun e w' => e = .returned (.tuple #[.agg #[.int .u64 10, .int .i64 2, .int .u64 0], .int .u64 0, .int .i64 8]) ∧ Ext w w' := take_no 10 2 w hT
theorem g_0 (w : World) : Calls Tryd.prog 13 #[.agg #[.int .u64 10, .int .i64 2, .int .u64 0], .int .u64 10] w fun e w' => e = .returned (.tuple #[.agg #[.int .u64 10, .int .i64 2, .int .u64 1], .int .i64 0]) ∧ Ext w w' := by
  have := give_c 10 2 0 10 (by decide) (by decide) (by decide) (by decide) w
  rwa [a_give0, a_is0] at this
theorem g_1 (w : World) : Calls Tryd.prog 13 #[.agg #[.int .u64 10, .int .i64 2, .int .u64 1], .int .u64 10] w fun e w' => e = .returned (.tuple #[.agg #[.int .u64 10, .int .i64 2, .int .u64 1], .int .i64 1]) ∧ Ext w w' := by
  have := give_c 10 2 1 10 (by decide) (by decide) (by decide) (by decide) w
  rwa [a_give1, a_is1] at this
theorem f_1 (w : World) : Calls Tryd.prog 15 #[.agg #[.int .u64 10, .int .i64 2, .int .u64 1]] w fun e w' => e = .returned (.int .i64 1) ∧ Ext w w' := by
  have := free_c 10 1 2 (by decide) w
  rwa [a_pop1] at this
theorem i_11 (w : World) : Calls Tryd.prog 17 #[.agg #[.int .u64 10, .int .i64 2, .int .u64 1], .int .u64 11] w fun e w' => e = .returned (.bool true) ∧ Ext w w' := by
  have := is_c 10 2 1 11 (by decide) (by decide) (by decide) (by decide) w
  rwa [a_is11] at this
theorem i_10 (w : World) : Calls Tryd.prog 17 #[.agg #[.int .u64 10, .int .i64 2, .int .u64 1], .int .u64 10] w fun e w' => e = .returned (.bool false) ∧ Ext w w' := by
  have := is_c 10 2 1 10 (by decide) (by decide) (by decide) (by decide) w
  rwa [a_is1] at this
theorem i_12 (w : World) : Calls Tryd.prog 17 #[.agg #[.int .u64 10, .int .i64 2, .int .u64 1], .int .u64 12] w fun e w' => e = .returned (.bool false) ∧ Ext w w' := by
  have := is_c 10 2 1 12 (by decide) (by decide) (by decide) (by decide) w
  rwa [a_is12] at this
theorem r_1 (w : World) : Calls Tryd.prog 9 #[.agg #[.int .u64 10, .int .i64 2, .int .u64 1]] w fun e w' => e = .returned (.bool true) ∧ Ext w w' := by
  have := right_c 10 1 2 (by decide) (by decide) (by decide) (by decide) w
  rwa [a_r1] at this
theorem r_0 (w : World) : Calls Tryd.prog 9 #[.agg #[.int .u64 0, .int .i64 0, .int .u64 1]] w fun e w' => e = .returned (.bool false) ∧ Ext w w' := by
  have := right_c 0 1 0 (by decide) (by decide) (by decide) (by decide) w
  rwa [a_r3] at this

set_option maxRecDepth 100000 in
set_option maxHeartbeats 4000000 in
theorem awake4_c (w : World) (hT : Tab w) : Calls Tryd.prog 8 #[] w fun e w' => e = .returned (.bool true) ∧ Ext w w' := by
  have HT := Lib.hid hT
  clear hT
  go_enter Tryd.func8, Tryd.ntmps8
  go_wp2_with fail
  refine (n_10 _).mono ?_
  rintro e w1 ⟨rfl, hE⟩
  have HE := Lib.hid (hE.alloc (.cells #[.int .u64 10, .int .i64 2, .int .u64 3] 24))
  clear hE
  go_wp2_with fail
  refine (t_3 _ (HT.out.ext HE.out)).mono ?_
  rintro e w2 ⟨rfl, hE⟩
  replace HE := Lib.hid ((HE.out.trans hE).alloc (.cells #[.int .u64 10, .int .i64 2, .int .u64 2] 24))
  clear hE
  go_wp2_with fail
  refine (t_2 _ (HT.out.ext HE.out)).mono ?_
  rintro e w3 ⟨rfl, hE⟩
  replace HE := Lib.hid ((HE.out.trans hE).alloc (.cells #[.int .u64 10, .int .i64 2, .int .u64 0] 24))
  clear hE
  go_wp2_with fail
  refine (t_0 _ (HT.out.ext HE.out)).mono ?_
  rintro e w4 ⟨rfl, hE⟩
  obtain ⟨b0, b1, b2⟩ := (blk_one hE).c3
  have hl : w3.heap.size < w4.heap.size := (blk_one hE).lt
  replace HE := Lib.hid ((HE.out.trans hE).alloc (.cells #[.int .u64 10, .int .i64 2, .int .u64 0] 24))
  clear hE
  go_wp2_with fail
  refine (g_0 _).mono ?_
  rintro e w5 ⟨rfl, hE⟩
  replace HE := Lib.hid ((HE.out.trans hE).alloc (.cells #[.int .u64 10, .int .i64 2, .int .u64 1] 24))
  clear hE b0 b1 b2 hl
  go_wp2_with fail
  refine (g_1 _).mono ?_
  rintro e w6 ⟨rfl, hE⟩
  have hb := (blk_one hE).alloc (.cells #[.int .u64 10, .int .i64 2, .int .u64 1] 24)
  replace HE := Lib.hid ((HE.out.trans hE).alloc (.cells #[.int .u64 10, .int .i64 2, .int .u64 1] 24))
  clear hE
  go_wp2_with fail
  refine (n_65 _).mono ?_
  rintro e w7 ⟨rfl, hE⟩
  have hl := (hb.ext hE).lt
  replace hb := (hb.ext hE).alloc (.cells #[.int .u64 0, .int .i64 0, .int .u64 0] 24)
  replace HE := Lib.hid ((HE.out.trans hE).alloc (.cells #[.int .u64 0, .int .i64 0, .int .u64 0] 24))
  obtain ⟨b0, b1, b2⟩ := hb.c3
  clear hE
  go_wp2_with fail; refine (f_1 _).mono ?_; rintro e w8 ⟨rfl, hE⟩; replace HE := Lib.hid (HE.out.trans hE); replace hb := hb.ext hE; clear hE b0 b1 b2; obtain ⟨b0, b1, b2⟩ := hb.c3
  go_wp2_with fail; refine (i_11 _).mono ?_; rintro e w9 ⟨rfl, hE⟩; replace HE := Lib.hid (HE.out.trans hE); replace hb := hb.ext hE; clear hE b0 b1 b2; obtain ⟨b0, b1, b2⟩ := hb.c3
  go_wp2_with fail; refine (i_10 _).mono ?_; rintro e w10 ⟨rfl, hE⟩; replace HE := Lib.hid (HE.out.trans hE); replace hb := hb.ext hE; clear hE b0 b1 b2; obtain ⟨b0, b1, b2⟩ := hb.c3
  go_wp2_with fail; refine (i_12 _).mono ?_; rintro e w11 ⟨rfl, hE⟩; replace HE := Lib.hid (HE.out.trans hE); replace hb := hb.ext hE; clear hE b0 b1 b2; obtain ⟨b0, b1, b2⟩ := hb.c3
  go_wp2_with fail; refine (r_1 _).mono ?_; rintro e w12 ⟨rfl, hE⟩; replace HE := Lib.hid (HE.out.trans hE); replace hb := hb.ext hE; clear hE b0 b1 b2; obtain ⟨b0, b1, b2⟩ := hb.c3
  go_wp2_with fail; refine (r_0 _).mono ?_; rintro e w13 ⟨rfl, hE⟩; replace HE := Lib.hid (HE.out.trans hE)
  clear hE hb b0 b1 b2
  go_wp2
  go_ret
  exact ⟨rfl, HE.out⟩
end Go.Proofs.YtdiffllpoappfaaDoor
