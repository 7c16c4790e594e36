/- Layer 7: awake answers true. -/
import Derived.Test.YtigbgmcdmoinmaaCseven
namespace Go.Proofs.Ytigbgmcdmoinmaa
open Go.ChangeShapes Go.WideShapes Go.ChangeAt Go.RowKit
set_option linter.unusedVariables false
set_option linter.unusedSimpArgs false

theorem S0_may : smB ⟨8, 1, 2⟩ = true := by unfold smB; rfl
theorem S0_wd : wdN ⟨8, 1, 2⟩ = 9223389629040820226 := by unfold wdN; rfl
theorem S0_rd : rdP 9223389629040820226 = ⟨8, 1, 2⟩ := by unfold rdP; rfl
theorem S1_rd : rdP 1 = ⟨0, 0, 1⟩ := by unfold rdP; rfl
theorem S1_may : smB ⟨0, 0, 1⟩ = false := by unfold smB; rfl
theorem S9_may : smB ⟨9, 0, 0⟩ = false := by unfold smB; rfl
theorem Z_may : smB ⟨0, 0, 0⟩ = true := by unfold smB; rfl
set_option maxRecDepth 100000 in
set_option maxHeartbeats 2000000 in
theorem awake7_c (w : World) :
    Calls Try.prog 6 #[] w fun e w' => e = .returned (.bool true) ∧ Ext w w' := by
  have hput : ∀ w, Calls Try.prog 7 #[.agg #[.int .u64 8, .int .u64 1, .int .u64 2]] w fun e w' => e = .returned (.tuple #[.int .u64 9223389629040820226, .int .i64 0]) ∧ Ext w w' := fun w => by
    have h := sput_yes ⟨8, 1, 2⟩ (by unfold Sp.ok; decide) S0_may w
    rwa [S0_wd, spC_def] at h
  have hget : ∀ w, Calls Try.prog 8 #[.int .u64 9223389629040820226] w fun e w' => e = .returned (.tuple #[.agg #[.int .u64 8, .int .u64 1, .int .u64 2], .int .i64 0]) ∧ Ext w w' := fun w => by
    have h := sget_c 9223389629040820226 (by decide) w
    have e : sgP 9223389629040820226 = ⟨8, 1, 2⟩ := by rw [sgP_may (by rw [S0_rd]; exact S0_may), S0_rd]
    rw [S0_rd, S0_may, e, spC_def] at h
    exact h
  have hget1 : ∀ w, Calls Try.prog 8 #[.int .u64 1] w fun e w' => e = .returned (.tuple #[.agg #[.int .u64 0, .int .u64 0, .int .u64 0], .int .i64 1]) ∧ Ext w w' := fun w => by
    have h := sget_c 1 (by decide) w
    have e : sgP 1 = zSp := sgP_not (by rw [S1_rd]; exact S1_may)
    rw [S1_rd, S1_may, e, zSp_cells] at h
    exact h
  have hput9 : ∀ w, Calls Try.prog 7 #[.agg #[.int .u64 9, .int .u64 0, .int .u64 0]] w fun e w' => e = .returned (.tuple #[.int .u64 0, .int .i64 1]) ∧ Ext w w' := fun w => by
    have h := sput_no ⟨9, 0, 0⟩ (by unfold Sp.ok; decide) S9_may w
    rwa [spC_def] at h
  have hon : ∀ w, Calls Try.prog 12 #[.agg #[.int .u64 8, .int .u64 1, .int .u64 2]] w fun e w' => e = .returned (.bool true) ∧ Ext w w' := fun w => by
    have h := on7_c ⟨8, 1, 2⟩ w
    rw [spC_def] at h
    exact h
  have hon0 : ∀ w, Calls Try.prog 12 #[.agg #[.int .u64 0, .int .u64 0, .int .u64 0]] w fun e w' => e = .returned (.bool false) ∧ Ext w w' := fun w => by
    have h := on7_c ⟨0, 0, 0⟩ w
    rw [spC_def] at h
    exact h
  have hmay0 : ∀ w, Calls Try.prog 10 #[.agg #[.int .u64 0, .int .u64 0, .int .u64 0]] w fun e w' => e = .returned (.bool true) ∧ Ext w w' := fun w => by
    have h := may7_c ⟨0, 0, 0⟩ (by unfold Sp.ok; decide) w
    rwa [Z_may, spC_def] at h
  have hmay1 : ∀ w, Calls Try.prog 10 #[.agg #[.int .u64 0, .int .u64 0, .int .u64 1]] w fun e w' => e = .returned (.bool false) ∧ Ext w w' := fun w => by
    have h := may7_c ⟨0, 0, 1⟩ (by unfold Sp.ok; decide) w
    rwa [S1_may, spC_def] at h
  have hq : ∀ w, (binOp .eql 24 (.agg #[.int .u64 8, .int .u64 1, .int .u64 2]) (.agg #[.int .u64 8, .int .u64 1, .int .u64 2])).run Try.prog w = .ok (.bool true) w := fun w => by
    have h := eql_sp w ⟨8, 1, 2⟩ ⟨8, 1, 2⟩
    rwa [spC_def] at h
  have hg := sp_guard
  have HE := Lib.hid ((Ext.refl w).alloc (.cells #[.int .u64 8, .int .u64 1, .int .u64 2] 24))
  have hb := Blk.new w 24 #[.int .u64 8, .int .u64 1, .int .u64 2]
  go_enter Try.func6, Try.ntmps6
  go_wp2_with fail
  refine (hput _).mono ?_
  rintro e w1 ⟨rfl, hE⟩
  replace HE := Lib.hid (HE.out.trans hE)
  replace hb := hb.ext hE
  clear hE hput
  go_wp2_with fail
  refine (hget _).mono ?_
  rintro e w2 ⟨rfl, hE⟩
  replace HE := Lib.hid ((HE.out.trans hE).alloc (.cells #[.int .u64 8, .int .u64 1, .int .u64 2] 24))
  replace hb := (hb.ext hE).alloc (.cells #[.int .u64 8, .int .u64 1, .int .u64 2] 24)
  have hc := Blk.new w2 24 #[.int .u64 8, .int .u64 1, .int .u64 2]
  clear hE hget
  go_wp2_with fail
  refine (hget1 _).mono ?_
  rintro e w3 ⟨rfl, hE⟩
  replace HE := Lib.hid (HE.out.trans hE)
  replace hb := hb.ext hE
  replace hc := hc.ext hE
  clear hE hget1
  go_wp2_with fail
  refine (hput9 _).mono ?_
  rintro e w4 ⟨rfl, hE⟩
  replace hE := ext_one hE
  replace HE := Lib.hid (HE.out.trans hE)
  replace hb := hb.ext hE
  replace hc := hc.ext hE
  clear hE hput9
  go_wp2_with (refine wpList_load_blk (by rfl) 24 _ rfl rfl (by assumption) Try.underlying24 rfl (by kernel_rfl) ?_)
  refine (hon _).mono ?_
  rintro e w5 ⟨rfl, hE⟩
  replace HE := Lib.hid (HE.out.trans hE)
  replace hb := hb.ext hE
  replace hc := hc.ext hE
  clear hE
  clear hon
  go_wp2_with (refine wpList_load_blk (by rfl) 24 _ rfl rfl (by assumption) Try.underlying24 rfl (by kernel_rfl) ?_)
  refine (hon0 _).mono ?_
  rintro e w5 ⟨rfl, hE⟩
  replace HE := Lib.hid (HE.out.trans hE)
  replace hb := hb.ext hE
  replace hc := hc.ext hE
  clear hE
  clear hon0
  go_wp2_with (refine wpList_load_blk (by rfl) 24 _ rfl rfl (by assumption) Try.underlying24 rfl (by kernel_rfl) ?_)
  refine (hmay0 _).mono ?_
  rintro e w5 ⟨rfl, hE⟩
  replace HE := Lib.hid (HE.out.trans hE)
  replace hb := hb.ext hE
  replace hc := hc.ext hE
  clear hE
  clear hmay0
  go_wp2_with (refine wpList_load_blk (by rfl) 24 _ rfl rfl (by assumption) Try.underlying24 rfl (by kernel_rfl) ?_)
  refine (hmay1 _).mono ?_
  rintro e w5 ⟨rfl, hE⟩
  replace HE := Lib.hid (HE.out.trans hE)
  replace hb := hb.ext hE
  replace hc := hc.ext hE
  clear hE
  clear hmay1
  go_wp2
  go_ret
  exact ⟨rfl, HE.out⟩
end Go.Proofs.Ytigbgmcdmoinmaa
