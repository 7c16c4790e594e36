/- Layer 9: awake answers true; CauseFaults, CauseNames. -/
import Derived.Test.YtlcdkejjojginaaDoorRnine
namespace Go.Proofs.YtlcdkejjojginaaDoor
open Go.ChangeShapes Go.WideShapes Go.ChangeAt Go.RowKit
set_option linter.unusedVariables false
set_option linter.unusedSimpArgs false

theorem fld_cause (b : Bool) (c : Int) (a : Int) (w : World) : (Instr.field 25 (.agg #[.bool b, .int .i64 c, .int .u64 a]) 1).run Tryd.prog w = .ok (.int .i64 c) w := by kernel_rfl
theorem page_l (k : Nat) (hk : k < 3) (a : Nat) (w : World) (hT : Tabs w) :
    Calls Tryd.prog 11 #[.int .i64 (k : Int), .int .u64 (a : Int)] w fun e w' => e = .returned (.agg #[.bool true, .int .i64 (cauI (6 + k)), .int .u64 (a : Int)]) ∧ Ext w w' := by
  have h := page9_c k hk a w hT
  rwa [ftC_def] at h
theorem access_l (k : Nat) (hk : k < 3) (a : Nat) (w : World) (hT : Tabs w) :
    Calls Tryd.prog 10 #[.int .i64 (k : Int), .int .u64 (a : Int)] w fun e w' => e = .returned (.agg #[.bool true, .int .i64 (cauI (3 + k)), .int .u64 (a : Int)]) ∧ Ext w w' := by
  have h := access9_c k hk a w hT
  rwa [ftC_def] at h
theorem odd_l (k : Nat) (hk : k < 3) (a : Nat) (w : World) (hT : Tabs w) :
    Calls Tryd.prog 8 #[.int .i64 (k : Int), .int .u64 (a : Int)] w fun e w' => e = .returned (.agg #[.bool true, .int .i64 (cauI k), .int .u64 (a : Int)]) ∧ Ext w w' := by
  have h := odd9_c k hk a w hT
  rwa [ftC_def] at h
set_option maxRecDepth 100000 in
theorem awake9_c (w : World) (hT : Tabs w) :
    Calls Tryd.prog 7 #[] w fun e w' => e = .returned (.bool true) ∧ Ext w w' := by
  obtain ⟨v0, v1, v2, v3, v4, v5, v6, v7, v8⟩ := cau_val
  have hs : ∀ w, Tabs w → Calls Tryd.prog 12 #[.int .i64 13] w fun e w' => e = .returned (.tuple #[.int .i64 3, .int .i64 1]) ∧ Ext w w' := fun w h => by
    have := sort9_c 13 w h
    rwa [show posN 13 = 7 from v7 ▸ pos_cau (by decide), show srtI 7 = 3 from by simp [srtI], show kndI 7 = 1 from by simp [kndI]] at this
  have hn : ∀ w, Tabs w → Calls Tryd.prog 14 #[.int .i64 13] w fun e w' => e = .returned (.string ⟨#[112, 97, 103, 101, 32, 108, 111, 97, 100]⟩) ∧ Ext w w' := fun w h => by
    have := name9_c 13 w h
    rwa [show posN 13 = 7 from v7 ▸ pos_cau (by decide), nam_val.2.2.2.2.2.2.2.1] at this
  have hn2 : ∀ w, Tabs w → Calls Tryd.prog 14 #[.int .i64 2] w fun e w' => e = .returned (.string ⟨#[]⟩) ∧ Ext w w' := fun w h => by
    have := name9_c 2 w h
    rwa [pos_none (n := 2) (by decide) (by decide) (by decide) (by decide) (by decide) (by decide) (by decide) (by decide) (by decide), nam_none] at this
  have hp : ∀ w, Tabs w → Calls Tryd.prog 11 #[.int .i64 2, .int .u64 5] w fun e w' => e = .returned (.agg #[.bool true, .int .i64 15, .int .u64 5]) ∧ Ext w w' := fun w h => by
    have := page_l 2 (by decide) 5 w h
    rwa [show 6 + 2 = 8 from rfl, v8] at this
  have ho : ∀ w, Tabs w → Calls Tryd.prog 8 #[.int .i64 0, .int .u64 1] w fun e w' => e = .returned (.agg #[.bool true, .int .i64 0, .int .u64 1]) ∧ Ext w w' := fun w h => by
    have := odd_l 0 (by decide) 1 w h
    rwa [v0] at this
  have hx : ∀ w, Tabs w → Calls Tryd.prog 10 #[.int .i64 1, .int .u64 1] w fun e w' => e = .returned (.agg #[.bool true, .int .i64 5, .int .u64 1]) ∧ Ext w w' := fun w h => by
    have := access_l 1 (by decide) 1 w h
    rwa [show 3 + 1 = 4 from rfl, v4] at this
  have hq : ∀ w, (binOp .eql 25 (.agg #[.bool true, .int .i64 15, .int .u64 5]) (.agg #[.bool true, .int .i64 15, .int .u64 5])).run Tryd.prog w = .ok (.bool true) w := fun w => by
    have h := eql_ft w ⟨true, 15, 5⟩ ⟨true, 15, 5⟩
    rwa [ftC_def] at h
  have hg := ft_guard
  have f1 := fld_cause true 0 1
  have f2 := fld_cause true 5 1
  have HE := Lib.hid (Ext.refl w)
  have HT := Lib.hid hT
  clear hT v0 v1 v2 v3 v4 v5 v6 v7 v8
  go_enter Tryd.func7, Tryd.ntmps7
  go_wp2_with fail
  refine (hs _ HT.out).mono ?_
  rintro e w5 ⟨rfl, hE⟩
  replace HE := Lib.hid (HE.out.trans hE)
  replace HT := Lib.hid (HT.out.ext hE)
  clear hE
  go_wp2_with fail
  refine (hp _ HT.out).mono ?_
  rintro e w5 ⟨rfl, hE⟩
  replace HE := Lib.hid (HE.out.trans hE)
  replace HT := Lib.hid (HT.out.ext hE)
  clear hE
  go_wp2_with fail
  refine (hn _ HT.out).mono ?_
  rintro e w5 ⟨rfl, hE⟩
  replace HE := Lib.hid (HE.out.trans hE)
  replace HT := Lib.hid (HT.out.ext hE)
  clear hE
  go_wp2_with fail
  refine (hn2 _ HT.out).mono ?_
  rintro e w5 ⟨rfl, hE⟩
  replace HE := Lib.hid (HE.out.trans hE)
  replace HT := Lib.hid (HT.out.ext hE)
  clear hE
  go_wp2_with fail
  refine (ho _ HT.out).mono ?_
  rintro e w5 ⟨rfl, hE⟩
  replace HE := Lib.hid (HE.out.trans hE)
  replace HT := Lib.hid (HT.out.ext hE)
  clear hE
  go_wp2_with fail
  refine (hx _ HT.out).mono ?_
  rintro e w5 ⟨rfl, hE⟩
  replace HE := Lib.hid (HE.out.trans hE)
  replace HT := Lib.hid (HT.out.ext hE)
  clear hE
  go_wp2
  go_ret
  exact ⟨rfl, HE.out⟩

set_option maxRecDepth 100000 in
theorem CauseFaults_w (n a : Nat) (hn : n < 256) (w : World) (hT : Tabs w) :
    Calls Tryd.prog 3 #[.int .u8 (n : Int), .int .u64 (a : Int)] w fun e w' => e = .returned (.bool true) ∧ Ext w w' := by
  have hk : n % 3 < 3 := Nat.mod_lt _ (by decide)
  have e3 : ((n % 3 : Nat) : Int) = (n : Int) % 3 := by omega
  have ho := fun w h => odd9_c (n % 3) hk a w h
  have hx := fun w h => access9_c (n % 3) hk a w h
  have hp := fun w h => page9_c (n % 3) hk a w h
  have r0 : ∀ w, Calls Tryd.prog 9 #[.int .i64 1, .int .i64 ((n % 3 : Nat) : Int), .int .u64 (a : Int)] w fun e w' => e = .returned (.agg (ftC ⟨true, cauI (n % 3), a⟩)) ∧ Ext w w' := fun w => by
    have h := rfault9_c 0 (n % 3) (by decide) hk a w
    rw [show 3 * 0 + n % 3 = n % 3 by omega] at h
    exact h
  have r1 : ∀ w, Calls Tryd.prog 9 #[.int .i64 2, .int .i64 ((n % 3 : Nat) : Int), .int .u64 (a : Int)] w fun e w' => e = .returned (.agg (ftC ⟨true, cauI (3 + n % 3), a⟩)) ∧ Ext w w' := fun w => rfault9_c 1 (n % 3) (by decide) hk a w
  have r2 : ∀ w, Calls Tryd.prog 9 #[.int .i64 3, .int .i64 ((n % 3 : Nat) : Int), .int .u64 (a : Int)] w fun e w' => e = .returned (.agg (ftC ⟨true, cauI (6 + n % 3), a⟩)) ∧ Ext w w' := fun w => rfault9_c 2 (n % 3) (by decide) hk a w
  rw [e3] at ho hx hp r0 r1 r2
  have q0 := fun w => eql_ft w ⟨true, cauI (n % 3), a⟩ ⟨true, cauI (n % 3), a⟩
  have q1 := fun w => eql_ft w ⟨true, cauI (3 + n % 3), a⟩ ⟨true, cauI (3 + n % 3), a⟩
  have q2 := fun w => eql_ft w ⟨true, cauI (6 + n % 3), a⟩ ⟨true, cauI (6 + n % 3), a⟩
  rw [decide_eq_true rfl] at q0 q1 q2
  generalize ftC ⟨true, cauI (n % 3), a⟩ = F0 at ho r0 q0
  generalize ftC ⟨true, cauI (3 + n % 3), a⟩ = F1 at hx r1 q1
  generalize ftC ⟨true, cauI (6 + n % 3), a⟩ = F2 at hp r2 q2
  have hg := ft_guard
  have HE := Lib.hid (Ext.refl w)
  have HT := Lib.hid hT
  clear hT hk e3
  go_enter Tryd.func3, Tryd.ntmps3
  go_wp2_with fail
  refine (awake9_c _ HT.out).mono ?_
  rintro e w5 ⟨rfl, hE⟩
  replace HE := Lib.hid (HE.out.trans hE)
  replace HT := Lib.hid (HT.out.ext hE)
  clear hE
  go_wp2_with fail
  refine (ho _ HT.out).mono ?_
  rintro e w5 ⟨rfl, hE⟩
  replace HE := Lib.hid (HE.out.trans hE)
  replace HT := Lib.hid (HT.out.ext hE)
  clear hE
  go_wp2_with fail
  refine (r0 _).mono ?_
  rintro e w5 ⟨rfl, hE⟩
  replace HE := Lib.hid (HE.out.trans hE)
  replace HT := Lib.hid (HT.out.ext hE)
  clear hE
  go_wp2_with fail
  refine (hx _ HT.out).mono ?_
  rintro e w5 ⟨rfl, hE⟩
  replace HE := Lib.hid (HE.out.trans hE)
  replace HT := Lib.hid (HT.out.ext hE)
  clear hE
  go_wp2_with fail
  refine (r1 _).mono ?_
  rintro e w5 ⟨rfl, hE⟩
  replace HE := Lib.hid (HE.out.trans hE)
  replace HT := Lib.hid (HT.out.ext hE)
  clear hE
  go_wp2_with fail
  refine (hp _ HT.out).mono ?_
  rintro e w5 ⟨rfl, hE⟩
  replace HE := Lib.hid (HE.out.trans hE)
  replace HT := Lib.hid (HT.out.ext hE)
  clear hE
  go_wp2_with fail
  refine (r2 _).mono ?_
  rintro e w5 ⟨rfl, hE⟩
  replace HE := Lib.hid (HE.out.trans hE)
  replace HT := Lib.hid (HT.out.ext hE)
  clear hE
  go_wp2
  go_ret
  exact ⟨rfl, HE.out⟩
set_option maxRecDepth 100000 in
theorem CauseNames_w (n : Int) (w : World) (hT : Tabs w) :
    Calls Tryd.prog 4 #[.int .i64 n] w fun e w' => e = .returned (.bool true) ∧ Ext w w' := by
  have hs := sort9_c n
  have hr := rsort9_c n
  have hn := name9_c n
  have hm := rname9_c n
  generalize srtI (posN n) = s at hs hr
  generalize kndI (posN n) = k at hs hr
  generalize namB (posN n) = b at hn hm
  have HE := Lib.hid (Ext.refl w)
  have HT := Lib.hid hT
  clear hT
  go_enter Tryd.func4, Tryd.ntmps4
  go_wp2_with fail
  refine (awake9_c _ HT.out).mono ?_
  rintro e w5 ⟨rfl, hE⟩
  replace HE := Lib.hid (HE.out.trans hE)
  replace HT := Lib.hid (HT.out.ext hE)
  clear hE
  go_wp2_with fail
  refine (hs _ HT.out).mono ?_
  rintro e w5 ⟨rfl, hE⟩
  replace HE := Lib.hid (HE.out.trans hE)
  replace HT := Lib.hid (HT.out.ext hE)
  clear hE
  go_wp2_with fail
  refine (hr _).mono ?_
  rintro e w5 ⟨rfl, hE⟩
  replace HE := Lib.hid (HE.out.trans hE)
  replace HT := Lib.hid (HT.out.ext hE)
  clear hE
  go_wp2_with fail
  refine (hn _ HT.out).mono ?_
  rintro e w5 ⟨rfl, hE⟩
  replace HE := Lib.hid (HE.out.trans hE)
  replace HT := Lib.hid (HT.out.ext hE)
  clear hE
  go_wp2_with fail
  refine (hm _).mono ?_
  rintro e w5 ⟨rfl, hE⟩
  replace HE := Lib.hid (HE.out.trans hE)
  replace HT := Lib.hid (HT.out.ext hE)
  clear hE
  go_wp2
  go_ret
  exact ⟨rfl, HE.out⟩
end Go.Proofs.YtlcdkejjojginaaDoor
