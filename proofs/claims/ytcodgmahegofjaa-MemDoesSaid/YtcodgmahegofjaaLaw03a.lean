/- Layer 3: awake answers true. -/
import Derived.Test.YtcodgmahegofjaaRsto
namespace Go.Proofs.Ytcodgmahegofjaa
open Go.ChangeShapes Go.WideShapes Go.ChangeAt Go.RowKit
set_option linter.unusedVariables false
set_option linter.unusedSimpArgs false

theorem new_1 (w : World) : Calls Try.prog 11 #[.int .u64 8192] w fun e w' => e = .returned (.tuple #[.agg #[.int .u64 8192, .slice none 0 0], .int .i64 0]) ∧ Ext w w' := by
  have h := new_c 8192 (by decide) w
  rwa [if_pos (by decide), if_pos (by decide)] at h
theorem new_2 (w : World) : Calls Try.prog 11 #[.int .u64 5] w fun e w' => e = .returned (.tuple #[.agg #[.int .u64 0, .slice none 0 0], .int .i64 1]) ∧ Ext w w' := by
  have h := new_c 5 (by decide) w
  rwa [if_neg (by decide), if_neg (by decide)] at h

def aL : List (Nat × Nat) := [(0, 1234605615003729920)]
theorem aL_len : aL.length = 1 := rfl
theorem aL_is : RL 1024 aL := by
  refine ⟨by simp [aL], fun c hc => ?_⟩
  simp [aL] at hc; subst hc; decide
theorem aL_store : storeL [] 4 4 287454020 = aL := by decide +kernel
theorem aL_load : ldN aL 8 0 8192 = 1234605615003729920 ∧ errN 8 0 8192 = 0 := by decide +kernel
theorem aL_load1 : errN 4 2 8192 = 2 := by decide +kernel
theorem aL_load2 : errN 8 8192 8192 = 3 := by decide +kernel
theorem aL_load3 : errN 3 0 8192 = 1 := by decide +kernel
theorem aL_word : wordL aL (6 / 8) = 1234605615003729920 := by decide +kernel
theorem aL_right : decide (RightM 8192 aL) = true := by decide +kernel
theorem aL_right8 : decide (RightM 8 []) = false := by decide +kernel
theorem aL_clear : clearL aL 0 1 = [] := by decide +kernel
attribute [irreducible] aL

theorem cells_nil : IsCells [] := fun i hi => by simp at hi
theorem box2_cells {w : World} {u v : Value} {t : TypeId} {w1 : World} (h : Ext (w.alloc (.cells #[u, v] t)) w1) : w1.cell? ⟨w.heap.size, 0, none⟩ = some u ∧ w1.cell? ⟨w.heap.size, 1, none⟩ = some v := box_mem h
theorem ext_cell {w w' : World} {p : Addr} {v : Value} (h : Ext w w') (hc : w.cell? p = some v) : w'.cell? p = some v := (h.cell (block_lt_of_cell hc)).trans hc

theorem store_1 (w : World) : Calls Try.prog 17 #[.agg #[.int .u64 8192, .slice none 0 0], .int .u64 4, .int .i64 4, .int .u64 287454020] w fun e w' =>
    ∃ A c, e = .returned (.tuple #[.agg #[.int .u64 8192, .slice A 1 c], .int .i64 0]) ∧ RowL w' A aL c ∧ Ext w w' := by
  have h := store_c 8192 none [] 0 4 4 287454020 1024 (RL.nil _) (by decide) (by decide) (.inr (.inr (.inl rfl))) (by decide) (by decide) (by decide) w (RowL.nil w)
  rw [aL_store] at h
  refine h.mono ?_
  rintro e w' ⟨v, rfl, hown, hE⟩
  obtain ⟨A, c, rfl, hr⟩ := own_row hown
  exact ⟨A, c, by rw [aL_len]; rfl, hr, hE⟩
theorem load_1 (A : Option Addr) (c a : Nat) (n : Int) (a1 : a < 18446744073709551616) (w : World) (hr : RowL w A aL c) :
    Calls Try.prog 15 #[.agg #[.int .u64 8192, .slice A 1 c], .int .u64 (a : Int), .int .i64 n] w fun e w' => e = .returned (.tuple #[.int .u64 ((ldN aL n a 8192 : Nat) : Int), .int .i64 ((errN n a 8192 : Nat) : Int)]) ∧ Ext w w' := by
  have h := load_c 8192 A aL c a 1024 n a1 aL_is (by rw [aL_len]; decide) w hr.1
  rwa [aL_len] at h
theorem word_1 (A : Option Addr) (c : Nat) (w : World) (hr : RowL w A aL c) :
    Calls Try.prog 19 #[.agg #[.int .u64 8192, .slice A 1 c], .int .u64 6] w fun e w' => e = .returned (.int .u64 1234605615003729920) ∧ Ext w w' := by
  have h := word_c 8192 A aL c 6 1024 (by decide) aL_is (by rw [aL_len]; decide) w hr.1
  rwa [aL_len, aL_word] at h
theorem right_1 (A : Option Addr) (c : Nat) (w : World) (hr : RowL w A aL c) :
    Calls Try.prog 14 #[.agg #[.int .u64 8192, .slice A 1 c]] w fun e w' => e = .returned (.bool true) ∧ Ext w w' := by
  have h := right_c 8192 A aL c (by decide) (aL_is.isCells (by decide)) (by rw [aL_len]; decide) w hr.1
  rwa [aL_len, aL_right] at h
theorem right_2 (w : World) : Calls Try.prog 14 #[.agg #[.int .u64 8, .slice none 0 0]] w fun e w' => e = .returned (.bool false) ∧ Ext w w' := by
  have h := right_c 8 none [] 0 (by decide) cells_nil (by decide) w (RowL.nil w).1
  rwa [aL_right8] at h
theorem clear_1 (A : Option Addr) (c : Nat) (w : World) (hr : RowL w A aL c) :
    Calls Try.prog 22 #[.agg #[.int .u64 8192, .slice A 1 c], .int .u64 0, .int .u64 8] w fun e w' => ∃ A' c', e = .returned (.agg #[.int .u64 8192, .slice A' 0 c']) ∧ Ext w w' := by
  have h := clear_c 8192 A aL c 0 8 1024 aL_is (by decide) (by decide) (by decide) (by rw [aL_len]; decide) w hr
  rw [aL_len, show clearL aL (0 / 8) (0 / 8 + 8 / 8) = [] from aL_clear] at h
  refine h.mono ?_
  rintro e w' ⟨v, rfl, hown, hE⟩
  obtain ⟨A, c, rfl, hr⟩ := own_row hown
  exact ⟨A, c, rfl, hE⟩

set_option maxRecDepth 100000 in
set_option maxHeartbeats 4000000 in
theorem awake3_c (w : World) : Calls Try.prog 9 #[] w fun e w' => e = .returned (.bool true) ∧ Ext w w' := by
  go_enter Try.func9, Try.ntmps9
  go_wp2_with fail
  refine (new_1 _).mono ?_
  rintro e w1 ⟨rfl, hE1⟩
  go_wp2_with fail
  refine (new_2 _).mono ?_
  rintro e w2 ⟨rfl, hE2⟩
  obtain ⟨hb0, hb1⟩ := box_mem hE2
  have hl2 : w1.heap.size < w2.heap.size := block_lt_of_cell hb0
  have HE := Lib.hid ((hE1.alloc (.cells #[.int .u64 8192, .slice none 0 0] 25)).trans hE2)
  clear hE1 hE2
  go_wp2_with fail
  refine (store_1 _).mono ?_
  rintro e w3 ⟨A, c, rfl, hr, hE3⟩
  replace HE := Lib.hid (((HE.out.alloc (.cells #[.int .u64 0, .slice none 0 0] 25)).trans hE3).alloc (.cells #[.int .u64 8192, .slice A 1 c] 25))
  replace hr := hr.ext ((Ext.refl w3).alloc (.cells #[.int .u64 8192, .slice A 1 c] 25))
  clear hE3 hb0 hb1 hl2
  go_wp2_with fail
  refine (load_1 A c 0 8 (by decide) _ hr).mono ?_
  rintro e w4 ⟨rfl, hE⟩
  obtain ⟨hb0, hb1⟩ := box_mem hE
  replace hr := hr.ext hE
  replace HE := Lib.hid (HE.out.trans hE)
  clear hE
  rw [aL_load.1, aL_load.2]
  go_wp2_with fail
  refine (load_1 A c 2 4 (by decide) _ hr).mono ?_
  rintro e w5 ⟨rfl, hE⟩
  replace hb0 := ext_cell hE hb0
  replace hb1 := ext_cell hE hb1
  replace hr := hr.ext hE
  replace HE := Lib.hid (HE.out.trans hE)
  clear hE
  rw [aL_load1]
  go_wp2_with fail
  refine (load_1 A c 8192 8 (by decide) _ hr).mono ?_
  rintro e w6 ⟨rfl, hE⟩
  replace hb0 := ext_cell hE hb0
  replace hb1 := ext_cell hE hb1
  replace hr := hr.ext hE
  replace HE := Lib.hid (HE.out.trans hE)
  clear hE
  rw [aL_load2]
  go_wp2_with fail
  refine (load_1 A c 0 3 (by decide) _ hr).mono ?_
  rintro e w7 ⟨rfl, hE⟩
  replace hb0 := ext_cell hE hb0
  replace hb1 := ext_cell hE hb1
  replace hr := hr.ext hE
  replace HE := Lib.hid (HE.out.trans hE)
  clear hE
  rw [aL_load3]
  go_wp2_with fail
  refine (word_1 A c _ hr).mono ?_
  rintro e w8 ⟨rfl, hE⟩
  replace hb0 := ext_cell hE hb0
  replace hb1 := ext_cell hE hb1
  replace hr := hr.ext hE
  replace HE := Lib.hid (HE.out.trans hE)
  clear hE
  go_wp2_with fail
  refine (right_1 A c _ hr).mono ?_
  rintro e w9 ⟨rfl, hE⟩
  replace hb0 := ext_cell hE hb0
  replace hb1 := ext_cell hE hb1
  replace hr := hr.ext hE
  replace HE := Lib.hid (HE.out.trans hE)
  clear hE
  go_wp2_with fail
  refine (right_2 _).mono ?_
  rintro e w10 ⟨rfl, hE⟩
  replace hb0 := ext_cell hE hb0
  replace hb1 := ext_cell hE hb1
  replace hr := hr.ext hE
  replace HE := Lib.hid (HE.out.trans hE)
  clear hE
  go_wp2_with fail
  refine (clear_1 A c _ hr).mono ?_
  rintro e w11 ⟨A', c', rfl, hE⟩
  replace HE := Lib.hid (HE.out.trans hE)
  clear hE hr hb0 hb1
  have hfd : ∀ w : World, (Instr.field 25 (.agg #[.int .u64 8192, .slice A' 0 c']) 1).run Try.prog w = .ok (.slice A' 0 c') w := fun _ => by kernel_rfl
  go_wp2
  go_ret
  exact ⟨rfl, HE.out⟩
end Go.Proofs.Ytcodgmahegofjaa
