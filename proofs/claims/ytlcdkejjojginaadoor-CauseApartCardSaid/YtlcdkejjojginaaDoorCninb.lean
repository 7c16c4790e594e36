/- Package cause: sorts and names. -/
import Derived.Test.YtlcdkejjojginaaDoorCnine
namespace Go.Proofs.YtlcdkejjojginaaDoor
open Go.ChangeShapes Go.WideShapes Go.ChangeAt Go.RowKit
set_option linter.unusedVariables false
set_option linter.unusedSimpArgs false

theorem pos_test (n : Int) {q : Nat} (hq : q < 9) {c : Int} (hc : cauI q = c) : (c == n) = decide (posN n = q) := by
  rw [← pos_beq n hq, hc, Bool.eq_iff_iff, beq_iff_eq, beq_iff_eq]; exact eq_comm
theorem two_ret {a b c d : Int} (h : a = c) (k : b = d) : Ending.returned (.tuple #[.int .i64 a, .int .i64 b]) = .returned (.tuple #[.int .i64 c, .int .i64 d]) := by rw [h, k]
set_option maxHeartbeats 1000000 in
theorem sort9_c (n : Int) (w : World) (hT : Tabs w) :
    Calls Tryd.prog 12 #[.int .i64 n] w fun e w' => e = .returned (.tuple #[.int .i64 (srtI (posN n)), .int .i64 (kndI (posN n))]) ∧ Ext w w' := by
  obtain ⟨v0, v1, v2, v3, v4, v5, v6, v7, v8⟩ := cau_val
  have p0 := pos_test n (q := 0) (by decide) v0
  have p1 := pos_test n (q := 1) (by decide) v1
  have p2 := pos_test n (q := 2) (by decide) v2
  have p3 := pos_test n (q := 3) (by decide) v3
  have p4 := pos_test n (q := 4) (by decide) v4
  have p5 := pos_test n (q := 5) (by decide) v5
  have p6 := pos_test n (q := 6) (by decide) v6
  have p7 := pos_test n (q := 7) (by decide) v7
  have p8 := pos_test n (q := 8) (by decide) v8
  have hle := pos_le n
  generalize posN n = m at p0 p1 p2 p3 p4 p5 p6 p7 p8 hle ⊢
  have P := Lib.hid (And.intro p0 (And.intro p1 (And.intro p2 (And.intro p3 (And.intro p4 (And.intro p5 (And.intro p6 (And.intro p7 p8))))))))
  clear p0 p1 p2 p3 p4 p5 p6 p7 p8 v0 v1 v2 v3 v4 v5 v6 v7 v8
  have i0 : ∀ w, (Instr.index 39 (.agg #[.int .i64 0, .int .i64 4, .int .i64 6, .int .i64 1, .int .i64 5, .int .i64 7, .int .i64 12, .int .i64 13, .int .i64 15]) (.int .i64 0)).run Tryd.prog w = .ok (.agg #[.int .i64 0, .int .i64 4, .int .i64 6]) w := fun w => by simp [Instr.index, Tryd.underlying39, go_sem] <;> kernel_rfl
  have i00 : ∀ w, (Instr.index 38 (.agg #[.int .i64 0, .int .i64 4, .int .i64 6]) (.int .i64 0)).run Tryd.prog w = .ok (.int .i64 0) w := fun w => by simp [Instr.index, Tryd.underlying38, go_sem] <;> kernel_rfl
  have i01 : ∀ w, (Instr.index 38 (.agg #[.int .i64 0, .int .i64 4, .int .i64 6]) (.int .i64 1)).run Tryd.prog w = .ok (.int .i64 4) w := fun w => by simp [Instr.index, Tryd.underlying38, go_sem] <;> kernel_rfl
  have i02 : ∀ w, (Instr.index 38 (.agg #[.int .i64 0, .int .i64 4, .int .i64 6]) (.int .i64 2)).run Tryd.prog w = .ok (.int .i64 6) w := fun w => by simp [Instr.index, Tryd.underlying38, go_sem] <;> kernel_rfl
  have i1 : ∀ w, (Instr.index 39 (.agg #[.int .i64 0, .int .i64 4, .int .i64 6, .int .i64 1, .int .i64 5, .int .i64 7, .int .i64 12, .int .i64 13, .int .i64 15]) (.int .i64 1)).run Tryd.prog w = .ok (.agg #[.int .i64 1, .int .i64 5, .int .i64 7]) w := fun w => by simp [Instr.index, Tryd.underlying39, go_sem] <;> kernel_rfl
  have i10 : ∀ w, (Instr.index 38 (.agg #[.int .i64 1, .int .i64 5, .int .i64 7]) (.int .i64 0)).run Tryd.prog w = .ok (.int .i64 1) w := fun w => by simp [Instr.index, Tryd.underlying38, go_sem] <;> kernel_rfl
  have i11 : ∀ w, (Instr.index 38 (.agg #[.int .i64 1, .int .i64 5, .int .i64 7]) (.int .i64 1)).run Tryd.prog w = .ok (.int .i64 5) w := fun w => by simp [Instr.index, Tryd.underlying38, go_sem] <;> kernel_rfl
  have i12 : ∀ w, (Instr.index 38 (.agg #[.int .i64 1, .int .i64 5, .int .i64 7]) (.int .i64 2)).run Tryd.prog w = .ok (.int .i64 7) w := fun w => by simp [Instr.index, Tryd.underlying38, go_sem] <;> kernel_rfl
  have i2 : ∀ w, (Instr.index 39 (.agg #[.int .i64 0, .int .i64 4, .int .i64 6, .int .i64 1, .int .i64 5, .int .i64 7, .int .i64 12, .int .i64 13, .int .i64 15]) (.int .i64 2)).run Tryd.prog w = .ok (.agg #[.int .i64 12, .int .i64 13, .int .i64 15]) w := fun w => by simp [Instr.index, Tryd.underlying39, go_sem] <;> kernel_rfl
  have i20 : ∀ w, (Instr.index 38 (.agg #[.int .i64 12, .int .i64 13, .int .i64 15]) (.int .i64 0)).run Tryd.prog w = .ok (.int .i64 12) w := fun w => by simp [Instr.index, Tryd.underlying38, go_sem] <;> kernel_rfl
  have i21 : ∀ w, (Instr.index 38 (.agg #[.int .i64 12, .int .i64 13, .int .i64 15]) (.int .i64 1)).run Tryd.prog w = .ok (.int .i64 13) w := fun w => by simp [Instr.index, Tryd.underlying38, go_sem] <;> kernel_rfl
  have i22 : ∀ w, (Instr.index 38 (.agg #[.int .i64 12, .int .i64 13, .int .i64 15]) (.int .i64 2)).run Tryd.prog w = .ok (.int .i64 15) w := fun w => by simp [Instr.index, Tryd.underlying38, go_sem] <;> kernel_rfl
  obtain ⟨t, hb⟩ := hT.1
  unfold cauC at hb
  clear hT
  go_enter Tryd.func12, Tryd.ntmps12
  go_wp2_with (refine wpList_load_blk (by rfl) 39 _ rfl rfl (by assumption) Tryd.underlying39 rfl (by kernel_rfl) ?_)
  go_loopw [9] (fun i wr => ∃ k : Nat, k ≤ 3 ∧ i = .int .i64 k ∧ 3 * k ≤ m ∧ Ext w wr) (fun i _ => 3 - (intOf i).toNat)
  case atStart => exact ⟨0, by omega, rfl, by omega, Ext.refl _⟩
  case round =>
    obtain ⟨k, hk, rfl, hkm, HE⟩ := hrel
    by_cases hlt : k < 3
    · rcases (by omega : k = 0 ∨ k = 1 ∨ k = 2) with rfl | rfl | rfl
      · go_wp2
        go_loop [14] (fun j => ∃ q : Nat, q ≤ 3 ∧ j = .int .i64 q ∧ 0 + q ≤ m) (fun j => 3 - (intOf j).toNat)
        case atStart => exact ⟨0, by omega, rfl, by omega⟩
        case round =>
          obtain ⟨q, hq, rfl, hqm⟩ := hrel
          by_cases hql : q < 3
          · rcases (by omega : q = 0 ∨ q = 1 ∨ q = 2) with rfl | rfl | rfl
            · have ht := P.out.1
              by_cases hm : m = 0
              · subst hm
                rw [decide_eq_true rfl] at ht
                go_wp2
                go_ret2
                exact ⟨two_ret (by simp [srtI]) (by simp [kndI]), HE.alloc _⟩
              · rw [decide_eq_false hm] at ht
                go_wp2
                go_round
                case rel => exact ⟨1, by omega, by go_num, by omega⟩
                case measure => simp [intOf]
            · have ht := P.out.2.1
              by_cases hm : m = 1
              · subst hm
                rw [decide_eq_true rfl] at ht
                go_wp2
                go_ret2
                exact ⟨two_ret (by simp [srtI]) (by simp [kndI]), HE.alloc _⟩
              · rw [decide_eq_false hm] at ht
                go_wp2
                go_round
                case rel => exact ⟨2, by omega, by go_num, by omega⟩
                case measure => simp [intOf]
            · have ht := P.out.2.2.1
              by_cases hm : m = 2
              · subst hm
                rw [decide_eq_true rfl] at ht
                go_wp2
                go_ret2
                exact ⟨two_ret (by simp [srtI]) (by simp [kndI]), HE.alloc _⟩
              · rw [decide_eq_false hm] at ht
                go_wp2
                go_round
                case rel => exact ⟨3, by omega, by go_num, by omega⟩
                case measure => simp [intOf]
          · obtain rfl : q = 3 := by omega
            go_wp2
            go_roundw
            case rel => exact ⟨1, by omega, by go_num, by omega, HE.alloc _⟩
            case measure => simp [intOf]
      · go_wp2
        go_loop [14] (fun j => ∃ q : Nat, q ≤ 3 ∧ j = .int .i64 q ∧ 3 + q ≤ m) (fun j => 3 - (intOf j).toNat)
        case atStart => exact ⟨0, by omega, rfl, by omega⟩
        case round =>
          obtain ⟨q, hq, rfl, hqm⟩ := hrel
          by_cases hql : q < 3
          · rcases (by omega : q = 0 ∨ q = 1 ∨ q = 2) with rfl | rfl | rfl
            · have ht := P.out.2.2.2.1
              by_cases hm : m = 3
              · subst hm
                rw [decide_eq_true rfl] at ht
                go_wp2
                go_ret2
                exact ⟨two_ret (by simp [srtI]) (by simp [kndI]), HE.alloc _⟩
              · rw [decide_eq_false hm] at ht
                go_wp2
                go_round
                case rel => exact ⟨1, by omega, by go_num, by omega⟩
                case measure => simp [intOf]
            · have ht := P.out.2.2.2.2.1
              by_cases hm : m = 4
              · subst hm
                rw [decide_eq_true rfl] at ht
                go_wp2
                go_ret2
                exact ⟨two_ret (by simp [srtI]) (by simp [kndI]), HE.alloc _⟩
              · rw [decide_eq_false hm] at ht
                go_wp2
                go_round
                case rel => exact ⟨2, by omega, by go_num, by omega⟩
                case measure => simp [intOf]
            · have ht := P.out.2.2.2.2.2.1
              by_cases hm : m = 5
              · subst hm
                rw [decide_eq_true rfl] at ht
                go_wp2
                go_ret2
                exact ⟨two_ret (by simp [srtI]) (by simp [kndI]), HE.alloc _⟩
              · rw [decide_eq_false hm] at ht
                go_wp2
                go_round
                case rel => exact ⟨3, by omega, by go_num, by omega⟩
                case measure => simp [intOf]
          · obtain rfl : q = 3 := by omega
            go_wp2
            go_roundw
            case rel => exact ⟨2, by omega, by go_num, by omega, HE.alloc _⟩
            case measure => simp [intOf]
      · go_wp2
        go_loop [14] (fun j => ∃ q : Nat, q ≤ 3 ∧ j = .int .i64 q ∧ 6 + q ≤ m) (fun j => 3 - (intOf j).toNat)
        case atStart => exact ⟨0, by omega, rfl, by omega⟩
        case round =>
          obtain ⟨q, hq, rfl, hqm⟩ := hrel
          by_cases hql : q < 3
          · rcases (by omega : q = 0 ∨ q = 1 ∨ q = 2) with rfl | rfl | rfl
            · have ht := P.out.2.2.2.2.2.2.1
              by_cases hm : m = 6
              · subst hm
                rw [decide_eq_true rfl] at ht
                go_wp2
                go_ret2
                exact ⟨two_ret (by simp [srtI]) (by simp [kndI]), HE.alloc _⟩
              · rw [decide_eq_false hm] at ht
                go_wp2
                go_round
                case rel => exact ⟨1, by omega, by go_num, by omega⟩
                case measure => simp [intOf]
            · have ht := P.out.2.2.2.2.2.2.2.1
              by_cases hm : m = 7
              · subst hm
                rw [decide_eq_true rfl] at ht
                go_wp2
                go_ret2
                exact ⟨two_ret (by simp [srtI]) (by simp [kndI]), HE.alloc _⟩
              · rw [decide_eq_false hm] at ht
                go_wp2
                go_round
                case rel => exact ⟨2, by omega, by go_num, by omega⟩
                case measure => simp [intOf]
            · have ht := P.out.2.2.2.2.2.2.2.2
              by_cases hm : m = 8
              · subst hm
                rw [decide_eq_true rfl] at ht
                go_wp2
                go_ret2
                exact ⟨two_ret (by simp [srtI]) (by simp [kndI]), HE.alloc _⟩
              · rw [decide_eq_false hm] at ht
                go_wp2
                go_round
                case rel => exact ⟨3, by omega, by go_num, by omega⟩
                case measure => simp [intOf]
          · obtain rfl : q = 3 := by omega
            go_wp2
            go_roundw
            case rel => exact ⟨3, by omega, by go_num, by omega, HE.alloc _⟩
            case measure => simp [intOf]
    · obtain rfl : k = 3 := by omega
      obtain rfl : m = 9 := by omega
      go_wp2
      go_ret2
      exact ⟨two_ret (by simp [srtI]) (by simp [kndI]), HE⟩
theorem ten {m : Nat} (h : m ≤ 9) : m = 0 ∨ m = 1 ∨ m = 2 ∨ m = 3 ∨ m = 4 ∨ m = 5 ∨ m = 6 ∨ m = 7 ∨ m = 8 ∨ m = 9 := by omega
theorem str_ret {a b : ByteArray} (h : a = b) : Ending.returned (.string a) = .returned (.string b) := by rw [h]
set_option maxHeartbeats 1000000 in
theorem name9_c (n : Int) (w : World) (hT : Tabs w) :
    Calls Tryd.prog 14 #[.int .i64 n] w fun e w' => e = .returned (.string (namB (posN n))) ∧ Ext w w' := by
  have hs := sort9_c n w hT
  have hle := pos_le n
  generalize posN n = m at hs hle ⊢
  obtain ⟨n0, n1, n2, n3, n4, n5, n6, n7, n8⟩ := nam_val
  have n9 := nam_none
  rcases ten hle with rfl | rfl | rfl | rfl | rfl | rfl | rfl | rfl | rfl | rfl
  all_goals
    simp only [n0, n1, n2, n3, n4, n5, n6, n7, n8, n9]
    simp only [srtI, kndI, Nat.reduceLT, if_true, if_false, Nat.reduceDiv, Nat.reduceMod, Nat.reduceAdd] at hs
    clear n0 n1 n2 n3 n4 n5 n6 n7 n8 n9
    go_enter Tryd.func14, Tryd.ntmps14
    go_wp2_with fail
    refine hs.mono ?_
    rintro e w1 ⟨rfl, hE⟩
    replace hT := hT.ext hE
    have c0 := hT.2.1.cell 0
    have c1 := hT.2.1.cell 1
    have c2 := hT.2.1.cell 2
    have d0 := hT.2.2.cell 0
    have d1 := hT.2.2.cell 1
    have d2 := hT.2.2.cell 2
    simp only [sorC, kinC, List.getElem?_toArray, List.getElem?_cons_succ, List.getElem?_cons_zero] at c0 c1 c2 d0 d1 d2
    have HE := Lib.hid hE
    clear hE hs hT
    go_wp2
    first
      | (go_ret; exact ⟨rfl, HE.out⟩)
      | (go_quiet (fail)
         go_wp2
         go_ret
         exact ⟨str_ret (by decide), HE.out.drewN _⟩)
end Go.Proofs.YtlcdkejjojginaaDoor
