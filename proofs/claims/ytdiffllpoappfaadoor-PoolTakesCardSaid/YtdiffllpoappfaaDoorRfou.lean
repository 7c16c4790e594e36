/- The document's answers for layer 4 (package atlasref04). -/
import Derived.Test.YtdiffllpoappfaaDoorCpoo
import Derived.Test.YtdiffllpoappfaaDoorRone
namespace Go.Proofs.YtdiffllpoappfaaDoor
open Go.ChangeShapes Go.WideShapes Go.ChangeAt Go.RowKit
set_option linter.unusedVariables false
set_option linter.unusedSimpArgs false

theorem bitB_nat {F i : Nat} (hi : i ≤ 63) : bitB (F : Int) (i : Int) = F.testBit i := by
  rw [bitB_in (by omega) (by omega), Int.toNat_natCast, Int.toNat_natCast]
theorem rset_1 (F i : Nat) (b : Bool) (hF : F < 18446744073709551616) (hi : i ≤ 63) (w : World) :
    Calls Tryd.prog 25 #[.int .u64 (F : Int), .int .i64 (i : Int), .int .i64 1, .int .u64 (if b then 1 else 0)] w fun e w' => e = .returned (.int .u64 ((bitN F i b : Nat) : Int)) ∧ Ext w w' := by
  have h := rset_c (F : Int) (i : Int) 1 (if b then 1 else 0) (by omega) (by omega) (by cases b <;> decide) (by cases b <;> decide) (by omega) (by omega) (by omega) (by omega) w
  rwa [rset_eq (by omega) (by omega) (by cases b <;> decide) (by omega) (by omega), setI_bit] at h

theorem rright_bits {B F : Nat} {M : Nat} (hB : B ≤ 268435456) (hM : M ≤ 64) : rightB B M F = decide (F < 2 ^ M) := by
  unfold rightB; rw [Int.toNat_natCast]; simp [hB]; omega
theorem rr_no {B F M i : Nat} (hB : B ≤ 268435456) (hM : M ≤ 64) (hi : M ≤ i) (h : F.testBit i = true) : rightB B M F = false := by
  rw [rright_bits hB hM]; simp only [decide_eq_false_iff_not]; intro hl
  rw [tb_top hl hi] at h; cases h
theorem rr_yes {B F M : Nat} (hB : B ≤ 268435456) (hM : M ≤ 64) (hF : F < 18446744073709551616) (h : ∀ i, M ≤ i → i < 64 → F.testBit i = false) : rightB B M F = true := by
  rw [rright_bits hB hM]; simp only [decide_eq_true_eq]
  refine lt_of_tb fun i hi => ?_
  by_cases h2 : i < 64
  · exact h i hi h2
  · exact tb_big (by omega) (by omega)

set_option maxRecDepth 100000 in
set_option maxHeartbeats 1000000 in
theorem rright_c (B F : Nat) (M : Int) (hB : B < 18446744073709551616) (hF : F < 18446744073709551616) (hm0 : -9223372036854775808 ≤ M) (hm1 : M ≤ 9223372036854775807) (w : World) :
    Calls Tryd.prog 10 #[(.agg #[.int .u64 (B : Int), .int .i64 (M : Int), .int .u64 (F : Int)])] w fun e w' => e = .returned (.bool (rightB B M F)) ∧ Ext w w' := by
  have HE := Lib.hid ((Ext.refl w).alloc (.cells #[.int .u64 (B : Int), .int .i64 M, .int .u64 (F : Int)] 24))
  by_cases h1 : M < 0
  · have H := Lib.hid (right_no1 (B := B) (F := F) (.inl h1))
    go_enter Tryd.func10, Tryd.ntmps10
    go_wp2
    go_ret
    exact ⟨by rw [H.out]; rfl, HE.out⟩
  by_cases h2 : 64 < M
  · have H := Lib.hid (right_no1 (B := B) (F := F) (.inr (.inl h2)))
    go_enter Tryd.func10, Tryd.ntmps10
    go_wp2
    go_ret
    exact ⟨by rw [H.out]; rfl, HE.out⟩
  by_cases h3 : 268435456 < B
  · have H := Lib.hid (right_no1 (F := F) (M := M) (.inr (.inr h3)))
    have hd : decide ((268435456 : Int) < (B : Int)) = true := by simp; omega
    go_enter Tryd.func10, Tryd.ntmps10
    go_wp2
    go_ret
    exact ⟨by rw [H.out]; rfl, HE.out⟩
  have hd : decide ((268435456 : Int) < (B : Int)) = false := by simp; omega
  obtain ⟨m, rfl⟩ := Int.eq_ofNat_of_zero_le (show 0 ≤ M by omega)
  obtain ⟨b0, b1, b2⟩ := (Blk.new w 24 #[.int .u64 (B : Int), .int .i64 (m : Int), .int .u64 (F : Int)]).c3
  go_enter Tryd.func10, Tryd.ntmps10
  go_wp2
  go_loop [3] (fun i => ∃ k : Nat, m ≤ k ∧ k ≤ 64 ∧ i = .int .i64 k ∧ Hid (∀ j, m ≤ j → j < k → F.testBit j = false)) (fun i => (64 - intOf i).toNat)
  case atStart => exact ⟨m, Nat.le_refl _, by omega, rfl, Lib.hid fun j h1 h2 => by omega⟩
  case round =>
    obtain ⟨k, hk, hk2, rfl, hq⟩ := hrel
    by_cases hlt : k < 64
    · have hbit := bitB_nat (F := F) (i := k) (by omega)
      cases hb : F.testBit k
      · have hq1 : Hid (∀ j, m ≤ j → j < k + 1 → F.testBit j = false) := Lib.hid fun j h1 h2 => by
          by_cases e : j = k
          · subst e; exact hb
          · exact hq.out j h1 (by omega)
        rw [hb] at hbit
        have hbc : ∀ w, Calls Tryd.prog 22 #[.int .u64 (F : Int), .int .i64 (k : Int)] w fun e w' => e = .returned (.bool false) ∧ w = w' := fun w => by
          have := bit_c (F : Int) (k : Int) (by omega) (by omega) w
          rwa [hbit] at this
        clear hb hbit
        go_wp2_with (go_at_call 22; refine (hbc _).mono ?_; rintro e w' ⟨rfl, rfl⟩)
        go_round
        case rel => exact ⟨k + 1, by omega, by omega, by go_num, hq1⟩
        case measure => simp [intOf]; omega
      · have H := Lib.hid (rr_no (B := B) (M := m) (F := F) (i := k) (by omega) (by omega) hk hb)
        rw [hb] at hbit
        have hbc : ∀ w, Calls Tryd.prog 22 #[.int .u64 (F : Int), .int .i64 (k : Int)] w fun e w' => e = .returned (.bool true) ∧ w = w' := fun w => by
          have := bit_c (F : Int) (k : Int) (by omega) (by omega) w
          rwa [hbit] at this
        clear hb hbit
        go_wp2_with (go_at_call 22; refine (hbc _).mono ?_; rintro e w' ⟨rfl, rfl⟩)
        go_ret
        exact ⟨by rw [H.out]; rfl, HE.out⟩
    · have hk' : k = 64 := by omega
      have H := Lib.hid (rr_yes (B := B) (M := m) (F := F) (by omega) (by omega) hF (fun i h1 h2 => hq.out i h1 (by omega)))
      subst hk'
      go_wp2
      go_ret
      exact ⟨by rw [H.out]; rfl, HE.out⟩

set_option maxRecDepth 100000 in
set_option maxHeartbeats 1000000 in
theorem rfree_c (B F : Nat) (M : Int) (hF : F < 18446744073709551616) (w : World) :
    Calls Tryd.prog 16 #[(.agg #[.int .u64 (B : Int), .int .i64 (M : Int), .int .u64 (F : Int)])] w fun e w' => e = .returned (.int .i64 ((popN F 64 : Nat) : Int)) ∧ Ext w w' := by
  have HE := Lib.hid ((Ext.refl w).alloc (.cells #[.int .u64 (B : Int), .int .i64 M, .int .u64 (F : Int)] 24))
  obtain ⟨b0, b1, b2⟩ := (Blk.new w 24 #[.int .u64 (B : Int), .int .i64 M, .int .u64 (F : Int)]).c3
  go_enter Tryd.func16, Tryd.ntmps16
  go_wp2
  go_loop [3, 4] (fun n i => ∃ k : Nat, k ≤ 64 ∧ i = .int .i64 k ∧ n = .int .i64 ((popN F k : Nat) : Int)) (fun _ i => (64 - intOf i).toNat)
  case atStart => exact ⟨0, by omega, rfl, by rw [pop_nil]; rfl⟩
  case round =>
    obtain ⟨k, hk2, rfl, rfl⟩ := hrel
    have hpl := popN_le F k
    by_cases hlt : k < 64
    · have hbit := bitB_nat (F := F) (i := k) (by omega)
      have hs := pop_succ F k
      cases hb : F.testBit k
      all_goals
        rw [hb] at hbit hs
        have Hs := Lib.hid hs
        have hbc := bit_c (F : Int) (k : Int) (by omega) (by omega)
        rw [hbit] at hbc
        clear hb hbit hs
        go_wp2_with (go_at_call 22; refine (hbc _).mono ?_; rintro e w' ⟨rfl, rfl⟩)
        go_round
        case rel => exact ⟨k + 1, by omega, by go_num, by rw [Hs.out]; go_num⟩
        case measure => simp [intOf]; omega
    · have hk' : k = 64 := by omega
      subst hk'
      go_wp2
      go_ret
      exact ⟨rfl, HE.out⟩
end Go.Proofs.YtdiffllpoappfaaDoor
