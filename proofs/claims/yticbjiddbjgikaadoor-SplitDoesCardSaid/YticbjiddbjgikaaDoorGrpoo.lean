/- The document's answers for layer 4 (package atlasref04). -/
import Derived.Test.YticbjiddbjgikaaDoorGpoo
import Derived.Test.YticbjiddbjgikaaDoorRone
namespace Go.Proofs.YticbjiddbjgikaaDoor
open Go.ChangeShapes Go.WideShapes Go.ChangeAt Go.RowKit
set_option linter.unusedVariables false
set_option linter.unusedSimpArgs false

theorem bitB_nat {F i : Nat} (hi : i ≤ 63) : bitB (F : Int) (i : Int) = F.testBit i := by
  rw [bitB_in (by omega) (by omega), Int.toNat_natCast, Int.toNat_natCast]
theorem rset_1 (F i : Nat) (b : Bool) (hF : F < 18446744073709551616) (hi : i ≤ 63) (w : World) :
    Calls Tryd.prog 81 #[.int .u64 (F : Int), .int .i64 (i : Int), .int .i64 1, .int .u64 (if b then 1 else 0)] w fun e w' => e = .returned (.int .u64 ((bitN F i b : Nat) : Int)) ∧ Ext w w' := by
  have h := rset1_c (F : Int) (i : Int) 1 (if b then 1 else 0) (by omega) (by omega) (by cases b <;> decide) (by cases b <;> decide) (by omega) (by omega) (by omega) (by omega) w
  rwa [rset_eq (by omega) (by omega) (by cases b <;> decide) (by omega) (by omega), setI_bit] at h

theorem rright_bits {B F : Nat} {M : Nat} (hB : B ≤ 268435456) (hM : M ≤ 64) : rightB B M F = decide (F < 2 ^ M) := by
  unfold rightB; rw [Int.toNat_natCast]; simp [hB]; omega
theorem rr_no {B F M i : Nat} (hB : B ≤ 268435456) (hM : M ≤ 64) (hi : M ≤ i) (h : F.testBit i = true) : rightB B M F = false := by
  rw [rright_bits hB hM]; simp only [decide_eq_false_iff_not]; intro hl
  rw [tb_top hl hi] at h; cases h
theorem rr_yes {B F M : Nat} (hB : B ≤ 268435456) (hM : M ≤ 64) (hF : F < 18446744073709551616) (h : ∀ i, M ≤ i → i < 64 → F.testBit i = false) : rightB B M F = true := by
  rw [rright_bits hB hM]; simp only [decide_eq_true_eq]
  refine lt_of_tb fun i hi => ?_
  by_cases h2 : i < 64
  · exact h i hi h2
  · exact tb_big (by omega) (by omega)

set_option maxRecDepth 100000 in
set_option maxHeartbeats 1000000 in
theorem prright_c (B F : Nat) (M : Int) (hB : B < 18446744073709551616) (hF : F < 18446744073709551616) (hm0 : -9223372036854775808 ≤ M) (hm1 : M ≤ 9223372036854775807) (w : World) :
    Calls Tryd.prog 51 #[(.agg #[.int .u64 (B : Int), .int .i64 (M : Int), .int .u64 (F : Int)])] w fun e w' => e = .returned (.bool (rightB B M F)) ∧ Ext w w' := by
  have HE := Lib.hid ((Ext.refl w).alloc (.cells #[.int .u64 (B : Int), .int .i64 M, .int .u64 (F : Int)] 27))
  by_cases h1 : M < 0
  · have H := Lib.hid (right_no1 (B := B) (F := F) (.inl h1))
    go_enter Tryd.func51, Tryd.ntmps51
    go_wp2
    go_ret
    exact ⟨by rw [H.out]; rfl, HE.out⟩
  by_cases h2 : 64 < M
  · have H := Lib.hid (right_no1 (B := B) (F := F) (.inr (.inl h2)))
    go_enter Tryd.func51, Tryd.ntmps51
    go_wp2
    go_ret
    exact ⟨by rw [H.out]; rfl, HE.out⟩
  by_cases h3 : 268435456 < B
  · have H := Lib.hid (right_no1 (F := F) (M := M) (.inr (.inr h3)))
    have hd : decide ((268435456 : Int) < (B : Int)) = true := by simp; omega
    go_enter Tryd.func51, Tryd.ntmps51
    go_wp2
    go_ret
    exact ⟨by rw [H.out]; rfl, HE.out⟩
  have hd : decide ((268435456 : Int) < (B : Int)) = false := by simp; omega
  obtain ⟨m, rfl⟩ := Int.eq_ofNat_of_zero_le (show 0 ≤ M by omega)
  obtain ⟨b0, b1, b2⟩ := (Blk.new w 27 #[.int .u64 (B : Int), .int .i64 (m : Int), .int .u64 (F : Int)]).c3
  go_enter Tryd.func51, Tryd.ntmps51
  go_wp2
  go_loop [3] (fun i => ∃ k : Nat, m ≤ k ∧ k ≤ 64 ∧ i = .int .i64 k ∧ Hid (∀ j, m ≤ j → j < k → F.testBit j = false)) (fun i => (64 - intOf i).toNat)
  case atStart => exact ⟨m, Nat.le_refl _, by omega, rfl, Lib.hid fun j h1 h2 => by omega⟩
  case round =>
    obtain ⟨k, hk, hk2, rfl, hq⟩ := hrel
    by_cases hlt : k < 64
    · have hbit := bitB_nat (F := F) (i := k) (by omega)
      cases hb : F.testBit k
      · have hq1 : Hid (∀ j, m ≤ j → j < k + 1 → F.testBit j = false) := Lib.hid fun j h1 h2 => by
          by_cases e : j = k
          · subst e; exact hb
          · exact hq.out j h1 (by omega)
        rw [hb] at hbit
        have hbc : ∀ w, Calls Tryd.prog 73 #[.int .u64 (F : Int), .int .i64 (k : Int)] w fun e w' => e = .returned (.bool false) ∧ w = w' := fun w => by
          have := bit_c (F : Int) (k : Int) (by omega) (by omega) w
          rwa [hbit] at this
        clear hb hbit
        go_wp2_with (go_at_call 73; refine (hbc _).mono ?_; rintro e w' ⟨rfl, rfl⟩)
        go_round
        case rel => exact ⟨k + 1, by omega, by omega, by go_num, hq1⟩
        case measure => simp [intOf]; omega
      · have H := Lib.hid (rr_no (B := B) (M := m) (F := F) (i := k) (by omega) (by omega) hk hb)
        rw [hb] at hbit
        have hbc : ∀ w, Calls Tryd.prog 73 #[.int .u64 (F : Int), .int .i64 (k : Int)] w fun e w' => e = .returned (.bool true) ∧ w = w' := fun w => by
          have := bit_c (F : Int) (k : Int) (by omega) (by omega) w
          rwa [hbit] at this
        clear hb hbit
        go_wp2_with (go_at_call 73; refine (hbc _).mono ?_; rintro e w' ⟨rfl, rfl⟩)
        go_ret
        exact ⟨by rw [H.out]; rfl, HE.out⟩
    · have hk' : k = 64 := by omega
      have H := Lib.hid (rr_yes (B := B) (M := m) (F := F) (by omega) (by omega) hF (fun i h1 h2 => hq.out i h1 (by omega)))
      subst hk'
      go_wp2
      go_ret
      exact ⟨by rw [H.out]; rfl, HE.out⟩

end Go.Proofs.YticbjiddbjgikaaDoor
/- The document's answers for layer 4 (package atlasref04): Is, Take, Give, New. -/
namespace Go.Proofs.YticbjiddbjgikaaDoor
open Go.ChangeShapes Go.WideShapes Go.ChangeAt Go.RowKit
set_option linter.unusedVariables false
set_option linter.unusedSimpArgs false

theorem isB_at {B M F f k : Nat} (hk : k < M) (h : B + k = f) : isB B M F f = !F.testBit k := by
  unfold isB; subst h; simp [hk]
theorem isB_no {B M F f : Nat} (h : ∀ j, j < M → B + j ≠ f) : isB B M F f = false := by
  unfold isB
  by_cases h1 : B ≤ f ∧ f < B + M
  · exact absurd (show B + (f - B) = f by omega) (h (f - B) (by omega))
  · simp; omega
theorem rbit_c (F k : Nat) (b : Bool) (hF : F < 18446744073709551616) (hk : k < 64) (hb : F.testBit k = b) (w : World) : Calls Tryd.prog 73 #[.int .u64 (F : Int), .int .i64 (k : Int)] w fun e w' => e = .returned (.bool b) ∧ w = w' := by
  have := bit_c (F : Int) (k : Int) (by omega) (by omega) w
  rwa [bitB_nat (by omega), hb] at this

set_option maxRecDepth 100000 in
set_option maxHeartbeats 1000000 in
theorem ris_c (B M F f : Nat) (hB : B ≤ 268435456) (hM : M ≤ 64) (hF : F < 18446744073709551616) (hf : f < 18446744073709551616) (w : World) :
    Calls Tryd.prog 53 #[(.agg #[.int .u64 (B : Int), .int .i64 (M : Int), .int .u64 (F : Int)]), .int .u64 (f : Int)] w fun e w' => e = .returned (.bool (isB B M F f)) ∧ Ext w w' := by
  have HE := Lib.hid ((Ext.refl w).alloc (.cells #[.int .u64 (B : Int), .int .i64 (M : Int), .int .u64 (F : Int)] 27))
  obtain ⟨b0, b1, b2⟩ := (Blk.new w 27 #[.int .u64 (B : Int), .int .i64 (M : Int), .int .u64 (F : Int)]).c3
  go_enter Tryd.func53, Tryd.ntmps53
  go_wp2
  go_loop [5] (fun i => ∃ k : Nat, k ≤ M ∧ i = .int .i64 k ∧ Hid (∀ j, j < k → B + j ≠ f)) (fun i => (M - intOf i).toNat)
  case atStart => exact ⟨0, by omega, rfl, Lib.hid fun j h => by omega⟩
  case round =>
    obtain ⟨k, hk, rfl, hq⟩ := hrel
    by_cases hlt : k < M
    · by_cases he : B + k = f
      · have H := Lib.hid (isB_at (F := F) hlt he)
        have hd : ((B : Int) + (k : Int) == (f : Int)) = true := by rw [beq_iff_eq]; omega
        have hbc := rbit_c F k _ hF (by omega) rfl
        clear he
        go_wp2_with (go_at_call 73; refine (hbc _).mono ?_; rintro e w' ⟨rfl, rfl⟩)
        go_ret
        exact ⟨by rw [H.out]; rfl, HE.out⟩
      · have hd : ((B : Int) + (k : Int) == (f : Int)) = false := by rw [beq_eq_false_iff_ne]; omega
        have hq1 : Hid (∀ j, j < k + 1 → B + j ≠ f) := Lib.hid fun j h => by
          by_cases e : j = k
          · subst e; exact he
          · exact hq.out j (by omega)
        clear he
        go_wp2
        go_round
        case rel => exact ⟨k + 1, by omega, by go_num, hq1⟩
        case measure => simp [intOf]; omega
    · have hk' : k = M := by omega
      have H := Lib.hid (isB_no (B := B) (M := M) (F := F) (f := f) (fun j h => hq.out j (by omega)))
      subst hk'
      go_wp2
      go_ret
      exact ⟨by rw [H.out]; rfl, HE.out⟩

set_option maxRecDepth 100000 in
set_option maxHeartbeats 1000000 in
theorem rgive_c (B M F f : Nat) (hB : B ≤ 268435456) (hM : M ≤ 64) (hF : F < 18446744073709551616) (hf : f < 18446744073709551616) (w : World) :
    Calls Tryd.prog 71 #[(.agg #[.int .u64 (B : Int), .int .i64 (M : Int), .int .u64 (F : Int)]), .int .u64 (f : Int)] w fun e w' => e = .returned (.tuple #[(.agg #[.int .u64 (B : Int), .int .i64 (M : Int), .int .u64 (freedN B M F f : Int)]), .int .i64 (if isB B M F f then 0 else 1)]) ∧ Ext w w' := by
  have hne := isB_ne (B := B) (f := f) hM hF
  cases hb : isB B M F f
  · have H : Hid (freedN B M F f = F) := Lib.hid (by rw [hb] at hne; simpa using hne)
    clear hne
    go_enter Tryd.func71, Tryd.ntmps71
    go_wp2_with fail
    refine (ris_c B M F f hB hM hF hf _).mono ?_
    rintro e w1 ⟨rfl, hE⟩
    rw [hb]
    obtain ⟨k, hr⟩ := blk_two hE
    obtain ⟨b0, b1, b2⟩ := k.c3
    obtain ⟨r0, r1, r2⟩ := hr.c3
    obtain ⟨g0, g1, g2⟩ := hr.f3
    have Hr := Lib.hid hr
    have HE := Lib.hid hE
    clear k hr hE
    go_wp2
    (try simp only [Exit.inBlock, Exit.then]); refine bodyPost_ret (results_c2 rfl _ _ _ _ _ _ rfl (Hr.out.set3 _ _ _) rfl Tryd.underlying27 (by kernel_rfl)) rfl ?_
    exact ⟨by rw [H.out]; rfl, (ext_two HE.out).set3 (by omega) _ _ _⟩
  · have hin : B ≤ f ∧ f < B + M := by
      unfold isB at hb
      simp only [Bool.and_eq_true, decide_eq_true_eq] at hb
      exact hb.1
    have H := Lib.hid (freed_in (F := F) hin.1 hin.2)
    have hs := sub_in hin.1 hf
    have hi : f - B ≤ 63 := by omega
    obtain ⟨i, hi'⟩ : ∃ i, i = f - B := ⟨_, rfl⟩
    rw [← hi'] at hs hi H
    clear hi' hin hne
    go_enter Tryd.func71, Tryd.ntmps71
    go_wp2_with fail
    refine (ris_c B M F f hB hM hF hf _).mono ?_
    rintro e w1 ⟨rfl, hE⟩
    rw [hb]
    obtain ⟨k, hr⟩ := blk_two hE
    obtain ⟨b0, b1, b2⟩ := k.c3
    have HE := Lib.hid (ext_two hE)
    clear hE
    go_wp2_with fail
    refine (rset_1 F i true hF hi _).mono ?_
    rintro e w2 ⟨rfl, hE2⟩
    replace k := k.ext hE2
    replace hr := hr.ext hE2
    obtain ⟨b0, b1, b2⟩ := k.c3
    obtain ⟨f0, f1, f2⟩ := k.f3
    obtain ⟨r0, r1, r2⟩ := hr.c3
    obtain ⟨g0, g1, g2⟩ := hr.f3
    have Hr := Lib.hid hr
    replace HE := Lib.hid (HE.out.trans hE2)
    clear k hr hE2 hs
    go_wp2
    (try simp only [Exit.inBlock, Exit.then]); refine bodyPost_ret (results_c2 rfl _ _ _ _ _ _ rfl ((Hr.out.other (a := ⟨w.heap.size, 2, none⟩) (by simp) _).set3 _ _ _) rfl Tryd.underlying27 (by kernel_rfl)) rfl ?_
    exact ⟨by rw [H.out]; rfl, (HE.out.set1 (Nat.le_refl _) _ _).set3 (by omega) _ _ _⟩

set_option maxRecDepth 100000 in
set_option maxHeartbeats 1000000 in
theorem rtake_no (B M : Nat) (hM : M ≤ 64) (w : World) :
    Calls Tryd.prog 65 #[.agg #[.int .u64 (B : Int), .int .i64 (M : Int), .int .u64 0]] w fun e w' => e = .returned (.tuple #[.agg #[.int .u64 (B : Int), .int .i64 (M : Int), .int .u64 0], .int .u64 0, .int .i64 8]) ∧ Ext w w' := by
  obtain ⟨hb, hr⟩ := blk_two (Ext.refl ((w.alloc (.cells #[.int .u64 (B : Int), .int .i64 (M : Int), .int .u64 0] 27)).alloc (.cells #[.int .u64 0, .int .i64 0, .int .u64 0] 27)))
  have hE := ext_two (Ext.refl ((w.alloc (.cells #[.int .u64 (B : Int), .int .i64 (M : Int), .int .u64 0] 27)).alloc (.cells #[.int .u64 0, .int .i64 0, .int .u64 0] 27)))
  go_enter Tryd.func65, Tryd.ntmps65
  go_wp2
  generalize ((w.alloc (.cells #[.int .u64 (B : Int), .int .i64 (M : Int), .int .u64 0] 27)).alloc (.cells #[.int .u64 0, .int .i64 0, .int .u64 0] 27)) = w1 at *
  obtain ⟨b0, b1, b2⟩ := hb.c3
  obtain ⟨r0, r1, r2⟩ := hr.c3
  obtain ⟨g0, g1, g2⟩ := hr.f3
  have Hr := Lib.hid hr
  have HE := Lib.hid hE
  clear hr hb hE
  go_loop [5] (fun i => ∃ k : Nat, k ≤ M ∧ i = .int .i64 k) (fun i => (M - intOf i).toNat)
  case atStart => exact ⟨0, by omega, rfl⟩
  case round =>
    obtain ⟨k, hk, rfl⟩ := hrel
    by_cases hlt : k < M
    · have hbc := rbit_c 0 k false (by decide) (by omega) (Nat.zero_testBit _)
      go_wp2_with (go_at_call 73; refine (hbc _).mono ?_; rintro e w' ⟨rfl, rfl⟩)
      go_round
      case rel => exact ⟨k + 1, by omega, by go_num⟩
      case measure => simp [intOf]; omega
    · have hk' : k = M := by omega
      subst hk'
      go_wp2
      (try simp only [Exit.inBlock, Exit.then]); refine bodyPost_ret (results_c3 rfl _ _ _ _ _ _ rfl (Hr.out.set3 _ _ _) rfl Tryd.underlying27 (by kernel_rfl)) rfl ?_
      exact ⟨rfl, HE.out.set3 (by omega) _ _ _⟩

set_option maxRecDepth 100000 in
set_option maxHeartbeats 1000000 in
theorem rtake_yes (B M F : Nat) (hB : B ≤ 268435456) (hM : M ≤ 64) (hF : F < 2 ^ M) (h0 : F ≠ 0) (w : World) :
    Calls Tryd.prog 65 #[(.agg #[.int .u64 (B : Int), .int .i64 (M : Int), .int .u64 (F : Int)])] w fun e w' => e = .returned (.tuple #[(.agg #[.int .u64 (B : Int), .int .i64 (M : Int), .int .u64 (takeF F : Int)]), .int .u64 ((B + lowN' F : Nat) : Int), .int .i64 0]) ∧ Ext w w' := by
  have hF64 : F < 18446744073709551616 := pow_le64 hM hF
  have hkM := low_top h0 hM hF
  obtain ⟨_, hbit, hlow⟩ := low_spec h0 hF64
  have hst : ∀ w, Calls Tryd.prog 81 #[.int .u64 (F : Int), .int .i64 ((lowN' F : Nat) : Int), .int .i64 1, .int .u64 0] w fun e w' => e = .returned (.int .u64 ((takeF F : Nat) : Int)) ∧ Ext w w' := fun w => by
    have := rset_1 F (lowN' F) false hF64 (by omega) w
    rwa [← take_def] at this
  have Hlow := Lib.hid hlow
  have Hbit := Lib.hid hbit
  have HF := Lib.hid hF
  generalize lowN' F = m at *
  generalize takeF F = G at *
  clear hlow hbit h0 hF
  obtain ⟨hb, hr⟩ := blk_two (Ext.refl ((w.alloc (.cells #[.int .u64 (B : Int), .int .i64 (M : Int), .int .u64 (F : Int)] 27)).alloc (.cells #[.int .u64 0, .int .i64 0, .int .u64 0] 27)))
  have hE := ext_two (Ext.refl ((w.alloc (.cells #[.int .u64 (B : Int), .int .i64 (M : Int), .int .u64 (F : Int)] 27)).alloc (.cells #[.int .u64 0, .int .i64 0, .int .u64 0] 27)))
  go_enter Tryd.func65, Tryd.ntmps65
  go_wp2
  generalize ((w.alloc (.cells #[.int .u64 (B : Int), .int .i64 (M : Int), .int .u64 (F : Int)] 27)).alloc (.cells #[.int .u64 0, .int .i64 0, .int .u64 0] 27)) = w1 at *
  obtain ⟨b0, b1, b2⟩ := hb.c3
  obtain ⟨f0, f1, f2⟩ := hb.f3
  obtain ⟨r0, r1, r2⟩ := hr.c3
  obtain ⟨g0, g1, g2⟩ := hr.f3
  have Hr := Lib.hid hr
  have Hb := Lib.hid hb
  have HE := Lib.hid hE
  clear hr hb hE
  go_loop [5] (fun i => ∃ k : Nat, k ≤ m ∧ i = .int .i64 k) (fun i => (M - intOf i).toNat)
  case atStart => exact ⟨0, by omega, rfl⟩
  case round =>
    obtain ⟨k, hk, rfl⟩ := hrel
    have hkM2 : k < M := by omega
    by_cases hlt : k < m
    · have hbc := rbit_c F k false hF64 (by omega) (Hlow.out k hlt)
      go_wp2_with (go_at_call 73; refine (hbc _).mono ?_; rintro e w' ⟨rfl, rfl⟩)
      go_round
      case rel => exact ⟨k + 1, by omega, by go_num⟩
      case measure => simp [intOf]; omega
    · obtain rfl : k = m := by omega
      have hbc := rbit_c F k true hF64 (by omega) Hbit.out
      have hs : IntKind.u64.wrap ((B : Int) + (k : Int)) = (B : Int) + (k : Int) := by rw [IntKind.wrap_u64]; omega
      go_wp2_with (go_at_call 73; refine (hbc _).mono ?_; rintro e w' ⟨rfl, rfl⟩)
      refine (hst _).mono ?_
      rintro e w2 ⟨rfl, hE2⟩
      have hb := (Hb.out.ext hE2).set_ 2 (.int .u64 (G : Int))
      have hr := (Hr.out.ext hE2).other (a := ⟨w.heap.size, 2, none⟩) (by simp) (.int .u64 (G : Int))
      have hE := (HE.out.trans hE2).set1 (Nat.le_refl _) 2 (.int .u64 (G : Int))
      obtain ⟨p0, p1, p2⟩ := (Hb.out.ext hE2).c3
      obtain ⟨k0, k1, k2⟩ := (Hb.out.ext hE2).f3
      clear hE2 hst
      go_wp2
      refine wp_region_seq [(0, false), (1, false), (2, false), (3, false), (4, false), (5, false), (6, true), (7, false), (8, false)] (Bar (w.heap.size + 1)) (by kernel_rfl) (by kernel_rfl) (Bar.refl _) (fun _ _ _ => Bar.trans) ?_; simp only [List.map, nth_z, nth_s]
      replace hb := hb.drew
      replace hr := hr.drew
      replace hE := hE.drew
      have hb' : Blk (w2.setCell ⟨w.heap.size, 2, none⟩ (.int .u64 (G : Int))).drew w.heap.size 27 #[.int .u64 (B : Int), .int .i64 (M : Int), .int .u64 (G : Int)] := hb
      clear hb
      generalize (w2.setCell ⟨w.heap.size, 2, none⟩ (.int .u64 (G : Int))).drew = w3 at *
      obtain ⟨q0, q1, q2⟩ := hb'.c3
      obtain ⟨d0, d1, d2⟩ := hr.c3
      obtain ⟨e0, e1, e2⟩ := hr.f3
      refine seq_value (.agg #[(.int .u64 (B : Int)), (.int .i64 (M : Int)), (.int .u64 (G : Int))]) (by rfl) (fun x hx => by have hq0 := bar_cell hx q0 (by omega); have hq1 := bar_cell hx q1 (by omega); have hq2 := bar_cell hx q2 (by omega); simp [go_sem, execOp, Act.eval, hq0, hq1, hq2]) ?_; intro K hK; simp only [Act.put, List.setIfInBounds_toArray, List.set_cons_zero, List.set_cons_succ]; refine hK _ ?_; clear hK K
      (repeat (first | (refine seq_skip (by rfl) ?_; intro K hK; simp only [Act.put, List.setIfInBounds_toArray, List.set_cons_zero, List.set_cons_succ]; refine hK _ ?_; clear hK K) | (refine seq_skipc (by rfl) ?_; intro K hK; simp only [Act.put, List.setIfInBounds_toArray, List.set_cons_zero, List.set_cons_succ]; refine hK _ ?_; clear hK K) | (refine seq_read (by rfl) (by rfl) ?_; intro K hK; go_big_quiet_op; first | go_big_quiet_on | (refine ⟨_, fun _ _ => rfl, ?_⟩; go_big_quiet_on))))
      refine seq_value (.int .u64 (B : Int)) (by rfl) (fun x hx => by have hq := bar_cell hx q0 (by omega); simp [go_sem, execOp, Act.eval, hq]) ?_; intro K hK; simp only [Act.put, List.setIfInBounds_toArray, List.set_cons_zero, List.set_cons_succ]; refine hK _ ?_; clear hK K
      (repeat (first | (refine seq_skip (by rfl) ?_; intro K hK; simp only [Act.put, List.setIfInBounds_toArray, List.set_cons_zero, List.set_cons_succ]; refine hK _ ?_; clear hK K) | (refine seq_skipc (by rfl) ?_; intro K hK; simp only [Act.put, List.setIfInBounds_toArray, List.set_cons_zero, List.set_cons_succ]; refine hK _ ?_; clear hK K) | (refine seq_read (by rfl) (by rfl) ?_; intro K hK; go_big_quiet_op; first | go_big_quiet_on | (refine ⟨_, fun _ _ => rfl, ?_⟩; go_big_quiet_on))))
      refine seq_store (((w3.setCell ⟨w.heap.size + 1, 0, none⟩ (.int .u64 (B : Int))).setCell ⟨w.heap.size + 1, 1, none⟩ (.int .i64 (M : Int))).setCell ⟨w.heap.size + 1, 2, none⟩ (.int .u64 (G : Int))) (by rfl) ?_ ((((Bar.refl _ w3).set 0 _).set 1 _).set 2 _) ?_; (simp [go_sem, execOp, Act.eval, d0, d1, d2, e0, e1, e2]); intro K hK; simp only [Act.put, List.setIfInBounds_toArray, List.set_cons_zero, List.set_cons_succ]; refine hK _ _ ?_; clear hK K
      (repeat (first | (refine seq_skip (by rfl) ?_; intro K hK; simp only [Act.put, List.setIfInBounds_toArray, List.set_cons_zero, List.set_cons_succ]; refine hK _ ?_; clear hK K) | (refine seq_skipc (by rfl) ?_; intro K hK; simp only [Act.put, List.setIfInBounds_toArray, List.set_cons_zero, List.set_cons_succ]; refine hK _ ?_; clear hK K) | (refine seq_read (by rfl) (by rfl) ?_; intro K hK; go_big_quiet_op; first | go_big_quiet_on | (refine ⟨_, fun _ _ => rfl, ?_⟩; go_big_quiet_on))))
      refine seq_done ?_
      go_wp2
      (try simp only [Exit.inBlock, Exit.then]); refine bodyPost_ret (results_c3 rfl _ _ _ _ _ _ rfl (hr.set3 _ _ _) rfl Tryd.underlying27 (by kernel_rfl)) rfl ?_
      exact ⟨by rw [Int.natCast_add]; rfl, hE.set3 (by omega) _ _ _⟩
end Go.Proofs.YticbjiddbjgikaaDoor
