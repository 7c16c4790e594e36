/- The document's answers for layer 4 (package atlasref04): Is, Take, Give, New. -/
import Derived.Test.YtdiffllpoappfaaDoorRfou
namespace Go.Proofs.YtdiffllpoappfaaDoor
open Go.ChangeShapes Go.WideShapes Go.ChangeAt Go.RowKit
set_option linter.unusedVariables false
set_option linter.unusedSimpArgs false

theorem isB_at {B M F f k : Nat} (hk : k < M) (h : B + k = f) : isB B M F f = !F.testBit k := by
  unfold isB; subst h; simp [hk]
theorem isB_no {B M F f : Nat} (h : ∀ j, j < M → B + j ≠ f) : isB B M F f = false := by
  unfold isB
  by_cases h1 : B ≤ f ∧ f < B + M
  · exact absurd (show B + (f - B) = f by omega) (h (f - B) (by omega))
  · simp; omega
theorem rbit_c (F k : Nat) (b : Bool) (hF : F < 18446744073709551616) (hk : k < 64) (hb : F.testBit k = b) (w : World) : Calls Tryd.prog 22 #[.int .u64 (F : Int), .int .i64 (k : Int)] w fun e w' => e = .returned (.bool b) ∧ w = w' := by
  have := bit_c (F : Int) (k : Int) (by omega) (by omega) w
  rwa [bitB_nat (by omega), hb] at this

set_option maxRecDepth 100000 in
set_option maxHeartbeats 1000000 in
theorem ris_c (B M F f : Nat) (hB : B ≤ 268435456) (hM : M ≤ 64) (hF : F < 18446744073709551616) (hf : f < 18446744073709551616) (w : World) :
    Calls Tryd.prog 18 #[(.agg #[.int .u64 (B : Int), .int .i64 (M : Int), .int .u64 (F : Int)]), .int .u64 (f : Int)] w fun e w' => e = .returned (.bool (isB B M F f)) ∧ Ext w w' := by
  have HE := Lib.hid ((Ext.refl w).alloc (.cells #[.int .u64 (B : Int), .int .i64 (M : Int), .int .u64 (F : Int)] 24))
  obtain ⟨b0, b1, b2⟩ := (Blk.new w 24 #[.int .u64 (B : Int), .int .i64 (M : Int), .int .u64 (F : Int)]).c3
  go_enter Tryd.func18, Tryd.ntmps18
  go_wp2
  go_loop [5] (fun i => ∃ k : Nat, k ≤ M ∧ i = .int .i64 k ∧ Hid (∀ j, j < k → B + j ≠ f)) (fun i => (M - intOf i).toNat)
  case atStart => exact ⟨0, by omega, rfl, Lib.hid fun j h => by omega⟩
  case round =>
    obtain ⟨k, hk, rfl, hq⟩ := hrel
    by_cases hlt : k < M
    · by_cases he : B + k = f
      · have H := Lib.hid (isB_at (F := F) hlt he)
        have hd : ((B : Int) + (k : Int) == (f : Int)) = true := by rw [beq_iff_eq]; omega
        have hbc := rbit_c F k _ hF (by omega) rfl
        clear he
        go_wp2_with (go_at_call 22; refine (hbc _).mono ?_; rintro e w' ⟨rfl, rfl⟩)
        go_ret
        exact ⟨by rw [H.out]; rfl, HE.out⟩
      · have hd : ((B : Int) + (k : Int) == (f : Int)) = false := by rw [beq_eq_false_iff_ne]; omega
        have hq1 : Hid (∀ j, j < k + 1 → B + j ≠ f) := Lib.hid fun j h => by
          by_cases e : j = k
          · subst e; exact he
          · exact hq.out j (by omega)
        clear he
        go_wp2
        go_round
        case rel => exact ⟨k + 1, by omega, by go_num, hq1⟩
        case measure => simp [intOf]; omega
    · have hk' : k = M := by omega
      have H := Lib.hid (isB_no (B := B) (M := M) (F := F) (f := f) (fun j h => hq.out j (by omega)))
      subst hk'
      go_wp2
      go_ret
      exact ⟨by rw [H.out]; rfl, HE.out⟩

set_option maxRecDepth 100000 in
set_option maxHeartbeats 1000000 in
theorem rgive_c (B M F f : Nat) (hB : B ≤ 268435456) (hM : M ≤ 64) (hF : F < 18446744073709551616) (hf : f < 18446744073709551616) (w : World) :
    Calls Tryd.prog 14 #[(.agg #[.int .u64 (B : Int), .int .i64 (M : Int), .int .u64 (F : Int)]), .int .u64 (f : Int)] w fun e w' => e = .returned (.tuple #[(.agg #[.int .u64 (B : Int), .int .i64 (M : Int), .int .u64 (freedN B M F f : Int)]), .int .i64 (if isB B M F f then 0 else 1)]) ∧ Ext w w' := by
  have hne := isB_ne (B := B) (f := f) hM hF
  cases hb : isB B M F f
  · have H : Hid (freedN B M F f = F) := Lib.hid (by rw [hb] at hne; simpa using hne)
    clear hne
    go_enter Tryd.func14, Tryd.ntmps14
    go_wp2_with fail
    refine (ris_c B M F f hB hM hF hf _).mono ?_
    rintro e w1 ⟨rfl, hE⟩
    rw [hb]
    obtain ⟨k, hr⟩ := blk_two hE
    obtain ⟨b0, b1, b2⟩ := k.c3
    obtain ⟨r0, r1, r2⟩ := hr.c3
    obtain ⟨g0, g1, g2⟩ := hr.f3
    have Hr := Lib.hid hr
    have HE := Lib.hid hE
    clear k hr hE
    go_wp2
    (try simp only [Exit.inBlock, Exit.then]); refine bodyPost_ret (results_c2 rfl _ _ _ _ _ _ rfl (Hr.out.set3 _ _ _) rfl Tryd.underlying24 (by kernel_rfl)) rfl ?_
    exact ⟨by rw [H.out]; rfl, (ext_two HE.out).set3 (by omega) _ _ _⟩
  · have hin : B ≤ f ∧ f < B + M := by
      unfold isB at hb
      simp only [Bool.and_eq_true, decide_eq_true_eq] at hb
      exact hb.1
    have H := Lib.hid (freed_in (F := F) hin.1 hin.2)
    have hs := sub_in hin.1 hf
    have hi : f - B ≤ 63 := by omega
    obtain ⟨i, hi'⟩ : ∃ i, i = f - B := ⟨_, rfl⟩
    rw [← hi'] at hs hi H
    clear hi' hin hne
    go_enter Tryd.func14, Tryd.ntmps14
    go_wp2_with fail
    refine (ris_c B M F f hB hM hF hf _).mono ?_
    rintro e w1 ⟨rfl, hE⟩
    rw [hb]
    obtain ⟨k, hr⟩ := blk_two hE
    obtain ⟨b0, b1, b2⟩ := k.c3
    have HE := Lib.hid (ext_two hE)
    clear hE
    go_wp2_with fail
    refine (rset_1 F i true hF hi _).mono ?_
    rintro e w2 ⟨rfl, hE2⟩
    replace k := k.ext hE2
    replace hr := hr.ext hE2
    obtain ⟨b0, b1, b2⟩ := k.c3
    obtain ⟨f0, f1, f2⟩ := k.f3
    obtain ⟨r0, r1, r2⟩ := hr.c3
    obtain ⟨g0, g1, g2⟩ := hr.f3
    have Hr := Lib.hid hr
    replace HE := Lib.hid (HE.out.trans hE2)
    clear k hr hE2 hs
    go_wp2
    (try simp only [Exit.inBlock, Exit.then]); refine bodyPost_ret (results_c2 rfl _ _ _ _ _ _ rfl ((Hr.out.other (a := ⟨w.heap.size, 2, none⟩) (by simp) _).set3 _ _ _) rfl Tryd.underlying24 (by kernel_rfl)) rfl ?_
    exact ⟨by rw [H.out]; rfl, (HE.out.set1 (Nat.le_refl _) _ _).set3 (by omega) _ _ _⟩

theorem ones_set {k : Nat} (hk : k < 64) : bitN (2 ^ k - 1) k true = 2 ^ (k + 1) - 1 := by
  have h : 2 ^ k - 1 < 2 ^ 64 := by have := Nat.pow_le_pow_right (n := 2) (by decide) (show k ≤ 64 by omega); have := Nat.two_pow_pos k; omega
  apply Nat.eq_of_testBit_eq; intro j
  rw [tb_bit h, Nat.testBit_two_pow_sub_one, Nat.testBit_two_pow_sub_one]
  by_cases e : j = k
  · rw [if_pos ⟨e, hk⟩]; simp; omega
  · rw [if_neg (fun h => e h.1), decide_eq_decide]; omega
theorem ones_lt {k : Nat} (hk : k ≤ 64) : 2 ^ k - 1 < 18446744073709551616 := by have := Nat.pow_le_pow_right (n := 2) (by decide) hk; have := Nat.two_pow_pos k; omega

set_option maxRecDepth 100000 in
set_option maxHeartbeats 1000000 in
theorem rnew_c (B M : Nat) (hM : M ≤ 64) (hB : B < 18446744073709551616) (w : World) :
    Calls Tryd.prog 20 #[.int .u64 (B : Int), .int .i64 (M : Int)] w fun e w' => e = .returned (.agg #[.int .u64 (B : Int), .int .i64 (M : Int), .int .u64 ((2 ^ M - 1 : Nat) : Int)]) ∧ Ext w w' := by
  go_enter Tryd.func20, Tryd.ntmps20
  go_wp2
  go_loopw [6] (fun i wr => ∃ k : Nat, k ≤ M ∧ i = .int .i64 k ∧ Blk wr w.heap.size 24 #[.int .u64 0, .int .i64 0, .int .u64 0] ∧ Blk wr (w.heap.size + 1) 24 #[.int .u64 (B : Int), .int .i64 (M : Int), .int .u64 ((2 ^ k - 1 : Nat) : Int)] ∧ Ext w wr) (fun i _ => (M - intOf i).toNat)
  case atStart => exact ⟨0, by omega, rfl, (blk_two (Ext.refl _)).1, (blk_two (Ext.refl _)).2, ext_two (Ext.refl _)⟩
  case round =>
    obtain ⟨k, hk, rfl, hr, hp, hE⟩ := hrel
    by_cases hlt : k < M
    · obtain ⟨p0, p1, p2⟩ := hp.c3
      have H := Lib.hid (ones_set (k := k) (by omega))
      have hl := ones_lt (k := k) (by omega)
      have HE := Lib.hid hE
      have Hr := Lib.hid hr
      have Hp := Lib.hid hp
      generalize 2 ^ k - 1 = G at *
      clear hE hr hp
      go_wp2_with fail
      refine (rset_1 G k true hl (by omega) _).mono ?_
      rintro e w2 ⟨rfl, hE2⟩
      replace Hp := Lib.hid (Hp.out.ext hE2)
      replace Hr := Lib.hid (Hr.out.ext hE2)
      obtain ⟨p0, p1, p2⟩ := Hp.out.c3
      obtain ⟨f0, f1, f2⟩ := Hp.out.f3
      replace HE := Lib.hid (HE.out.trans hE2)
      clear hE2
      go_wp2
      go_roundw
      case rel => exact ⟨k + 1, by omega, by go_num, Hr.out.other (a := ⟨w.heap.size + 1, 2, none⟩) (by simp) _, by rw [← H.out]; exact Hp.out.set_ 2 _, HE.out.set1 (by omega) _ _⟩
      case measure => simp [intOf]; omega
    · have hk' : k = M := by omega
      subst hk'
      obtain ⟨p0, p1, p2⟩ := hp.c3
      obtain ⟨r0, r1, r2⟩ := hr.c3
      obtain ⟨g0, g1, g2⟩ := hr.f3
      have HE := Lib.hid hE
      have Hr := Lib.hid hr
      clear hE hr hp
      obtain ⟨G, hG⟩ : ∃ G, G = 2 ^ k - 1 := ⟨_, rfl⟩
      rw [← hG] at p2
      have HG := Lib.hid hG
      clear hG
      go_wp2
      (try simp only [Exit.inBlock, Exit.then]); refine bodyPost_ret (results_cell_row rfl _ _ _ _ _ _ _ rfl (Hr.out.set3 _ _ _) Tryd.underlying24 rfl (by kernel_rfl)) rfl ?_
      exact ⟨by rw [HG.out], HE.out.set3 (by omega) _ _ _⟩

set_option maxRecDepth 100000 in
set_option maxHeartbeats 1000000 in
theorem rtake_no (B M : Nat) (hM : M ≤ 64) (w : World) :
    Calls Tryd.prog 12 #[.agg #[.int .u64 (B : Int), .int .i64 (M : Int), .int .u64 0]] w fun e w' => e = .returned (.tuple #[.agg #[.int .u64 (B : Int), .int .i64 (M : Int), .int .u64 0], .int .u64 0, .int .i64 8]) ∧ Ext w w' := by
  obtain ⟨hb, hr⟩ := blk_two (Ext.refl ((w.alloc (.cells #[.int .u64 (B : Int), .int .i64 (M : Int), .int .u64 0] 24)).alloc (.cells #[.int .u64 0, .int .i64 0, .int .u64 0] 24)))
  have hE := ext_two (Ext.refl ((w.alloc (.cells #[.int .u64 (B : Int), .int .i64 (M : Int), .int .u64 0] 24)).alloc (.cells #[.int .u64 0, .int .i64 0, .int .u64 0] 24)))
  go_enter Tryd.func12, Tryd.ntmps12
  go_wp2
  generalize ((w.alloc (.cells #[.int .u64 (B : Int), .int .i64 (M : Int), .int .u64 0] 24)).alloc (.cells #[.int .u64 0, .int .i64 0, .int .u64 0] 24)) = w1 at *
  obtain ⟨b0, b1, b2⟩ := hb.c3
  obtain ⟨r0, r1, r2⟩ := hr.c3
  obtain ⟨g0, g1, g2⟩ := hr.f3
  have Hr := Lib.hid hr
  have HE := Lib.hid hE
  clear hr hb hE
  go_loop [5] (fun i => ∃ k : Nat, k ≤ M ∧ i = .int .i64 k) (fun i => (M - intOf i).toNat)
  case atStart => exact ⟨0, by omega, rfl⟩
  case round =>
    obtain ⟨k, hk, rfl⟩ := hrel
    by_cases hlt : k < M
    · have hbc := rbit_c 0 k false (by decide) (by omega) (Nat.zero_testBit _)
      go_wp2_with (go_at_call 22; refine (hbc _).mono ?_; rintro e w' ⟨rfl, rfl⟩)
      go_round
      case rel => exact ⟨k + 1, by omega, by go_num⟩
      case measure => simp [intOf]; omega
    · have hk' : k = M := by omega
      subst hk'
      go_wp2
      (try simp only [Exit.inBlock, Exit.then]); refine bodyPost_ret (results_c3 rfl _ _ _ _ _ _ rfl (Hr.out.set3 _ _ _) rfl Tryd.underlying24 (by kernel_rfl)) rfl ?_
      exact ⟨rfl, HE.out.set3 (by omega) _ _ _⟩

set_option maxRecDepth 100000 in
set_option maxHeartbeats 1000000 in
theorem rtake_yes (B M F : Nat) (hB : B ≤ 268435456) (hM : M ≤ 64) (hF : F < 2 ^ M) (h0 : F ≠ 0) (w : World) :
    Calls Tryd.prog 12 #[(.agg #[.int .u64 (B : Int), .int .i64 (M : Int), .int .u64 (F : Int)])] w fun e w' => e = .returned (.tuple #[(.agg #[.int .u64 (B : Int), .int .i64 (M : Int), .int .u64 (takeF F : Int)]), .int .u64 ((B + lowN' F : Nat) : Int), .int .i64 0]) ∧ Ext w w' := by
  have hF64 : F < 18446744073709551616 := pow_le64 hM hF
  have hkM := low_top h0 hM hF
  obtain ⟨_, hbit, hlow⟩ := low_spec h0 hF64
  have hst : ∀ w, Calls Tryd.prog 25 #[.int .u64 (F : Int), .int .i64 ((lowN' F : Nat) : Int), .int .i64 1, .int .u64 0] w fun e w' => e = .returned (.int .u64 ((takeF F : Nat) : Int)) ∧ Ext w w' := fun w => by
    have := rset_1 F (lowN' F) false hF64 (by omega) w
    rwa [← take_def] at this
  have Hlow := Lib.hid hlow
  have Hbit := Lib.hid hbit
  have HF := Lib.hid hF
  generalize lowN' F = m at *
  generalize takeF F = G at *
  clear hlow hbit h0 hF
  obtain ⟨hb, hr⟩ := blk_two (Ext.refl ((w.alloc (.cells #[.int .u64 (B : Int), .int .i64 (M : Int), .int .u64 (F : Int)] 24)).alloc (.cells #[.int .u64 0, .int .i64 0, .int .u64 0] 24)))
  have hE := ext_two (Ext.refl ((w.alloc (.cells #[.int .u64 (B : Int), .int .i64 (M : Int), .int .u64 (F : Int)] 24)).alloc (.cells #[.int .u64 0, .int .i64 0, .int .u64 0] 24)))
  go_enter Tryd.func12, Tryd.ntmps12
  go_wp2
  generalize ((w.alloc (.cells #[.int .u64 (B : Int), .int .i64 (M : Int), .int .u64 (F : Int)] 24)).alloc (.cells #[.int .u64 0, .int .i64 0, .int .u64 0] 24)) = w1 at *
  obtain ⟨b0, b1, b2⟩ := hb.c3
  obtain ⟨f0, f1, f2⟩ := hb.f3
  obtain ⟨r0, r1, r2⟩ := hr.c3
  obtain ⟨g0, g1, g2⟩ := hr.f3
  have Hr := Lib.hid hr
  have Hb := Lib.hid hb
  have HE := Lib.hid hE
  clear hr hb hE
  go_loop [5] (fun i => ∃ k : Nat, k ≤ m ∧ i = .int .i64 k) (fun i => (M - intOf i).toNat)
  case atStart => exact ⟨0, by omega, rfl⟩
  case round =>
    obtain ⟨k, hk, rfl⟩ := hrel
    have hkM2 : k < M := by omega
    by_cases hlt : k < m
    · have hbc := rbit_c F k false hF64 (by omega) (Hlow.out k hlt)
      go_wp2_with (go_at_call 22; refine (hbc _).mono ?_; rintro e w' ⟨rfl, rfl⟩)
      go_round
      case rel => exact ⟨k + 1, by omega, by go_num⟩
      case measure => simp [intOf]; omega
    · obtain rfl : k = m := by omega
      have hbc := rbit_c F k true hF64 (by omega) Hbit.out
      have hs : IntKind.u64.wrap ((B : Int) + (k : Int)) = (B : Int) + (k : Int) := by rw [IntKind.wrap_u64]; omega
      go_wp2_with (go_at_call 22; refine (hbc _).mono ?_; rintro e w' ⟨rfl, rfl⟩)
      refine (hst _).mono ?_
      rintro e w2 ⟨rfl, hE2⟩
      have hb := (Hb.out.ext hE2).set_ 2 (.int .u64 (G : Int))
      have hr := (Hr.out.ext hE2).other (a := ⟨w.heap.size, 2, none⟩) (by simp) (.int .u64 (G : Int))
      have hE := (HE.out.trans hE2).set1 (Nat.le_refl _) 2 (.int .u64 (G : Int))
      obtain ⟨p0, p1, p2⟩ := (Hb.out.ext hE2).c3
      obtain ⟨k0, k1, k2⟩ := (Hb.out.ext hE2).f3
      clear hE2 hst
      go_wp2
      refine wp_region_seq [(0, false), (1, false), (2, false), (3, false), (4, false), (5, false), (6, true), (7, false), (8, false)] (Bar (w.heap.size + 1)) (by kernel_rfl) (by kernel_rfl) (Bar.refl _) (fun _ _ _ => Bar.trans) ?_; simp only [List.map, nth_z, nth_s]
      replace hb := hb.drew
      replace hr := hr.drew
      replace hE := hE.drew
      have hb' : Blk (w2.setCell ⟨w.heap.size, 2, none⟩ (.int .u64 (G : Int))).drew w.heap.size 24 #[.int .u64 (B : Int), .int .i64 (M : Int), .int .u64 (G : Int)] := hb
      clear hb
      generalize (w2.setCell ⟨w.heap.size, 2, none⟩ (.int .u64 (G : Int))).drew = w3 at *
      obtain ⟨q0, q1, q2⟩ := hb'.c3
      obtain ⟨d0, d1, d2⟩ := hr.c3
      obtain ⟨e0, e1, e2⟩ := hr.f3
      refine seq_value (.agg #[(.int .u64 (B : Int)), (.int .i64 (M : Int)), (.int .u64 (G : Int))]) (by rfl) (fun x hx => by have hq0 := bar_cell hx q0 (by omega); have hq1 := bar_cell hx q1 (by omega); have hq2 := bar_cell hx q2 (by omega); simp [go_sem, execOp, Act.eval, hq0, hq1, hq2]) ?_; intro K hK; simp only [Act.put, List.setIfInBounds_toArray, List.set_cons_zero, List.set_cons_succ]; refine hK _ ?_; clear hK K
      (repeat (first | (refine seq_skip (by rfl) ?_; intro K hK; simp only [Act.put, List.setIfInBounds_toArray, List.set_cons_zero, List.set_cons_succ]; refine hK _ ?_; clear hK K) | (refine seq_skipc (by rfl) ?_; intro K hK; simp only [Act.put, List.setIfInBounds_toArray, List.set_cons_zero, List.set_cons_succ]; refine hK _ ?_; clear hK K) | (refine seq_read (by rfl) (by rfl) ?_; intro K hK; go_big_quiet_op; first | go_big_quiet_on | (refine ⟨_, fun _ _ => rfl, ?_⟩; go_big_quiet_on))))
      refine seq_value (.int .u64 (B : Int)) (by rfl) (fun x hx => by have hq := bar_cell hx q0 (by omega); simp [go_sem, execOp, Act.eval, hq]) ?_; intro K hK; simp only [Act.put, List.setIfInBounds_toArray, List.set_cons_zero, List.set_cons_succ]; refine hK _ ?_; clear hK K
      (repeat (first | (refine seq_skip (by rfl) ?_; intro K hK; simp only [Act.put, List.setIfInBounds_toArray, List.set_cons_zero, List.set_cons_succ]; refine hK _ ?_; clear hK K) | (refine seq_skipc (by rfl) ?_; intro K hK; simp only [Act.put, List.setIfInBounds_toArray, List.set_cons_zero, List.set_cons_succ]; refine hK _ ?_; clear hK K) | (refine seq_read (by rfl) (by rfl) ?_; intro K hK; go_big_quiet_op; first | go_big_quiet_on | (refine ⟨_, fun _ _ => rfl, ?_⟩; go_big_quiet_on))))
      refine seq_store (((w3.setCell ⟨w.heap.size + 1, 0, none⟩ (.int .u64 (B : Int))).setCell ⟨w.heap.size + 1, 1, none⟩ (.int .i64 (M : Int))).setCell ⟨w.heap.size + 1, 2, none⟩ (.int .u64 (G : Int))) (by rfl) ?_ ((((Bar.refl _ w3).set 0 _).set 1 _).set 2 _) ?_; (simp [go_sem, execOp, Act.eval, d0, d1, d2, e0, e1, e2]); intro K hK; simp only [Act.put, List.setIfInBounds_toArray, List.set_cons_zero, List.set_cons_succ]; refine hK _ _ ?_; clear hK K
      (repeat (first | (refine seq_skip (by rfl) ?_; intro K hK; simp only [Act.put, List.setIfInBounds_toArray, List.set_cons_zero, List.set_cons_succ]; refine hK _ ?_; clear hK K) | (refine seq_skipc (by rfl) ?_; intro K hK; simp only [Act.put, List.setIfInBounds_toArray, List.set_cons_zero, List.set_cons_succ]; refine hK _ ?_; clear hK K) | (refine seq_read (by rfl) (by rfl) ?_; intro K hK; go_big_quiet_op; first | go_big_quiet_on | (refine ⟨_, fun _ _ => rfl, ?_⟩; go_big_quiet_on))))
      refine seq_done ?_
      go_wp2
      (try simp only [Exit.inBlock, Exit.then]); refine bodyPost_ret (results_c3 rfl _ _ _ _ _ _ rfl (hr.set3 _ _ _) rfl Tryd.underlying24 (by kernel_rfl)) rfl ?_
      exact ⟨by rw [Int.natCast_add]; rfl, hE.set3 (by omega) _ _ _⟩
end Go.Proofs.YtdiffllpoappfaaDoor
