/- BytesBack: what is put is read as it was; bytes are put as they were; a number's bytes are those of its halves. -/
import Derived.Test.YtbnijcgcicecjaaLaw02b
namespace Go.Proofs.Ytbnijcgcicecjaa
open Go.ChangeShapes Go.WideShapes Go.ChangeAt Go.RowKit
set_option linter.unusedVariables false

theorem pick_s (n : Int) (n0 : 0 ≤ n) (n1 : n < 256) : ∃ s : Nat, IsSize s ∧ ∀ w : World,
    Calls Try.prog 8 #[.int .u8 n] w fun e w' => e = .returned (.int .i64 (s : Int)) ∧ Below w.heap.size w w' :=
  ⟨pickN n, pickN_is n, pick_c n n0 n1⟩

/-- the number of the s lowest bytes -/
def lowN (v s : Nat) : Nat := v % 256 ^ s
theorem lowN_8 {v : Nat} (h : v < 18446744073709551616) : lowN v 8 = v := Nat.mod_eq_of_lt (show v < 256 ^ 8 by omega)
theorem lowN_ub (v s : Nat) : lowN v s < 256 ^ s := Nat.mod_lt _ (Nat.pow_pos (by decide))
theorem low_w (v s : Nat) (v1 : v < 18446744073709551616) (hs : IsSize s) (w : World) :
    Calls Try.prog 11 #[.int .u64 (v : Int), .int .i64 (s : Int)] w fun e w' => e = .returned (.int .u64 ((lowN v s : Nat) : Int)) ∧ w = w' := low2_c v s v1 hs w
theorem get_w (A : Option Addr) (v s : Nat) (c : Nat) (hs : s ≤ 8) (w : World) (h : SlB w A (bytesN v s)) :
    Calls Try.prog 13 #[.slice A s c] w fun e w' => e = .returned (.int .u64 ((lowN v s : Nat) : Int)) ∧ w = w' := by
  have := bget_c A (bytesN v s) c (bytesN_is v s) (by rw [bytesN_len]; omega) w h
  rw [bytesN_len, numN_low v hs] at this
  exact this
/-- what a call that makes bytes leaves, its length told -/
def MadeT (l : List Nat) (n : Nat) (w : World) (e : Ending) (w' : World) : Prop :=
  ∃ A c, e = .returned (.slice A n c) ∧ SlB w' A l ∧ Below w.heap.size w w'
theorem put_w (v s : Nat) (v1 : v < 18446744073709551616) (hs : IsSize s) (w : World) :
    Calls Try.prog 9 #[.int .u64 (v : Int), .int .i64 (s : Int)] w (MadeT (bytesN v s) s w) :=
  (puts_c v s v1 hs w).mono fun e w' ⟨A, c, he, h1, h2⟩ => ⟨A, c, by rw [he, bytesN_len], h1, h2⟩
theorem str_w (w : World) (A : Option Addr) (v s : Nat) (c : Nat) (hs : SlB w A (bytesN v s)) :
    (convert 23 9 (.slice A s c)).run Try.prog w = .ok (.string (strN (bytesN v s))) w := by
  have := run_str w A _ c hs
  rw [bytesN_len] at this
  exact this

theorem get_own (A : Option Addr) (l : List Nat) (c : Nat) (hl : IsBytes l) (hm : l.length ≤ 8) (w : World) (hs : SlB w A l) :
    Calls Try.prog 13 #[.slice A l.length c] w fun e w' => e = .returned (.int .u64 ((numN l : Nat) : Int)) ∧ w = w' := by
  have := bget_c A l c hl (by omega) w hs
  rw [List.take_of_length_le hm] at this
  exact this
theorem put_own (l : List Nat) (hl : IsBytes l) (hz : IsSize l.length) (w : World) :
    Calls Try.prog 9 #[.int .u64 ((numN l : Nat) : Int), .int .i64 (l.length : Int)] w (MadeS l w) := by
  have h1 := numN_lt l hl
  have h2 : 256 ^ l.length ≤ 256 ^ 8 := Nat.pow_le_pow_right (by decide) hz.le.2
  have h3 : 256 ^ 8 = 18446744073709551616 := by decide
  have := puts_c (numN l) l.length (by omega) hz w
  rw [bytes_num l hl] at this
  exact this

theorem put_2 (v s : Nat) (v1 : v < 18446744073709551616) (hs : IsSize (2 * s)) (w : World) :
    Calls Try.prog 9 #[.int .u64 (v : Int), .int .i64 (2 * (s : Int))] w (MadeT (bytesN v (2 * s)) (2 * s) w) := by
  have := put_w v (2 * s) v1 hs w
  rwa [show ((2 * s : Nat) : Int) = 2 * (s : Int) by omega] at this
theorem halves (v s : Nat) : strN (bytesN v (2 * s)) = strN (bytesN v s) ++ strN (bytesN (shB v s) s) := by
  rw [show 2 * s = s + s by omega, bytesN_append, strN_append]; unfold shB; rfl
theorem shr_w (v s : Nat) : (v : Int) / 2 ^ (8 * s) = ((shB v s : Nat) : Int) := by
  unfold shB; rw [pow_256]; simp
theorem put_sh (v s : Nat) (v1 : v < 18446744073709551616) (hs : IsSize s) (w : World) :
    Calls Try.prog 9 #[.int .u64 ((v : Int) / 2 ^ (8 * s)), .int .i64 (s : Int)] w (MadeT (bytesN (shB v s) s) s w) := by
  rw [shr_w]
  exact put_w (shB v s) s (Nat.lt_of_le_of_lt (shB_le v s) v1) hs w
theorem low_shr (v s : Nat) : ((lowN v s : Nat) : Int) / 2 ^ (8 * s) = 0 := by
  have h := lowN_ub v s
  rw [pow_256] at h
  have : lowN v s / 2 ^ (8 * s) = 0 := Nat.div_eq_of_lt h
  have h2 : ((lowN v s / 2 ^ (8 * s) : Nat) : Int) = 0 := by rw [this]; rfl
  simpa using h2

attribute [irreducible] lowN
set_option maxHeartbeats 4000000 in
set_option maxRecDepth 100000 in
theorem BytesBack_w (v size : Int) (A : Option Addr) (l : List Nat) (c : Nat) (v0 : 0 ≤ v) (v1 : v < 18446744073709551616) (z0 : 0 ≤ size) (z1 : size < 256)
    (hl : IsBytes l) (hm : l.length ≤ 9223372036854775807) (w : World) (hs : SlB w A l) :
    Calls Try.prog 4 #[.int .u64 v, .int .u8 size, .slice A l.length c] w fun e w' => e = .returned (.bool true) ∧ Below w.heap.size w w' := by
  obtain ⟨V, rfl⟩ := Int.eq_ofNat_of_zero_le v0
  have hV : V < 18446744073709551616 := by omega
  obtain ⟨s, hsz, hp⟩ := pick_s size z0 z1
  by_cases h100 : l.length ≤ 8
  · have hd : decide ((8 : Int) < (l.length : Int)) = false := by simp; omega
    by_cases h8 : s = 8
    · subst h8
      have e8 := lowN_8 hV
      by_cases hb : sizeB (l.length : Int) = true
      · have hz := sizeB_is hb
        go_enter Try.func4, Try.ntmps4
        go_wp2_with (first | (go_at_call 7; refine (awake2_c _).mono ?_; rintro e w0 ⟨rfl, hb0⟩) | (go_at_call 8; refine (hp _).mono ?_; rintro e wp ⟨rfl, hbp⟩; have hs0 := (hs.below (B := 0) hb0).below (B := 0) hbp) | (go_at_call 9; refine (put_w V 8 hV hsz _).mono ?_; rintro e w1 ⟨A1, c1, rfl, hs1, hb1⟩; have hs2 := hs0.below (B := 0) hb1) | (go_at_call 13; refine (get_w _ V 8 _ (by omega) _ hs1).mono ?_; rintro e w' ⟨rfl, rfl⟩) | (go_at_call 11; refine (low_w V 8 hV hsz _).mono ?_; rintro e w' ⟨rfl, rfl⟩))
        refine wp_region_seq [(0, false), (1, false), (2, false), (3, false), (4, false), (5, false), (8, false), (9, false), (10, false), (11, false), (12, false), (13, false), (14, false), (15, false), (6, true), (7, false), (16, true), (17, false), (18, false), (19, false), (20, false), (21, false), (22, false), (24, false), (25, false), (26, false), (23, true), (27, false), (28, false), (29, false), (30, false)] Ext (by kernel_rfl) (by kernel_rfl) Ext.refl (fun _ _ _ => Ext.trans) ?_; simp only [List.map, nth_z, nth_s]
        repeat (first | (refine seq_skip (by rfl) ?_; intro K hK; simp only [Act.put, List.setIfInBounds_toArray, List.set_cons_zero, List.set_cons_succ]; refine hK _ ?_; clear hK K) | (refine seq_skipc (by rfl) ?_; intro K hK; simp only [Act.put, List.setIfInBounds_toArray, List.set_cons_zero, List.set_cons_succ]; refine hK _ ?_; clear hK K) | (refine seq_read (by rfl) (by rfl) ?_; intro K hK; go_big_quiet_op; first | go_big_quiet_on | (refine ⟨_, fun _ _ => rfl, ?_⟩; go_big_quiet_on)))
        refine seq_done ?_
        go_wp2
        refine wp_region_seq [(0, false), (1, false), (2, true), (3, false), (4, false), (5, false), (7, false), (8, false), (11, false), (12, false), (6, true), (9, true), (10, false), (13, false), (14, false), (15, false)] Ext (by kernel_rfl) (by kernel_rfl) Ext.refl (fun _ _ _ => Ext.trans) ?_; simp only [List.map, nth_z, nth_s]
        repeat (first | (refine seq_skip (by rfl) ?_; intro K hK; simp only [Act.put, List.setIfInBounds_toArray, List.set_cons_zero, List.set_cons_succ]; refine hK _ ?_; clear hK K) | (refine seq_skipc (by rfl) ?_; intro K hK; simp only [Act.put, List.setIfInBounds_toArray, List.set_cons_zero, List.set_cons_succ]; refine hK _ ?_; clear hK K) | (refine seq_read (by rfl) (by rfl) ?_; intro K hK; go_big_quiet_op; first | go_big_quiet_on | (refine ⟨_, fun _ _ => rfl, ?_⟩; go_big_quiet_on)))
        refine seq_call (rsize2_c (l.length : Int) _) rfl Try.func16 (by kernel_rfl) (by kernel_rfl) (by rfl) (by rfl) ?_; intro K hK; rintro e w' ⟨rfl, rfl⟩; refine ⟨_, rfl, Ext.refl _, ?_⟩; simp only [Act.put, List.setIfInBounds_toArray, List.set_cons_zero, List.set_cons_succ]; refine hK _ _ ?_; clear hK K
        repeat (first | (refine seq_skip (by rfl) ?_; intro K hK; simp only [Act.put, List.setIfInBounds_toArray, List.set_cons_zero, List.set_cons_succ]; refine hK _ ?_; clear hK K) | (refine seq_skipc (by rfl) ?_; intro K hK; simp only [Act.put, List.setIfInBounds_toArray, List.set_cons_zero, List.set_cons_succ]; refine hK _ ?_; clear hK K) | (refine seq_read (by rfl) (by rfl) ?_; intro K hK; go_big_quiet_op; first | go_big_quiet_on | (refine ⟨_, fun _ _ => rfl, ?_⟩; go_big_quiet_on)))
        refine seq_convert _ _ rfl rfl (by rfl) (fun x hx => run_str x A _ c (hs2.below (B := 0) (Ext.of_drew (Ext.of_drew hx)))) ?_; intro K hK; simp only [Act.put, List.setIfInBounds_toArray, List.set_cons_zero, List.set_cons_succ]; refine hK _ ?_; clear hK K
        refine seq_call (get_own _ _ _ hl h100 _ hs2) rfl Try.func13 (by kernel_rfl) (by kernel_rfl) (by rfl) (by rfl) ?_; intro K hK; rintro e w' ⟨rfl, rfl⟩; refine ⟨_, rfl, Ext.refl _, ?_⟩; simp only [Act.put, List.setIfInBounds_toArray, List.set_cons_zero, List.set_cons_succ]; refine hK _ _ ?_; clear hK K
        repeat (first | (refine seq_skip (by rfl) ?_; intro K hK; simp only [Act.put, List.setIfInBounds_toArray, List.set_cons_zero, List.set_cons_succ]; refine hK _ ?_; clear hK K) | (refine seq_skipc (by rfl) ?_; intro K hK; simp only [Act.put, List.setIfInBounds_toArray, List.set_cons_zero, List.set_cons_succ]; refine hK _ ?_; clear hK K) | (refine seq_read (by rfl) (by rfl) ?_; intro K hK; go_big_quiet_op; first | go_big_quiet_on | (refine ⟨_, fun _ _ => rfl, ?_⟩; go_big_quiet_on)))
        refine seq_call (put_own l hl hz _) rfl Try.func9 (by kernel_rfl) (by kernel_rfl) (by rfl) (by rfl) ?_; intro K hK; rintro e w' ⟨A2, c2, rfl, hs3, hb3⟩; refine ⟨_, rfl, hb3, ?_⟩; simp only [Act.put, List.setIfInBounds_toArray, List.set_cons_zero, List.set_cons_succ]; refine hK _ _ ?_; clear hK K
        refine seq_convert _ _ rfl rfl (by rfl) (fun x hx => run_str x A2 _ c2 (hs3.below (B := 0) hx)) ?_; intro K hK; simp only [Act.put, List.setIfInBounds_toArray, List.set_cons_zero, List.set_cons_succ]; refine hK _ ?_; clear hK K
        repeat (first | (refine seq_skip (by rfl) ?_; intro K hK; simp only [Act.put, List.setIfInBounds_toArray, List.set_cons_zero, List.set_cons_succ]; refine hK _ ?_; clear hK K) | (refine seq_skipc (by rfl) ?_; intro K hK; simp only [Act.put, List.setIfInBounds_toArray, List.set_cons_zero, List.set_cons_succ]; refine hK _ ?_; clear hK K) | (refine seq_read (by rfl) (by rfl) ?_; intro K hK; go_big_quiet_op; first | go_big_quiet_on | (refine ⟨_, fun _ _ => rfl, ?_⟩; go_big_quiet_on)))
        refine seq_done ?_
        go_wp2
        go_ret
        exact ⟨rfl, Ext.trans hb0 (Ext.trans hbp (Ext.trans hb1 (Ext.of_drew (Ext.of_drew hb3))))⟩
      · have hb' : sizeB (l.length : Int) = false := by simpa using hb
        go_enter Try.func4, Try.ntmps4
        go_wp2_with (first | (go_at_call 7; refine (awake2_c _).mono ?_; rintro e w0 ⟨rfl, hb0⟩) | (go_at_call 8; refine (hp _).mono ?_; rintro e wp ⟨rfl, hbp⟩; have hs0 := (hs.below (B := 0) hb0).below (B := 0) hbp) | (go_at_call 9; refine (put_w V 8 hV hsz _).mono ?_; rintro e w1 ⟨A1, c1, rfl, hs1, hb1⟩; have hs2 := hs0.below (B := 0) hb1) | (go_at_call 13; refine (get_w _ V 8 _ (by omega) _ hs1).mono ?_; rintro e w' ⟨rfl, rfl⟩) | (go_at_call 11; refine (low_w V 8 hV hsz _).mono ?_; rintro e w' ⟨rfl, rfl⟩))
        refine wp_region_seq [(0, false), (1, false), (2, false), (3, false), (4, false), (5, false), (8, false), (9, false), (10, false), (11, false), (12, false), (13, false), (14, false), (15, false), (6, true), (7, false), (16, true), (17, false), (18, false), (19, false), (20, false), (21, false), (22, false), (24, false), (25, false), (26, false), (23, true), (27, false), (28, false), (29, false), (30, false)] Ext (by kernel_rfl) (by kernel_rfl) Ext.refl (fun _ _ _ => Ext.trans) ?_; simp only [List.map, nth_z, nth_s]
        repeat (first | (refine seq_skip (by rfl) ?_; intro K hK; simp only [Act.put, List.setIfInBounds_toArray, List.set_cons_zero, List.set_cons_succ]; refine hK _ ?_; clear hK K) | (refine seq_skipc (by rfl) ?_; intro K hK; simp only [Act.put, List.setIfInBounds_toArray, List.set_cons_zero, List.set_cons_succ]; refine hK _ ?_; clear hK K) | (refine seq_read (by rfl) (by rfl) ?_; intro K hK; go_big_quiet_op; first | go_big_quiet_on | (refine ⟨_, fun _ _ => rfl, ?_⟩; go_big_quiet_on)))
        refine seq_done ?_
        go_wp2
        refine wp_region_seq [(0, false), (1, false), (2, true), (3, false), (4, false), (5, false), (7, false), (8, false), (11, false), (12, false), (6, true), (9, true), (10, false), (13, false), (14, false), (15, false)] Ext (by kernel_rfl) (by kernel_rfl) Ext.refl (fun _ _ _ => Ext.trans) ?_; simp only [List.map, nth_z, nth_s]
        repeat (first | (refine seq_skip (by rfl) ?_; intro K hK; simp only [Act.put, List.setIfInBounds_toArray, List.set_cons_zero, List.set_cons_succ]; refine hK _ ?_; clear hK K) | (refine seq_skipc (by rfl) ?_; intro K hK; simp only [Act.put, List.setIfInBounds_toArray, List.set_cons_zero, List.set_cons_succ]; refine hK _ ?_; clear hK K) | (refine seq_read (by rfl) (by rfl) ?_; intro K hK; go_big_quiet_op; first | go_big_quiet_on | (refine ⟨_, fun _ _ => rfl, ?_⟩; go_big_quiet_on)))
        refine seq_call (rsize2_c (l.length : Int) _) rfl Try.func16 (by kernel_rfl) (by kernel_rfl) (by rfl) (by rfl) ?_; intro K hK; rintro e w' ⟨rfl, rfl⟩; refine ⟨_, rfl, Ext.refl _, ?_⟩; simp only [Act.put, List.setIfInBounds_toArray, List.set_cons_zero, List.set_cons_succ]; refine hK _ _ ?_; clear hK K
        repeat (first | (refine seq_skip (by rfl) ?_; intro K hK; simp only [Act.put, List.setIfInBounds_toArray, List.set_cons_zero, List.set_cons_succ]; refine hK _ ?_; clear hK K) | (refine seq_skipc (by rfl) ?_; intro K hK; simp only [Act.put, List.setIfInBounds_toArray, List.set_cons_zero, List.set_cons_succ]; refine hK _ ?_; clear hK K) | (refine seq_read (by rfl) (by rfl) ?_; intro K hK; go_big_quiet_op; first | go_big_quiet_on | (refine ⟨_, fun _ _ => rfl, ?_⟩; go_big_quiet_on)))
        refine seq_done ?_
        go_wp2
        go_ret
        exact ⟨rfl, Ext.drew (Ext.drew (Ext.trans hb0 (Ext.trans hbp hb1)))⟩
    · have hs7 : IsSize (2 * s) ∧ s ≤ 4 := by unfold IsSize at hsz ⊢; omega
      obtain ⟨hs2z, hs4⟩ := hs7
      have hsle := hsz.le
      have h8i : ((s : Int) == 8) = false := by simp; omega
      have hd8 : decide ((s : Int) < 8) = true := by simp; omega
      have e2 := low_shr V s
      have e3 := halves V s
      have z1 := strN_size (bytesN V s)
      have z2 := strN_size (bytesN (shB V s) s)
      rw [bytesN_len] at z1 z2
      clear h8
      go_enter Try.func4, Try.ntmps4
      go_wp2_with (first | (go_at_call 7; refine (awake2_c _).mono ?_; rintro e w0 ⟨rfl, hb0⟩) | (go_at_call 8; refine (hp _).mono ?_; rintro e wp ⟨rfl, hbp⟩; have hs0 := (hs.below (B := 0) hb0).below (B := 0) hbp) | (go_at_call 9; refine (put_w V s hV hsz _).mono ?_; rintro e w1 ⟨A1, c1, rfl, hs1, hb1⟩; have hs2 := hs0.below (B := 0) hb1) | (go_at_call 13; refine (get_w _ V s _ (by omega) _ hs1).mono ?_; rintro e w' ⟨rfl, rfl⟩) | (go_at_call 11; refine (low_w V s hV hsz _).mono ?_; rintro e w' ⟨rfl, rfl⟩))
      refine wp_region_seq [(0, false), (1, false), (2, false), (3, false), (4, false), (5, false), (8, false), (9, false), (10, false), (11, false), (12, false), (13, false), (14, false), (15, false), (6, true), (7, false), (16, true), (17, false), (18, false), (19, false), (20, false), (21, false), (22, false), (24, false), (25, false), (26, false), (23, true), (27, false), (28, false), (29, false), (30, false)] Ext (by kernel_rfl) (by kernel_rfl) Ext.refl (fun _ _ _ => Ext.trans) ?_; simp only [List.map, nth_z, nth_s]
      repeat (first | (refine seq_skip (by rfl) ?_; intro K hK; simp only [Act.put, List.setIfInBounds_toArray, List.set_cons_zero, List.set_cons_succ]; refine hK _ ?_; clear hK K) | (refine seq_skipc (by rfl) ?_; intro K hK; simp only [Act.put, List.setIfInBounds_toArray, List.set_cons_zero, List.set_cons_succ]; refine hK _ ?_; clear hK K) | (refine seq_read (by rfl) (by rfl) ?_; intro K hK; go_big_quiet_op; first | go_big_quiet_on | (refine ⟨_, fun _ _ => rfl, ?_⟩; go_big_quiet_on)))
      refine seq_convert _ _ rfl rfl (by rfl) (fun x hx => str_w x A1 V s c1 (hs1.below (B := 0) (Ext.of_drew hx))) ?_; intro K hK; simp only [Act.put, List.setIfInBounds_toArray, List.set_cons_zero, List.set_cons_succ]; refine hK _ ?_; clear hK K
      repeat (first | (refine seq_skip (by rfl) ?_; intro K hK; simp only [Act.put, List.setIfInBounds_toArray, List.set_cons_zero, List.set_cons_succ]; refine hK _ ?_; clear hK K) | (refine seq_skipc (by rfl) ?_; intro K hK; simp only [Act.put, List.setIfInBounds_toArray, List.set_cons_zero, List.set_cons_succ]; refine hK _ ?_; clear hK K) | (refine seq_read (by rfl) (by rfl) ?_; intro K hK; go_big_quiet_op; first | go_big_quiet_on | (refine ⟨_, fun _ _ => rfl, ?_⟩; go_big_quiet_on)))
      refine seq_call (put_2 V s hV hs2z _) rfl Try.func9 (by kernel_rfl) (by kernel_rfl) (by rfl) (by rfl) ?_; intro K hK; rintro e w' ⟨A3, c3, rfl, hs3, hb3⟩; refine ⟨_, rfl, hb3, ?_⟩; simp only [Act.put, List.setIfInBounds_toArray, List.set_cons_zero, List.set_cons_succ]; refine hK _ _ ?_; clear hK K
      refine seq_convert _ _ rfl rfl (by rfl) (fun x hx => str_w x A3 V (2 * s) c3 (hs3.below (B := 0) hx)) ?_; intro K hK; simp only [Act.put, List.setIfInBounds_toArray, List.set_cons_zero, List.set_cons_succ]; refine hK _ ?_; clear hK K
      refine seq_call (put_sh V s hV hsz _) rfl Try.func9 (by kernel_rfl) (by kernel_rfl) (by rfl) (by rfl) ?_; intro K hK; rintro e w' ⟨A4, c4, rfl, hs5, hb4⟩; refine ⟨_, rfl, hb4, ?_⟩; simp only [Act.put, List.setIfInBounds_toArray, List.set_cons_zero, List.set_cons_succ]; refine hK _ _ ?_; clear hK K
      refine seq_convert _ _ rfl rfl (by rfl) (fun x hx => str_w x A4 (shB V s) s c4 (hs5.below (B := 0) hx)) ?_; intro K hK; simp only [Act.put, List.setIfInBounds_toArray, List.set_cons_zero, List.set_cons_succ]; refine hK _ ?_; clear hK K
      repeat (first | (refine seq_skip (by rfl) ?_; intro K hK; simp only [Act.put, List.setIfInBounds_toArray, List.set_cons_zero, List.set_cons_succ]; refine hK _ ?_; clear hK K) | (refine seq_skipc (by rfl) ?_; intro K hK; simp only [Act.put, List.setIfInBounds_toArray, List.set_cons_zero, List.set_cons_succ]; refine hK _ ?_; clear hK K) | (refine seq_read (by rfl) (by rfl) ?_; intro K hK; go_big_quiet_op; first | go_big_quiet_on | (refine ⟨_, fun _ _ => rfl, ?_⟩; go_big_quiet_on)))
      refine seq_call (low_w V s hV hsz _) rfl Try.func11 (by kernel_rfl) (by kernel_rfl) (by rfl) (by rfl) ?_; intro K hK; rintro e w' ⟨rfl, rfl⟩; refine ⟨_, rfl, Ext.refl _, ?_⟩; simp only [Act.put, List.setIfInBounds_toArray, List.set_cons_zero, List.set_cons_succ]; refine hK _ _ ?_; clear hK K
      repeat (first | (refine seq_skip (by rfl) ?_; intro K hK; simp only [Act.put, List.setIfInBounds_toArray, List.set_cons_zero, List.set_cons_succ]; refine hK _ ?_; clear hK K) | (refine seq_skipc (by rfl) ?_; intro K hK; simp only [Act.put, List.setIfInBounds_toArray, List.set_cons_zero, List.set_cons_succ]; refine hK _ ?_; clear hK K) | (refine seq_read (by rfl) (by rfl) ?_; intro K hK; go_big_quiet_op; first | go_big_quiet_on | (refine ⟨_, fun _ _ => rfl, ?_⟩; go_big_quiet_on)))
      refine seq_done ?_
      clear z1 z2 e2 e3
      have hs6 := ((show SlB w1.drew A l from hs2).below (B := 0) hb3).below (B := 0) hb4
      go_wp2
      by_cases hb : sizeB (l.length : Int) = true
      · have hz := sizeB_is hb
        refine wp_region_seq [(0, false), (1, false), (2, true), (3, false), (4, false), (5, false), (7, false), (8, false), (11, false), (12, false), (6, true), (9, true), (10, false), (13, false), (14, false), (15, false)] Ext (by kernel_rfl) (by kernel_rfl) Ext.refl (fun _ _ _ => Ext.trans) ?_; simp only [List.map, nth_z, nth_s]
        repeat (first | (refine seq_skip (by rfl) ?_; intro K hK; simp only [Act.put, List.setIfInBounds_toArray, List.set_cons_zero, List.set_cons_succ]; refine hK _ ?_; clear hK K) | (refine seq_skipc (by rfl) ?_; intro K hK; simp only [Act.put, List.setIfInBounds_toArray, List.set_cons_zero, List.set_cons_succ]; refine hK _ ?_; clear hK K) | (refine seq_read (by rfl) (by rfl) ?_; intro K hK; go_big_quiet_op; first | go_big_quiet_on | (refine ⟨_, fun _ _ => rfl, ?_⟩; go_big_quiet_on)))
        refine seq_call (rsize2_c (l.length : Int) _) rfl Try.func16 (by kernel_rfl) (by kernel_rfl) (by rfl) (by rfl) ?_; intro K hK; rintro e w' ⟨rfl, rfl⟩; refine ⟨_, rfl, Ext.refl _, ?_⟩; simp only [Act.put, List.setIfInBounds_toArray, List.set_cons_zero, List.set_cons_succ]; refine hK _ _ ?_; clear hK K
        repeat (first | (refine seq_skip (by rfl) ?_; intro K hK; simp only [Act.put, List.setIfInBounds_toArray, List.set_cons_zero, List.set_cons_succ]; refine hK _ ?_; clear hK K) | (refine seq_skipc (by rfl) ?_; intro K hK; simp only [Act.put, List.setIfInBounds_toArray, List.set_cons_zero, List.set_cons_succ]; refine hK _ ?_; clear hK K) | (refine seq_read (by rfl) (by rfl) ?_; intro K hK; go_big_quiet_op; first | go_big_quiet_on | (refine ⟨_, fun _ _ => rfl, ?_⟩; go_big_quiet_on)))
        refine seq_convert _ _ rfl rfl (by rfl) (fun x hx => run_str x A _ c (hs6.below (B := 0) (Ext.of_drew hx))) ?_; intro K hK; simp only [Act.put, List.setIfInBounds_toArray, List.set_cons_zero, List.set_cons_succ]; refine hK _ ?_; clear hK K
        refine seq_call (get_own _ _ _ hl h100 _ hs6) rfl Try.func13 (by kernel_rfl) (by kernel_rfl) (by rfl) (by rfl) ?_; intro K hK; rintro e w' ⟨rfl, rfl⟩; refine ⟨_, rfl, Ext.refl _, ?_⟩; simp only [Act.put, List.setIfInBounds_toArray, List.set_cons_zero, List.set_cons_succ]; refine hK _ _ ?_; clear hK K
        repeat (first | (refine seq_skip (by rfl) ?_; intro K hK; simp only [Act.put, List.setIfInBounds_toArray, List.set_cons_zero, List.set_cons_succ]; refine hK _ ?_; clear hK K) | (refine seq_skipc (by rfl) ?_; intro K hK; simp only [Act.put, List.setIfInBounds_toArray, List.set_cons_zero, List.set_cons_succ]; refine hK _ ?_; clear hK K) | (refine seq_read (by rfl) (by rfl) ?_; intro K hK; go_big_quiet_op; first | go_big_quiet_on | (refine ⟨_, fun _ _ => rfl, ?_⟩; go_big_quiet_on)))
        refine seq_call (put_own l hl hz _) rfl Try.func9 (by kernel_rfl) (by kernel_rfl) (by rfl) (by rfl) ?_; intro K hK; rintro e w' ⟨A2, c2, rfl, hs7, hb7⟩; refine ⟨_, rfl, hb7, ?_⟩; simp only [Act.put, List.setIfInBounds_toArray, List.set_cons_zero, List.set_cons_succ]; refine hK _ _ ?_; clear hK K
        refine seq_convert _ _ rfl rfl (by rfl) (fun x hx => run_str x A2 _ c2 (hs7.below (B := 0) hx)) ?_; intro K hK; simp only [Act.put, List.setIfInBounds_toArray, List.set_cons_zero, List.set_cons_succ]; refine hK _ ?_; clear hK K
        repeat (first | (refine seq_skip (by rfl) ?_; intro K hK; simp only [Act.put, List.setIfInBounds_toArray, List.set_cons_zero, List.set_cons_succ]; refine hK _ ?_; clear hK K) | (refine seq_skipc (by rfl) ?_; intro K hK; simp only [Act.put, List.setIfInBounds_toArray, List.set_cons_zero, List.set_cons_succ]; refine hK _ ?_; clear hK K) | (refine seq_read (by rfl) (by rfl) ?_; intro K hK; go_big_quiet_op; first | go_big_quiet_on | (refine ⟨_, fun _ _ => rfl, ?_⟩; go_big_quiet_on)))
        refine seq_done ?_
        go_wp2
        go_ret
        exact ⟨rfl, Ext.trans hb0 (Ext.trans hbp (Ext.trans hb1 (Ext.trans (Ext.of_drew hb3) (Ext.trans hb4 (Ext.of_drew hb7)))))⟩
      · have hb' : sizeB (l.length : Int) = false := by simpa using hb
        refine wp_region_seq [(0, false), (1, false), (2, true), (3, false), (4, false), (5, false), (7, false), (8, false), (11, false), (12, false), (6, true), (9, true), (10, false), (13, false), (14, false), (15, false)] Ext (by kernel_rfl) (by kernel_rfl) Ext.refl (fun _ _ _ => Ext.trans) ?_; simp only [List.map, nth_z, nth_s]
        repeat (first | (refine seq_skip (by rfl) ?_; intro K hK; simp only [Act.put, List.setIfInBounds_toArray, List.set_cons_zero, List.set_cons_succ]; refine hK _ ?_; clear hK K) | (refine seq_skipc (by rfl) ?_; intro K hK; simp only [Act.put, List.setIfInBounds_toArray, List.set_cons_zero, List.set_cons_succ]; refine hK _ ?_; clear hK K) | (refine seq_read (by rfl) (by rfl) ?_; intro K hK; go_big_quiet_op; first | go_big_quiet_on | (refine ⟨_, fun _ _ => rfl, ?_⟩; go_big_quiet_on)))
        refine seq_call (rsize2_c (l.length : Int) _) rfl Try.func16 (by kernel_rfl) (by kernel_rfl) (by rfl) (by rfl) ?_; intro K hK; rintro e w' ⟨rfl, rfl⟩; refine ⟨_, rfl, Ext.refl _, ?_⟩; simp only [Act.put, List.setIfInBounds_toArray, List.set_cons_zero, List.set_cons_succ]; refine hK _ _ ?_; clear hK K
        repeat (first | (refine seq_skip (by rfl) ?_; intro K hK; simp only [Act.put, List.setIfInBounds_toArray, List.set_cons_zero, List.set_cons_succ]; refine hK _ ?_; clear hK K) | (refine seq_skipc (by rfl) ?_; intro K hK; simp only [Act.put, List.setIfInBounds_toArray, List.set_cons_zero, List.set_cons_succ]; refine hK _ ?_; clear hK K) | (refine seq_read (by rfl) (by rfl) ?_; intro K hK; go_big_quiet_op; first | go_big_quiet_on | (refine ⟨_, fun _ _ => rfl, ?_⟩; go_big_quiet_on)))
        refine seq_done ?_
        go_wp2
        go_ret
        exact ⟨rfl, Ext.drew (Ext.trans hb0 (Ext.trans hbp (Ext.trans hb1 (Ext.trans (Ext.of_drew hb3) hb4))))⟩
  · have hd : decide ((8 : Int) < (l.length : Int)) = true := by simp; omega
    go_enter Try.func4, Try.ntmps4
    go_wp2_with (go_at_call 7; refine (awake2_c _).mono ?_; rintro e wq ⟨rfl, hbq⟩)
    go_ret
    exact ⟨rfl, Ext.trans (by assumption) hbq⟩
end Go.Proofs.Ytbnijcgcicecjaa
