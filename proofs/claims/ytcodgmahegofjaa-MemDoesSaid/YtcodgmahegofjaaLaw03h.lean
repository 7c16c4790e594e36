/- MemDoes: whether a memory is right; of a right one what is loaded, stored, a word. -/
import Derived.Test.YtcodgmahegofjaaLaw03b
namespace Go.Proofs.Ytcodgmahegofjaa
open Go.ChangeShapes Go.WideShapes Go.ChangeAt Go.RowKit
set_option linter.unusedVariables false
set_option linter.unusedSimpArgs false

theorem same_nil (S : Nat) (w : World) : Calls Try.prog 13 #[.agg #[.int .u64 (S : Int), .slice none 0 0], .agg #[.int .u64 (S : Int), .slice none 0 0]] w fun e w' => e = .returned (.bool true) ∧ Ext w w' := by
  have hk := same_c S S none none [] [] 0 0 (by simp) w (RowL.nil w).1 (RowL.nil w).1
  rwa [sameB_yes rfl] at hk
theorem same_r (S : Nat) (A B : Option Addr) (L : List (Nat × Nat)) (c d : Nat) (hn : L.length ≤ 4611686018427387904) (w : World) (h : RowL w A L c) (k : RowL w B L d) :
    Calls Try.prog 13 #[.agg #[.int .u64 (S : Int), .slice A L.length c], .agg #[.int .u64 (S : Int), .slice B L.length d]] w fun e w' => e = .returned (.bool true) ∧ Ext w w' := by
  have hk := same_c S S A B L L c d hn w h.1 k.1
  rwa [sameB_yes rfl] at hk
attribute [local irreducible] storeL loadL wordL clearL

set_option maxRecDepth 100000 in
set_option maxHeartbeats 1000000 in
theorem MemDoes_few (S : Nat) (A : Option Addr) (L : List (Nat × Nat)) (c at' : Nat) (size : Int) (v n : Nat) (hS : S < 18446744073709551616) (hL : IsCells L)
    (a1 : at' < 18446744073709551616) (z0 : -9223372036854775808 ≤ size) (z1 : size ≤ 9223372036854775807) (v1 : v < 18446744073709551616) (n1 : n < 18446744073709551616) (w : World) (hr : RowL w A L c) (h : ¬ L.length ≤ 300) :
    Calls Try.prog 3 #[.agg #[.int .u64 (S : Int), .slice A L.length c], .int .u64 (at' : Int), .int .i64 size, .int .u64 (v : Int), .int .u64 (n : Int)] w fun e w' => e = .returned (.bool true) ∧ Ext w w' := by
  have hfew : decide (L.length ≤ 300) = false := by simpa using h
  go_enter Try.func3, Try.ntmps3
  go_wp2_with fail
  refine (awake3_c _).mono ?_
  rintro e w1 ⟨rfl, hE1⟩
  obtain ⟨hb0, hb1⟩ := box_mem hE1
  have HE := Lib.hid (((Ext.refl w).alloc _).trans hE1)
  clear hE1
  go_wp2_with fail
  refine (few_c S A L c _).mono ?_
  rintro e w2 ⟨rfl, hE⟩
  replace hb0 := ext_cell hE hb0
  replace hb1 := ext_cell hE hb1
  replace HE := Lib.hid (HE.out.trans hE)
  clear hE
  rw [hfew]
  go_wp2_with fail; refine (awake3_c _).mono ?_; rintro e w9 ⟨rfl, hE⟩; replace HE := Lib.hid (HE.out.trans hE); clear hE; go_wp2; go_ret; exact ⟨rfl, HE.out⟩

set_option maxRecDepth 100000 in
set_option maxHeartbeats 1000000 in
theorem MemDoes_ok_wrong (S : Nat) (A : Option Addr) (L : List (Nat × Nat)) (c at' : Nat) (size : Int) (v n : Nat) (hS : S < 18446744073709551616) (hL : IsCells L)
    (a1 : at' < 18446744073709551616) (z0 : -9223372036854775808 ≤ size) (z1 : size ≤ 9223372036854775807) (v1 : v < 18446744073709551616) (n1 : n < 18446744073709551616) (w : World) (hr : RowL w A L c) (h : L.length ≤ 300) (hn : SizeOk n) (hR : decide (RightM S L) = false) :
    Calls Try.prog 3 #[.agg #[.int .u64 (S : Int), .slice A L.length c], .int .u64 (at' : Int), .int .i64 size, .int .u64 (v : Int), .int .u64 (n : Int)] w fun e w' => e = .returned (.bool true) ∧ Ext w w' := by
  have hfew : decide (L.length ≤ 300) = true := by simpa using h
  have hnR : decide (RightM n []) = true := rightM_nil hn
  go_enter Try.func3, Try.ntmps3
  go_wp2_with fail
  refine (awake3_c _).mono ?_
  rintro e w1 ⟨rfl, hE1⟩
  obtain ⟨hb0, hb1⟩ := box_mem hE1
  have HE := Lib.hid (((Ext.refl w).alloc _).trans hE1)
  clear hE1
  go_wp2_with fail
  refine (few_c S A L c _).mono ?_
  rintro e w2 ⟨rfl, hE⟩
  replace hb0 := ext_cell hE hb0
  replace hb1 := ext_cell hE hb1
  replace HE := Lib.hid (HE.out.trans hE)
  clear hE
  rw [hfew]
  go_wp2_with fail
  refine (new_c n n1 _).mono ?_
  rintro e w3 ⟨rfl, hE⟩
  rw [if_pos hn, if_pos hn]
  replace hb0 := ext_cell hE hb0
  replace hb1 := ext_cell hE hb1
  replace HE := Lib.hid (HE.out.trans hE)
  clear hE
  have lm := block_lt_of_cell hb0
  go_wp2_with fail
  refine (rright_c n none [] 0 n1 cells_nil (by simp) _ (RowL.nil _).1).mono ?_
  rintro e w4 ⟨rfl, hE0⟩
  rw [hnR]
  obtain ⟨hx0, hx1⟩ := box_mem hE0
  have hE := ((Ext.refl w3).alloc _).trans hE0
  replace hb0 := ext_cell hE hb0
  replace hb1 := ext_cell hE hb1
  replace HE := Lib.hid (HE.out.trans hE)
  clear hE hE0
  go_wp2_with fail
  refine (same_nil _ _).mono ?_
  rintro e w5 ⟨rfl, hE⟩
  replace hb0 := ext_cell hE hb0
  replace hb1 := ext_cell hE hb1
  replace HE := Lib.hid (HE.out.trans hE)
  clear hE hx0 hx1
  go_wp2_with fail
  have hE := (Ext.refl w5).drew
  replace hb0 := ext_cell hE hb0
  replace hb1 := ext_cell hE hb1
  replace HE := Lib.hid (HE.out.trans hE)
  clear hE
  have hrw := hr.ext HE.out
  refine wp_region_seq [(0, false), (2, false), (1, true), (3, true), (4, false), (5, false), (6, false), (7, true), (8, false), (9, false)] Ext (by kernel_rfl) (by kernel_rfl) Ext.refl (fun _ _ _ => Ext.trans) ?_; simp only [List.map, nth_z, nth_s]
  refine seq_value (.agg #[(.int .u64 (S : Int)), (.slice A L.length c)]) (by rfl) (fun x hx => by have hq0 := ext_cell hx hb0; have hq1 := ext_cell hx hb1; simp [go_sem, execOp, Act.eval, hq0, hq1]) ?_; intro K hK; simp only [Act.put, List.setIfInBounds_toArray, List.set_cons_zero, List.set_cons_succ]; refine hK _ ?_; clear hK K
  refine seq_value (.agg #[(.int .u64 (S : Int)), (.slice A L.length c)]) (by rfl) (fun x hx => by have hq0 := ext_cell hx hb0; have hq1 := ext_cell hx hb1; simp [go_sem, execOp, Act.eval, hq0, hq1]) ?_; intro K hK; simp only [Act.put, List.setIfInBounds_toArray, List.set_cons_zero, List.set_cons_succ]; refine hK _ ?_; clear hK K
  refine seq_call (right_c S A L c hS hL (by omega) _ hrw.1) rfl Try.func14 (by kernel_rfl) (by kernel_rfl) (by rfl) (by rfl) ?_; intro K hK; rintro e w' ⟨rfl, hE⟩; refine ⟨_, rfl, hE, ?_⟩; simp only [Act.put, List.setIfInBounds_toArray, List.set_cons_zero, List.set_cons_succ]; refine hK _ _ ?_; clear hK K
  rw [hR]
  replace hb0 := ext_cell hE hb0
  replace hb1 := ext_cell hE hb1
  replace HE := Lib.hid (HE.out.trans hE)
  replace hrw := hrw.ext hE
  clear hE
  refine seq_call (rright_c S A L c hS hL (by omega) _ hrw.1) rfl Try.func12 (by kernel_rfl) (by kernel_rfl) (by rfl) (by rfl) ?_; intro K hK; rintro e w' ⟨rfl, hE⟩; refine ⟨_, rfl, hE, ?_⟩; simp only [Act.put, List.setIfInBounds_toArray, List.set_cons_zero, List.set_cons_succ]; refine hK _ _ ?_; clear hK K
  rw [hR]
  replace hb0 := ext_cell hE hb0
  replace hb1 := ext_cell hE hb1
  replace HE := Lib.hid (HE.out.trans hE)
  replace hrw := hrw.ext hE
  clear hE
  (repeat (first | (refine seq_skip (by rfl) ?_; intro K hK; simp only [Act.put, List.setIfInBounds_toArray, List.set_cons_zero, List.set_cons_succ]; refine hK _ ?_; clear hK K) | (refine seq_skipc (by rfl) ?_; intro K hK; simp only [Act.put, List.setIfInBounds_toArray, List.set_cons_zero, List.set_cons_succ]; refine hK _ ?_; clear hK K) | (refine seq_read (by rfl) (by rfl) ?_; intro K hK; go_big_quiet_op; first | go_big_quiet_on | (refine ⟨_, fun _ _ => rfl, ?_⟩; go_big_quiet_on))))
  refine seq_value (.agg #[(.int .u64 (S : Int)), (.slice A L.length c)]) (by rfl) (fun x hx => by have hq0 := ext_cell hx hb0; have hq1 := ext_cell hx hb1; simp [go_sem, execOp, Act.eval, hq0, hq1]) ?_; intro K hK; simp only [Act.put, List.setIfInBounds_toArray, List.set_cons_zero, List.set_cons_succ]; refine hK _ ?_; clear hK K
  refine seq_call (rright_c S A L c hS hL (by omega) _ hrw.1) rfl Try.func12 (by kernel_rfl) (by kernel_rfl) (by rfl) (by rfl) ?_; intro K hK; rintro e w' ⟨rfl, hE⟩; refine ⟨_, rfl, hE, ?_⟩; simp only [Act.put, List.setIfInBounds_toArray, List.set_cons_zero, List.set_cons_succ]; refine hK _ _ ?_; clear hK K
  rw [hR]
  replace hb0 := ext_cell hE hb0
  replace hb1 := ext_cell hE hb1
  replace HE := Lib.hid (HE.out.trans hE)
  replace hrw := hrw.ext hE
  clear hE
  (repeat (first | (refine seq_skip (by rfl) ?_; intro K hK; simp only [Act.put, List.setIfInBounds_toArray, List.set_cons_zero, List.set_cons_succ]; refine hK _ ?_; clear hK K) | (refine seq_skipc (by rfl) ?_; intro K hK; simp only [Act.put, List.setIfInBounds_toArray, List.set_cons_zero, List.set_cons_succ]; refine hK _ ?_; clear hK K) | (refine seq_read (by rfl) (by rfl) ?_; intro K hK; go_big_quiet_op; first | go_big_quiet_on | (refine ⟨_, fun _ _ => rfl, ?_⟩; go_big_quiet_on))))
  refine seq_done ?_
  go_wp2_with fail
  have hE := (Ext.refl w').drew
  replace hb0 := ext_cell hE hb0
  replace hb1 := ext_cell hE hb1
  replace HE := Lib.hid (HE.out.trans hE)
  replace hrw := hrw.ext hE
  clear hE
  refine wp_region_seq [(0, false), (2, false), (1, true), (3, true), (4, false), (5, false)] Ext (by kernel_rfl) (by kernel_rfl) Ext.refl (fun _ _ _ => Ext.trans) ?_; simp only [List.map, nth_z, nth_s]
  refine seq_value (.agg #[(.int .u64 (S : Int)), (.slice A L.length c)]) (by rfl) (fun x hx => by have hq0 := ext_cell hx hb0; have hq1 := ext_cell hx hb1; simp [go_sem, execOp, Act.eval, hq0, hq1]) ?_; intro K hK; simp only [Act.put, List.setIfInBounds_toArray, List.set_cons_zero, List.set_cons_succ]; refine hK _ ?_; clear hK K
  refine seq_value (.agg #[(.int .u64 (S : Int)), (.slice A L.length c)]) (by rfl) (fun x hx => by have hq0 := ext_cell hx hb0; have hq1 := ext_cell hx hb1; simp [go_sem, execOp, Act.eval, hq0, hq1]) ?_; intro K hK; simp only [Act.put, List.setIfInBounds_toArray, List.set_cons_zero, List.set_cons_succ]; refine hK _ ?_; clear hK K
  refine seq_call (right_c S A L c hS hL (by omega) _ hrw.1) rfl Try.func14 (by kernel_rfl) (by kernel_rfl) (by rfl) (by rfl) ?_; intro K hK; rintro e w' ⟨rfl, hE⟩; refine ⟨_, rfl, hE, ?_⟩; simp only [Act.put, List.setIfInBounds_toArray, List.set_cons_zero, List.set_cons_succ]; refine hK _ _ ?_; clear hK K
  rw [hR]
  replace HE := Lib.hid (HE.out.trans hE)
  replace hrw := hrw.ext hE
  clear hE
  refine seq_call (rright_c S A L c hS hL (by omega) _ hrw.1) rfl Try.func12 (by kernel_rfl) (by kernel_rfl) (by rfl) (by rfl) ?_; intro K hK; rintro e w' ⟨rfl, hE⟩; refine ⟨_, rfl, hE, ?_⟩; simp only [Act.put, List.setIfInBounds_toArray, List.set_cons_zero, List.set_cons_succ]; refine hK _ _ ?_; clear hK K
  rw [hR]
  replace HE := Lib.hid (HE.out.trans hE)
  replace hrw := hrw.ext hE
  clear hE
  (repeat (first | (refine seq_skip (by rfl) ?_; intro K hK; simp only [Act.put, List.setIfInBounds_toArray, List.set_cons_zero, List.set_cons_succ]; refine hK _ ?_; clear hK K) | (refine seq_skipc (by rfl) ?_; intro K hK; simp only [Act.put, List.setIfInBounds_toArray, List.set_cons_zero, List.set_cons_succ]; refine hK _ ?_; clear hK K) | (refine seq_read (by rfl) (by rfl) ?_; intro K hK; go_big_quiet_op; first | go_big_quiet_on | (refine ⟨_, fun _ _ => rfl, ?_⟩; go_big_quiet_on))))
  refine seq_done ?_
  go_wp2
  go_ret
  exact ⟨rfl, HE.out⟩

set_option maxRecDepth 100000 in
set_option maxHeartbeats 1000000 in
theorem MemDoes_ok_st (S : Nat) (A : Option Addr) (L : List (Nat × Nat)) (c at' : Nat) (size : Int) (v n : Nat) (hS : S < 18446744073709551616) (hL : IsCells L)
    (a1 : at' < 18446744073709551616) (z0 : -9223372036854775808 ≤ size) (z1 : size ≤ 9223372036854775807) (v1 : v < 18446744073709551616) (n1 : n < 18446744073709551616) (w : World) (hr : RowL w A L c) (h : L.length ≤ 300) (hn : SizeOk n) (hR : decide (RightM S L) = true) (he : errN size at' S = 0) :
    Calls Try.prog 3 #[.agg #[.int .u64 (S : Int), .slice A L.length c], .int .u64 (at' : Int), .int .i64 size, .int .u64 (v : Int), .int .u64 (n : Int)] w fun e w' => e = .returned (.bool true) ∧ Ext w w' := by
  have hfew : decide (L.length ≤ 300) = true := by simpa using h
  have hnR : decide (RightM n []) = true := rightM_nil hn
  have hRM : RightM S L := of_decide_eq_true hR
  have hrl := hRM.rl hL
  have hok : SizeOk S := by have := hRM; unfold RightM at this; exact this.1
  have hm8 := hok.mod8
  have hS2 := hok.le
  clear hok hRM
  obtain ⟨s, rfl, hz, q1, q2⟩ : ∃ s : Nat, size = s ∧ IsSize s ∧ at' % s = 0 ∧ at' < S := by
    rcases errN_ways size at' S with ⟨_, h⟩ | ⟨s, rfl, hz, ⟨_, h⟩ | ⟨_, _, h⟩ | ⟨h2, h3, h⟩⟩
    · omega
    · omega
    · omega
    · exact ⟨s, rfl, hz, h2, h3⟩
  have He := Lib.hid he
  clear he
  go_enter Try.func3, Try.ntmps3
  go_wp2_with fail
  refine (awake3_c _).mono ?_
  rintro e w1 ⟨rfl, hE1⟩
  obtain ⟨hb0, hb1⟩ := box_mem hE1
  have HE := Lib.hid (((Ext.refl w).alloc _).trans hE1)
  clear hE1
  go_wp2_with fail
  refine (few_c S A L c _).mono ?_
  rintro e w2 ⟨rfl, hE⟩
  replace hb0 := ext_cell hE hb0
  replace hb1 := ext_cell hE hb1
  replace HE := Lib.hid (HE.out.trans hE)
  clear hE
  rw [hfew]
  go_wp2_with fail
  refine (new_c n n1 _).mono ?_
  rintro e w3 ⟨rfl, hE⟩
  rw [if_pos hn, if_pos hn]
  replace hb0 := ext_cell hE hb0
  replace hb1 := ext_cell hE hb1
  replace HE := Lib.hid (HE.out.trans hE)
  clear hE
  have lm := block_lt_of_cell hb0
  go_wp2_with fail
  refine (rright_c n none [] 0 n1 cells_nil (by simp) _ (RowL.nil _).1).mono ?_
  rintro e w4 ⟨rfl, hE0⟩
  rw [hnR]
  obtain ⟨hx0, hx1⟩ := box_mem hE0
  have hE := ((Ext.refl w3).alloc _).trans hE0
  replace hb0 := ext_cell hE hb0
  replace hb1 := ext_cell hE hb1
  replace HE := Lib.hid (HE.out.trans hE)
  clear hE hE0
  go_wp2_with fail
  refine (same_nil _ _).mono ?_
  rintro e w5 ⟨rfl, hE⟩
  replace hb0 := ext_cell hE hb0
  replace hb1 := ext_cell hE hb1
  replace HE := Lib.hid (HE.out.trans hE)
  clear hE hx0 hx1
  go_wp2_with fail
  have hE := (Ext.refl w5).drew
  replace hb0 := ext_cell hE hb0
  replace hb1 := ext_cell hE hb1
  replace HE := Lib.hid (HE.out.trans hE)
  clear hE
  have hrw := hr.ext HE.out
  refine wp_region_seq [(0, false), (2, false), (1, true), (3, true), (4, false), (5, false), (6, false), (7, true), (8, false), (9, false)] Ext (by kernel_rfl) (by kernel_rfl) Ext.refl (fun _ _ _ => Ext.trans) ?_; simp only [List.map, nth_z, nth_s]
  refine seq_value (.agg #[(.int .u64 (S : Int)), (.slice A L.length c)]) (by rfl) (fun x hx => by have hq0 := ext_cell hx hb0; have hq1 := ext_cell hx hb1; simp [go_sem, execOp, Act.eval, hq0, hq1]) ?_; intro K hK; simp only [Act.put, List.setIfInBounds_toArray, List.set_cons_zero, List.set_cons_succ]; refine hK _ ?_; clear hK K
  refine seq_value (.agg #[(.int .u64 (S : Int)), (.slice A L.length c)]) (by rfl) (fun x hx => by have hq0 := ext_cell hx hb0; have hq1 := ext_cell hx hb1; simp [go_sem, execOp, Act.eval, hq0, hq1]) ?_; intro K hK; simp only [Act.put, List.setIfInBounds_toArray, List.set_cons_zero, List.set_cons_succ]; refine hK _ ?_; clear hK K
  refine seq_call (right_c S A L c hS hL (by omega) _ hrw.1) rfl Try.func14 (by kernel_rfl) (by kernel_rfl) (by rfl) (by rfl) ?_; intro K hK; rintro e w' ⟨rfl, hE⟩; refine ⟨_, rfl, hE, ?_⟩; simp only [Act.put, List.setIfInBounds_toArray, List.set_cons_zero, List.set_cons_succ]; refine hK _ _ ?_; clear hK K
  rw [hR]
  replace hb0 := ext_cell hE hb0
  replace hb1 := ext_cell hE hb1
  replace HE := Lib.hid (HE.out.trans hE)
  replace hrw := hrw.ext hE
  clear hE
  refine seq_call (rright_c S A L c hS hL (by omega) _ hrw.1) rfl Try.func12 (by kernel_rfl) (by kernel_rfl) (by rfl) (by rfl) ?_; intro K hK; rintro e w' ⟨rfl, hE⟩; refine ⟨_, rfl, hE, ?_⟩; simp only [Act.put, List.setIfInBounds_toArray, List.set_cons_zero, List.set_cons_succ]; refine hK _ _ ?_; clear hK K
  rw [hR]
  replace hb0 := ext_cell hE hb0
  replace hb1 := ext_cell hE hb1
  replace HE := Lib.hid (HE.out.trans hE)
  replace hrw := hrw.ext hE
  clear hE
  (repeat (first | (refine seq_skip (by rfl) ?_; intro K hK; simp only [Act.put, List.setIfInBounds_toArray, List.set_cons_zero, List.set_cons_succ]; refine hK _ ?_; clear hK K) | (refine seq_skipc (by rfl) ?_; intro K hK; simp only [Act.put, List.setIfInBounds_toArray, List.set_cons_zero, List.set_cons_succ]; refine hK _ ?_; clear hK K) | (refine seq_read (by rfl) (by rfl) ?_; intro K hK; go_big_quiet_op; first | go_big_quiet_on | (refine ⟨_, fun _ _ => rfl, ?_⟩; go_big_quiet_on))))
  refine seq_value (.agg #[(.int .u64 (S : Int)), (.slice A L.length c)]) (by rfl) (fun x hx => by have hq0 := ext_cell hx hb0; have hq1 := ext_cell hx hb1; simp [go_sem, execOp, Act.eval, hq0, hq1]) ?_; intro K hK; simp only [Act.put, List.setIfInBounds_toArray, List.set_cons_zero, List.set_cons_succ]; refine hK _ ?_; clear hK K
  refine seq_call (rright_c S A L c hS hL (by omega) _ hrw.1) rfl Try.func12 (by kernel_rfl) (by kernel_rfl) (by rfl) (by rfl) ?_; intro K hK; rintro e w' ⟨rfl, hE⟩; refine ⟨_, rfl, hE, ?_⟩; simp only [Act.put, List.setIfInBounds_toArray, List.set_cons_zero, List.set_cons_succ]; refine hK _ _ ?_; clear hK K
  rw [hR]
  replace hb0 := ext_cell hE hb0
  replace hb1 := ext_cell hE hb1
  replace HE := Lib.hid (HE.out.trans hE)
  replace hrw := hrw.ext hE
  clear hE
  (repeat (first | (refine seq_skip (by rfl) ?_; intro K hK; simp only [Act.put, List.setIfInBounds_toArray, List.set_cons_zero, List.set_cons_succ]; refine hK _ ?_; clear hK K) | (refine seq_skipc (by rfl) ?_; intro K hK; simp only [Act.put, List.setIfInBounds_toArray, List.set_cons_zero, List.set_cons_succ]; refine hK _ ?_; clear hK K) | (refine seq_read (by rfl) (by rfl) ?_; intro K hK; go_big_quiet_op; first | go_big_quiet_on | (refine ⟨_, fun _ _ => rfl, ?_⟩; go_big_quiet_on))))
  refine seq_done ?_
  go_wp2_with fail
  refine (load_c S A L c at' (S / 8) s a1 hrl (by omega) _ hrw.1).mono ?_
  rintro e w9 ⟨rfl, hE⟩
  replace hb0 := ext_cell hE hb0
  replace hb1 := ext_cell hE hb1
  replace HE := Lib.hid (HE.out.trans hE)
  replace hrw := hrw.ext hE
  clear hE
  go_wp2_with fail
  refine (rload_c S A L c at' s a1 hrl hm8 hS2 (by omega) _ hrw.1).mono ?_
  rintro e w10 ⟨rfl, hE⟩
  replace hb0 := ext_cell hE hb0
  replace hb1 := ext_cell hE hb1
  replace HE := Lib.hid (HE.out.trans hE)
  replace hrw := hrw.ext hE
  clear hE
  go_wp2_with fail
  refine (store_c S A L c at' s v (S / 8) hrl a1 v1 hz q1 q2 (by omega) _ hrw).mono ?_
  rintro e w11 ⟨u, rfl, hown, hE⟩
  obtain ⟨A1, c1, rfl, hrA⟩ := own_row hown
  clear hown
  replace hb0 := ext_cell hE hb0
  replace hb1 := ext_cell hE hb1
  replace HE := Lib.hid (HE.out.trans hE)
  replace hrw := hrw.ext hE
  clear hE
  replace lm := block_lt_of_cell hb0
  go_wp2_with fail
  refine (rstore_c S A L c at' s v hrl hm8 a1 v1 hz q1 q2 (by omega) _ (hrw.ext ((Ext.refl w11).alloc _))).mono ?_
  rintro e w12 ⟨u2, rfl, hown, hE0⟩
  obtain ⟨A2, c2, rfl, hrB⟩ := own_row hown
  clear hown
  obtain ⟨ha0, ha1⟩ := box_mem hE0
  have hE := ((Ext.refl w11).alloc _).trans hE0
  replace hb0 := ext_cell hE hb0
  replace hb1 := ext_cell hE hb1
  replace HE := Lib.hid (HE.out.trans hE)
  replace hrw := hrw.ext hE
  replace hrA := hrA.ext hE
  clear hE hE0
  replace lm := block_lt_of_cell hb0
  have la := block_lt_of_cell ha0
  go_wp2_with fail
  have hE := ((Ext.refl w12).alloc (.cells #[.int .u64 (S : Int), (.slice A2 (storeL L at' s v).length c2)] 25)).drew
  have hbb0 : (w12.alloc (.cells #[.int .u64 (S : Int), (.slice A2 (storeL L at' s v).length c2)] 25)).drew.cell? ⟨w12.heap.size, 0, none⟩ = some (.int .u64 (S : Int)) := (cell_of_row _ _ 0 _ _ _ (heap_alloc_new w12 _)).trans rfl
  have hbb1 : (w12.alloc (.cells #[.int .u64 (S : Int), (.slice A2 (storeL L at' s v).length c2)] 25)).drew.cell? ⟨w12.heap.size, 1, none⟩ = some (.slice A2 (storeL L at' s v).length c2) := (cell_of_row _ _ 1 _ _ _ (heap_alloc_new w12 _)).trans rfl
  replace hb0 := ext_cell hE hb0
  replace hb1 := ext_cell hE hb1
  replace ha0 := ext_cell hE ha0
  replace ha1 := ext_cell hE ha1
  replace HE := Lib.hid (HE.out.trans hE)
  replace hrw := hrw.ext hE
  replace hrA := hrA.ext hE
  replace hrB := hrB.ext hE
  clear hE
  refine wp_region_seq [(0, false), (1, false), (2, false), (3, false), (4, false), (5, false), (6, false), (7, false), (8, false), (9, false), (10, false), (11, true), (12, false), (13, false), (14, false), (15, false), (16, false), (17, false), (18, false), (19, false), (20, false), (22, false), (23, false), (21, true), (24, true), (25, false), (26, false), (27, false)] Ext (by kernel_rfl) (by kernel_rfl) Ext.refl (fun _ _ _ => Ext.trans) ?_; simp only [List.map, nth_z, nth_s]
  (repeat (first | (refine seq_skip (by rfl) ?_; intro K hK; simp only [Act.put, List.setIfInBounds_toArray, List.set_cons_zero, List.set_cons_succ]; refine hK _ ?_; clear hK K) | (refine seq_skipc (by rfl) ?_; intro K hK; simp only [Act.put, List.setIfInBounds_toArray, List.set_cons_zero, List.set_cons_succ]; refine hK _ ?_; clear hK K) | (refine seq_read (by rfl) (by rfl) ?_; intro K hK; go_big_quiet_op; first | go_big_quiet_on | (refine ⟨_, fun _ _ => rfl, ?_⟩; go_big_quiet_on))))
  refine seq_value (.agg #[(.int .u64 (S : Int)), (.slice A1 (storeL L at' s v).length c1)]) (by rfl) (fun x hx => by have hq0 := ext_cell hx ha0; have hq1 := ext_cell hx ha1; simp [go_sem, execOp, Act.eval, hq0, hq1]) ?_; intro K hK; simp only [Act.put, List.setIfInBounds_toArray, List.set_cons_zero, List.set_cons_succ]; refine hK _ ?_; clear hK K
  refine seq_value (.agg #[(.int .u64 (S : Int)), (.slice A2 (storeL L at' s v).length c2)]) (by rfl) (fun x hx => by have hq0 := ext_cell hx hbb0; have hq1 := ext_cell hx hbb1; simp [go_sem, execOp, Act.eval, hq0, hq1]) ?_; intro K hK; simp only [Act.put, List.setIfInBounds_toArray, List.set_cons_zero, List.set_cons_succ]; refine hK _ ?_; clear hK K
  refine seq_call (same_r S A1 A2 (storeL L at' s v) c1 c2 (by have := storeL_len L at' s v; omega) _ hrA hrB) rfl Try.func13 (by kernel_rfl) (by kernel_rfl) (by rfl) (by rfl) ?_; intro K hK; rintro e w' ⟨rfl, hE⟩; refine ⟨_, rfl, hE, ?_⟩; simp only [Act.put, List.setIfInBounds_toArray, List.set_cons_zero, List.set_cons_succ]; refine hK _ _ ?_; clear hK K
  replace hb0 := ext_cell hE hb0
  replace hb1 := ext_cell hE hb1
  replace HE := Lib.hid (HE.out.trans hE)
  replace hrw := hrw.ext hE
  clear hE
  (repeat (first | (refine seq_skip (by rfl) ?_; intro K hK; simp only [Act.put, List.setIfInBounds_toArray, List.set_cons_zero, List.set_cons_succ]; refine hK _ ?_; clear hK K) | (refine seq_skipc (by rfl) ?_; intro K hK; simp only [Act.put, List.setIfInBounds_toArray, List.set_cons_zero, List.set_cons_succ]; refine hK _ ?_; clear hK K) | (refine seq_read (by rfl) (by rfl) ?_; intro K hK; go_big_quiet_op; first | go_big_quiet_on | (refine ⟨_, fun _ _ => rfl, ?_⟩; go_big_quiet_on))))
  refine seq_value (.agg #[(.int .u64 (S : Int)), (.slice A L.length c)]) (by rfl) (fun x hx => by have hq0 := ext_cell hx hb0; have hq1 := ext_cell hx hb1; simp [go_sem, execOp, Act.eval, hq0, hq1]) ?_; intro K hK; simp only [Act.put, List.setIfInBounds_toArray, List.set_cons_zero, List.set_cons_succ]; refine hK _ ?_; clear hK K
  (repeat (first | (refine seq_skip (by rfl) ?_; intro K hK; simp only [Act.put, List.setIfInBounds_toArray, List.set_cons_zero, List.set_cons_succ]; refine hK _ ?_; clear hK K) | (refine seq_skipc (by rfl) ?_; intro K hK; simp only [Act.put, List.setIfInBounds_toArray, List.set_cons_zero, List.set_cons_succ]; refine hK _ ?_; clear hK K) | (refine seq_read (by rfl) (by rfl) ?_; intro K hK; go_big_quiet_op; first | go_big_quiet_on | (refine ⟨_, fun _ _ => rfl, ?_⟩; go_big_quiet_on))))
  refine seq_value (.agg #[(.int .u64 (S : Int)), (.slice A L.length c)]) (by rfl) (fun x hx => by have hq0 := ext_cell hx hb0; have hq1 := ext_cell hx hb1; simp [go_sem, execOp, Act.eval, hq0, hq1]) ?_; intro K hK; simp only [Act.put, List.setIfInBounds_toArray, List.set_cons_zero, List.set_cons_succ]; refine hK _ ?_; clear hK K
  (repeat (first | (refine seq_skip (by rfl) ?_; intro K hK; simp only [Act.put, List.setIfInBounds_toArray, List.set_cons_zero, List.set_cons_succ]; refine hK _ ?_; clear hK K) | (refine seq_skipc (by rfl) ?_; intro K hK; simp only [Act.put, List.setIfInBounds_toArray, List.set_cons_zero, List.set_cons_succ]; refine hK _ ?_; clear hK K) | (refine seq_read (by rfl) (by rfl) ?_; intro K hK; go_big_quiet_op; first | go_big_quiet_on | (refine ⟨_, fun _ _ => rfl, ?_⟩; go_big_quiet_on))))
  refine seq_call (word_c S A L c at' (S / 8) a1 hrl (by omega) _ hrw.1) rfl Try.func19 (by kernel_rfl) (by kernel_rfl) (by rfl) (by rfl) ?_; intro K hK; rintro e w' ⟨rfl, hE⟩; refine ⟨_, rfl, hE, ?_⟩; simp only [Act.put, List.setIfInBounds_toArray, List.set_cons_zero, List.set_cons_succ]; refine hK _ _ ?_; clear hK K
  replace HE := Lib.hid (HE.out.trans hE)
  replace hrw := hrw.ext hE
  clear hE
  refine seq_call (rword_c S A L c at' a1 hrl hm8 (by omega) _ hrw.1) rfl Try.func20 (by kernel_rfl) (by kernel_rfl) (by rfl) (by rfl) ?_; intro K hK; rintro e w' ⟨rfl, hE⟩; refine ⟨_, rfl, hE, ?_⟩; simp only [Act.put, List.setIfInBounds_toArray, List.set_cons_zero, List.set_cons_succ]; refine hK _ _ ?_; clear hK K
  replace HE := Lib.hid (HE.out.trans hE)
  clear hE
  (repeat (first | (refine seq_skip (by rfl) ?_; intro K hK; simp only [Act.put, List.setIfInBounds_toArray, List.set_cons_zero, List.set_cons_succ]; refine hK _ ?_; clear hK K) | (refine seq_skipc (by rfl) ?_; intro K hK; simp only [Act.put, List.setIfInBounds_toArray, List.set_cons_zero, List.set_cons_succ]; refine hK _ ?_; clear hK K) | (refine seq_read (by rfl) (by rfl) ?_; intro K hK; go_big_quiet_op; first | go_big_quiet_on | (refine ⟨_, fun _ _ => rfl, ?_⟩; go_big_quiet_on))))
  refine seq_done ?_
  go_wp2
  go_ret
  exact ⟨rfl, HE.out⟩

set_option maxRecDepth 100000 in
set_option maxHeartbeats 1000000 in
theorem MemDoes_ok_er (S : Nat) (A : Option Addr) (L : List (Nat × Nat)) (c at' : Nat) (size : Int) (v n : Nat) (hS : S < 18446744073709551616) (hL : IsCells L)
    (a1 : at' < 18446744073709551616) (z0 : -9223372036854775808 ≤ size) (z1 : size ≤ 9223372036854775807) (v1 : v < 18446744073709551616) (n1 : n < 18446744073709551616) (w : World) (hr : RowL w A L c) (h : L.length ≤ 300) (hn : SizeOk n) (hR : decide (RightM S L) = true) (he : errN size at' S ≠ 0) :
    Calls Try.prog 3 #[.agg #[.int .u64 (S : Int), .slice A L.length c], .int .u64 (at' : Int), .int .i64 size, .int .u64 (v : Int), .int .u64 (n : Int)] w fun e w' => e = .returned (.bool true) ∧ Ext w w' := by
  have hfew : decide (L.length ≤ 300) = true := by simpa using h
  have hnR : decide (RightM n []) = true := rightM_nil hn
  have hRM : RightM S L := of_decide_eq_true hR
  have hrl := hRM.rl hL
  have hok : SizeOk S := by have := hRM; unfold RightM at this; exact this.1
  have hm8 := hok.mod8
  have hS2 := hok.le
  clear hok hRM
  go_enter Try.func3, Try.ntmps3
  go_wp2_with fail
  refine (awake3_c _).mono ?_
  rintro e w1 ⟨rfl, hE1⟩
  obtain ⟨hb0, hb1⟩ := box_mem hE1
  have HE := Lib.hid (((Ext.refl w).alloc _).trans hE1)
  clear hE1
  go_wp2_with fail
  refine (few_c S A L c _).mono ?_
  rintro e w2 ⟨rfl, hE⟩
  replace hb0 := ext_cell hE hb0
  replace hb1 := ext_cell hE hb1
  replace HE := Lib.hid (HE.out.trans hE)
  clear hE
  rw [hfew]
  go_wp2_with fail
  refine (new_c n n1 _).mono ?_
  rintro e w3 ⟨rfl, hE⟩
  rw [if_pos hn, if_pos hn]
  replace hb0 := ext_cell hE hb0
  replace hb1 := ext_cell hE hb1
  replace HE := Lib.hid (HE.out.trans hE)
  clear hE
  have lm := block_lt_of_cell hb0
  go_wp2_with fail
  refine (rright_c n none [] 0 n1 cells_nil (by simp) _ (RowL.nil _).1).mono ?_
  rintro e w4 ⟨rfl, hE0⟩
  rw [hnR]
  obtain ⟨hx0, hx1⟩ := box_mem hE0
  have hE := ((Ext.refl w3).alloc _).trans hE0
  replace hb0 := ext_cell hE hb0
  replace hb1 := ext_cell hE hb1
  replace HE := Lib.hid (HE.out.trans hE)
  clear hE hE0
  go_wp2_with fail
  refine (same_nil _ _).mono ?_
  rintro e w5 ⟨rfl, hE⟩
  replace hb0 := ext_cell hE hb0
  replace hb1 := ext_cell hE hb1
  replace HE := Lib.hid (HE.out.trans hE)
  clear hE hx0 hx1
  go_wp2_with fail
  have hE := (Ext.refl w5).drew
  replace hb0 := ext_cell hE hb0
  replace hb1 := ext_cell hE hb1
  replace HE := Lib.hid (HE.out.trans hE)
  clear hE
  have hrw := hr.ext HE.out
  refine wp_region_seq [(0, false), (2, false), (1, true), (3, true), (4, false), (5, false), (6, false), (7, true), (8, false), (9, false)] Ext (by kernel_rfl) (by kernel_rfl) Ext.refl (fun _ _ _ => Ext.trans) ?_; simp only [List.map, nth_z, nth_s]
  refine seq_value (.agg #[(.int .u64 (S : Int)), (.slice A L.length c)]) (by rfl) (fun x hx => by have hq0 := ext_cell hx hb0; have hq1 := ext_cell hx hb1; simp [go_sem, execOp, Act.eval, hq0, hq1]) ?_; intro K hK; simp only [Act.put, List.setIfInBounds_toArray, List.set_cons_zero, List.set_cons_succ]; refine hK _ ?_; clear hK K
  refine seq_value (.agg #[(.int .u64 (S : Int)), (.slice A L.length c)]) (by rfl) (fun x hx => by have hq0 := ext_cell hx hb0; have hq1 := ext_cell hx hb1; simp [go_sem, execOp, Act.eval, hq0, hq1]) ?_; intro K hK; simp only [Act.put, List.setIfInBounds_toArray, List.set_cons_zero, List.set_cons_succ]; refine hK _ ?_; clear hK K
  refine seq_call (right_c S A L c hS hL (by omega) _ hrw.1) rfl Try.func14 (by kernel_rfl) (by kernel_rfl) (by rfl) (by rfl) ?_; intro K hK; rintro e w' ⟨rfl, hE⟩; refine ⟨_, rfl, hE, ?_⟩; simp only [Act.put, List.setIfInBounds_toArray, List.set_cons_zero, List.set_cons_succ]; refine hK _ _ ?_; clear hK K
  rw [hR]
  replace hb0 := ext_cell hE hb0
  replace hb1 := ext_cell hE hb1
  replace HE := Lib.hid (HE.out.trans hE)
  replace hrw := hrw.ext hE
  clear hE
  refine seq_call (rright_c S A L c hS hL (by omega) _ hrw.1) rfl Try.func12 (by kernel_rfl) (by kernel_rfl) (by rfl) (by rfl) ?_; intro K hK; rintro e w' ⟨rfl, hE⟩; refine ⟨_, rfl, hE, ?_⟩; simp only [Act.put, List.setIfInBounds_toArray, List.set_cons_zero, List.set_cons_succ]; refine hK _ _ ?_; clear hK K
  rw [hR]
  replace hb0 := ext_cell hE hb0
  replace hb1 := ext_cell hE hb1
  replace HE := Lib.hid (HE.out.trans hE)
  replace hrw := hrw.ext hE
  clear hE
  (repeat (first | (refine seq_skip (by rfl) ?_; intro K hK; simp only [Act.put, List.setIfInBounds_toArray, List.set_cons_zero, List.set_cons_succ]; refine hK _ ?_; clear hK K) | (refine seq_skipc (by rfl) ?_; intro K hK; simp only [Act.put, List.setIfInBounds_toArray, List.set_cons_zero, List.set_cons_succ]; refine hK _ ?_; clear hK K) | (refine seq_read (by rfl) (by rfl) ?_; intro K hK; go_big_quiet_op; first | go_big_quiet_on | (refine ⟨_, fun _ _ => rfl, ?_⟩; go_big_quiet_on))))
  refine seq_value (.agg #[(.int .u64 (S : Int)), (.slice A L.length c)]) (by rfl) (fun x hx => by have hq0 := ext_cell hx hb0; have hq1 := ext_cell hx hb1; simp [go_sem, execOp, Act.eval, hq0, hq1]) ?_; intro K hK; simp only [Act.put, List.setIfInBounds_toArray, List.set_cons_zero, List.set_cons_succ]; refine hK _ ?_; clear hK K
  refine seq_call (rright_c S A L c hS hL (by omega) _ hrw.1) rfl Try.func12 (by kernel_rfl) (by kernel_rfl) (by rfl) (by rfl) ?_; intro K hK; rintro e w' ⟨rfl, hE⟩; refine ⟨_, rfl, hE, ?_⟩; simp only [Act.put, List.setIfInBounds_toArray, List.set_cons_zero, List.set_cons_succ]; refine hK _ _ ?_; clear hK K
  rw [hR]
  replace hb0 := ext_cell hE hb0
  replace hb1 := ext_cell hE hb1
  replace HE := Lib.hid (HE.out.trans hE)
  replace hrw := hrw.ext hE
  clear hE
  (repeat (first | (refine seq_skip (by rfl) ?_; intro K hK; simp only [Act.put, List.setIfInBounds_toArray, List.set_cons_zero, List.set_cons_succ]; refine hK _ ?_; clear hK K) | (refine seq_skipc (by rfl) ?_; intro K hK; simp only [Act.put, List.setIfInBounds_toArray, List.set_cons_zero, List.set_cons_succ]; refine hK _ ?_; clear hK K) | (refine seq_read (by rfl) (by rfl) ?_; intro K hK; go_big_quiet_op; first | go_big_quiet_on | (refine ⟨_, fun _ _ => rfl, ?_⟩; go_big_quiet_on))))
  refine seq_done ?_
  go_wp2_with fail
  refine (load_c S A L c at' (S / 8) size a1 hrl (by omega) _ hrw.1).mono ?_
  rintro e w9 ⟨rfl, hE⟩
  replace hb0 := ext_cell hE hb0
  replace hb1 := ext_cell hE hb1
  replace HE := Lib.hid (HE.out.trans hE)
  replace hrw := hrw.ext hE
  clear hE
  go_wp2_with fail
  refine (rload_c S A L c at' size a1 hrl hm8 hS2 (by omega) _ hrw.1).mono ?_
  rintro e w10 ⟨rfl, hE⟩
  replace hb0 := ext_cell hE hb0
  replace hb1 := ext_cell hE hb1
  replace HE := Lib.hid (HE.out.trans hE)
  replace hrw := hrw.ext hE
  clear hE
  go_wp2_with fail
  refine (store_no S A L c at' v size a1 he _).mono ?_
  rintro e w11 ⟨rfl, hE⟩
  replace hb0 := ext_cell hE hb0
  replace hb1 := ext_cell hE hb1
  replace HE := Lib.hid (HE.out.trans hE)
  replace hrw := hrw.ext hE
  clear hE
  replace lm := block_lt_of_cell hb0
  go_wp2_with fail
  refine (rstore_no S A L c at' v size a1 he _).mono ?_
  rintro e w12 ⟨rfl, hE0⟩
  obtain ⟨ha0, ha1⟩ := box_mem hE0
  have hE := ((Ext.refl w11).alloc _).trans hE0
  replace hb0 := ext_cell hE hb0
  replace hb1 := ext_cell hE hb1
  replace HE := Lib.hid (HE.out.trans hE)
  replace hrw := hrw.ext hE
  clear hE hE0
  replace lm := block_lt_of_cell hb0
  have la := block_lt_of_cell ha0
  go_wp2_with fail
  have hE := ((Ext.refl w12).alloc (.cells #[.int .u64 (S : Int), (.slice A L.length c)] 25)).drew
  have hbb0 : (w12.alloc (.cells #[.int .u64 (S : Int), (.slice A L.length c)] 25)).drew.cell? ⟨w12.heap.size, 0, none⟩ = some (.int .u64 (S : Int)) := (cell_of_row _ _ 0 _ _ _ (heap_alloc_new w12 _)).trans rfl
  have hbb1 : (w12.alloc (.cells #[.int .u64 (S : Int), (.slice A L.length c)] 25)).drew.cell? ⟨w12.heap.size, 1, none⟩ = some (.slice A L.length c) := (cell_of_row _ _ 1 _ _ _ (heap_alloc_new w12 _)).trans rfl
  replace hb0 := ext_cell hE hb0
  replace hb1 := ext_cell hE hb1
  replace ha0 := ext_cell hE ha0
  replace ha1 := ext_cell hE ha1
  replace HE := Lib.hid (HE.out.trans hE)
  replace hrw := hrw.ext hE
  clear hE
  refine wp_region_seq [(0, false), (1, false), (2, false), (3, false), (4, false), (5, false), (6, false), (7, false), (8, false), (9, false), (10, false), (11, true), (12, false), (13, false), (14, false), (15, false), (16, false), (17, false), (18, false), (19, false), (20, false), (22, false), (23, false), (21, true), (24, true), (25, false), (26, false), (27, false)] Ext (by kernel_rfl) (by kernel_rfl) Ext.refl (fun _ _ _ => Ext.trans) ?_; simp only [List.map, nth_z, nth_s]
  (repeat (first | (refine seq_skip (by rfl) ?_; intro K hK; simp only [Act.put, List.setIfInBounds_toArray, List.set_cons_zero, List.set_cons_succ]; refine hK _ ?_; clear hK K) | (refine seq_skipc (by rfl) ?_; intro K hK; simp only [Act.put, List.setIfInBounds_toArray, List.set_cons_zero, List.set_cons_succ]; refine hK _ ?_; clear hK K) | (refine seq_read (by rfl) (by rfl) ?_; intro K hK; go_big_quiet_op; first | go_big_quiet_on | (refine ⟨_, fun _ _ => rfl, ?_⟩; go_big_quiet_on))))
  refine seq_value (.agg #[(.int .u64 (S : Int)), (.slice A L.length c)]) (by rfl) (fun x hx => by have hq0 := ext_cell hx ha0; have hq1 := ext_cell hx ha1; simp [go_sem, execOp, Act.eval, hq0, hq1]) ?_; intro K hK; simp only [Act.put, List.setIfInBounds_toArray, List.set_cons_zero, List.set_cons_succ]; refine hK _ ?_; clear hK K
  refine seq_value (.agg #[(.int .u64 (S : Int)), (.slice A L.length c)]) (by rfl) (fun x hx => by have hq0 := ext_cell hx hbb0; have hq1 := ext_cell hx hbb1; simp [go_sem, execOp, Act.eval, hq0, hq1]) ?_; intro K hK; simp only [Act.put, List.setIfInBounds_toArray, List.set_cons_zero, List.set_cons_succ]; refine hK _ ?_; clear hK K
  refine seq_call (same_r S A A L c c (by omega) _ hrw hrw) rfl Try.func13 (by kernel_rfl) (by kernel_rfl) (by rfl) (by rfl) ?_; intro K hK; rintro e w' ⟨rfl, hE⟩; refine ⟨_, rfl, hE, ?_⟩; simp only [Act.put, List.setIfInBounds_toArray, List.set_cons_zero, List.set_cons_succ]; refine hK _ _ ?_; clear hK K
  replace hb0 := ext_cell hE hb0
  replace hb1 := ext_cell hE hb1
  replace HE := Lib.hid (HE.out.trans hE)
  replace hrw := hrw.ext hE
  clear hE
  (repeat (first | (refine seq_skip (by rfl) ?_; intro K hK; simp only [Act.put, List.setIfInBounds_toArray, List.set_cons_zero, List.set_cons_succ]; refine hK _ ?_; clear hK K) | (refine seq_skipc (by rfl) ?_; intro K hK; simp only [Act.put, List.setIfInBounds_toArray, List.set_cons_zero, List.set_cons_succ]; refine hK _ ?_; clear hK K) | (refine seq_read (by rfl) (by rfl) ?_; intro K hK; go_big_quiet_op; first | go_big_quiet_on | (refine ⟨_, fun _ _ => rfl, ?_⟩; go_big_quiet_on))))
  refine seq_value (.agg #[(.int .u64 (S : Int)), (.slice A L.length c)]) (by rfl) (fun x hx => by have hq0 := ext_cell hx hb0; have hq1 := ext_cell hx hb1; simp [go_sem, execOp, Act.eval, hq0, hq1]) ?_; intro K hK; simp only [Act.put, List.setIfInBounds_toArray, List.set_cons_zero, List.set_cons_succ]; refine hK _ ?_; clear hK K
  (repeat (first | (refine seq_skip (by rfl) ?_; intro K hK; simp only [Act.put, List.setIfInBounds_toArray, List.set_cons_zero, List.set_cons_succ]; refine hK _ ?_; clear hK K) | (refine seq_skipc (by rfl) ?_; intro K hK; simp only [Act.put, List.setIfInBounds_toArray, List.set_cons_zero, List.set_cons_succ]; refine hK _ ?_; clear hK K) | (refine seq_read (by rfl) (by rfl) ?_; intro K hK; go_big_quiet_op; first | go_big_quiet_on | (refine ⟨_, fun _ _ => rfl, ?_⟩; go_big_quiet_on))))
  refine seq_value (.agg #[(.int .u64 (S : Int)), (.slice A L.length c)]) (by rfl) (fun x hx => by have hq0 := ext_cell hx hb0; have hq1 := ext_cell hx hb1; simp [go_sem, execOp, Act.eval, hq0, hq1]) ?_; intro K hK; simp only [Act.put, List.setIfInBounds_toArray, List.set_cons_zero, List.set_cons_succ]; refine hK _ ?_; clear hK K
  (repeat (first | (refine seq_skip (by rfl) ?_; intro K hK; simp only [Act.put, List.setIfInBounds_toArray, List.set_cons_zero, List.set_cons_succ]; refine hK _ ?_; clear hK K) | (refine seq_skipc (by rfl) ?_; intro K hK; simp only [Act.put, List.setIfInBounds_toArray, List.set_cons_zero, List.set_cons_succ]; refine hK _ ?_; clear hK K) | (refine seq_read (by rfl) (by rfl) ?_; intro K hK; go_big_quiet_op; first | go_big_quiet_on | (refine ⟨_, fun _ _ => rfl, ?_⟩; go_big_quiet_on))))
  refine seq_call (word_c S A L c at' (S / 8) a1 hrl (by omega) _ hrw.1) rfl Try.func19 (by kernel_rfl) (by kernel_rfl) (by rfl) (by rfl) ?_; intro K hK; rintro e w' ⟨rfl, hE⟩; refine ⟨_, rfl, hE, ?_⟩; simp only [Act.put, List.setIfInBounds_toArray, List.set_cons_zero, List.set_cons_succ]; refine hK _ _ ?_; clear hK K
  replace HE := Lib.hid (HE.out.trans hE)
  replace hrw := hrw.ext hE
  clear hE
  refine seq_call (rword_c S A L c at' a1 hrl hm8 (by omega) _ hrw.1) rfl Try.func20 (by kernel_rfl) (by kernel_rfl) (by rfl) (by rfl) ?_; intro K hK; rintro e w' ⟨rfl, hE⟩; refine ⟨_, rfl, hE, ?_⟩; simp only [Act.put, List.setIfInBounds_toArray, List.set_cons_zero, List.set_cons_succ]; refine hK _ _ ?_; clear hK K
  replace HE := Lib.hid (HE.out.trans hE)
  clear hE
  (repeat (first | (refine seq_skip (by rfl) ?_; intro K hK; simp only [Act.put, List.setIfInBounds_toArray, List.set_cons_zero, List.set_cons_succ]; refine hK _ ?_; clear hK K) | (refine seq_skipc (by rfl) ?_; intro K hK; simp only [Act.put, List.setIfInBounds_toArray, List.set_cons_zero, List.set_cons_succ]; refine hK _ ?_; clear hK K) | (refine seq_read (by rfl) (by rfl) ?_; intro K hK; go_big_quiet_op; first | go_big_quiet_on | (refine ⟨_, fun _ _ => rfl, ?_⟩; go_big_quiet_on))))
  refine seq_done ?_
  go_wp2
  go_ret
  exact ⟨rfl, HE.out⟩

set_option maxRecDepth 100000 in
set_option maxHeartbeats 1000000 in
theorem MemDoes_no_wrong (S : Nat) (A : Option Addr) (L : List (Nat × Nat)) (c at' : Nat) (size : Int) (v n : Nat) (hS : S < 18446744073709551616) (hL : IsCells L)
    (a1 : at' < 18446744073709551616) (z0 : -9223372036854775808 ≤ size) (z1 : size ≤ 9223372036854775807) (v1 : v < 18446744073709551616) (n1 : n < 18446744073709551616) (w : World) (hr : RowL w A L c) (h : L.length ≤ 300) (hn : ¬ SizeOk n) (hR : decide (RightM S L) = false) :
    Calls Try.prog 3 #[.agg #[.int .u64 (S : Int), .slice A L.length c], .int .u64 (at' : Int), .int .i64 size, .int .u64 (v : Int), .int .u64 (n : Int)] w fun e w' => e = .returned (.bool true) ∧ Ext w w' := by
  have hfew : decide (L.length ≤ 300) = true := by simpa using h
  have hnR : decide (RightM n []) = false := not_size hn
  go_enter Try.func3, Try.ntmps3
  go_wp2_with fail
  refine (awake3_c _).mono ?_
  rintro e w1 ⟨rfl, hE1⟩
  obtain ⟨hb0, hb1⟩ := box_mem hE1
  have HE := Lib.hid (((Ext.refl w).alloc _).trans hE1)
  clear hE1
  go_wp2_with fail
  refine (few_c S A L c _).mono ?_
  rintro e w2 ⟨rfl, hE⟩
  replace hb0 := ext_cell hE hb0
  replace hb1 := ext_cell hE hb1
  replace HE := Lib.hid (HE.out.trans hE)
  clear hE
  rw [hfew]
  go_wp2_with fail
  refine (new_c n n1 _).mono ?_
  rintro e w3 ⟨rfl, hE⟩
  rw [if_neg hn, if_neg hn]
  replace hb0 := ext_cell hE hb0
  replace hb1 := ext_cell hE hb1
  replace HE := Lib.hid (HE.out.trans hE)
  clear hE
  have lm := block_lt_of_cell hb0
  go_wp2_with fail
  refine (rright_c n none [] 0 n1 cells_nil (by simp) _ (RowL.nil _).1).mono ?_
  rintro e w4 ⟨rfl, hE0⟩
  rw [hnR]
  obtain ⟨hx0, hx1⟩ := box_mem hE0
  have hE := ((Ext.refl w3).alloc _).trans hE0
  replace hb0 := ext_cell hE hb0
  replace hb1 := ext_cell hE hb1
  replace HE := Lib.hid (HE.out.trans hE)
  clear hE hE0
  go_wp2_with fail
  refine (same_nil _ _).mono ?_
  rintro e w5 ⟨rfl, hE⟩
  replace hb0 := ext_cell hE hb0
  replace hb1 := ext_cell hE hb1
  replace HE := Lib.hid (HE.out.trans hE)
  clear hE hx0 hx1
  go_wp2_with fail
  have hE := (Ext.refl w5).drew
  replace hb0 := ext_cell hE hb0
  replace hb1 := ext_cell hE hb1
  replace HE := Lib.hid (HE.out.trans hE)
  clear hE
  have hrw := hr.ext HE.out
  refine wp_region_seq [(0, false), (2, false), (1, true), (3, true), (4, false), (5, false), (6, false), (7, true), (8, false), (9, false)] Ext (by kernel_rfl) (by kernel_rfl) Ext.refl (fun _ _ _ => Ext.trans) ?_; simp only [List.map, nth_z, nth_s]
  refine seq_value (.agg #[(.int .u64 (S : Int)), (.slice A L.length c)]) (by rfl) (fun x hx => by have hq0 := ext_cell hx hb0; have hq1 := ext_cell hx hb1; simp [go_sem, execOp, Act.eval, hq0, hq1]) ?_; intro K hK; simp only [Act.put, List.setIfInBounds_toArray, List.set_cons_zero, List.set_cons_succ]; refine hK _ ?_; clear hK K
  refine seq_value (.agg #[(.int .u64 (S : Int)), (.slice A L.length c)]) (by rfl) (fun x hx => by have hq0 := ext_cell hx hb0; have hq1 := ext_cell hx hb1; simp [go_sem, execOp, Act.eval, hq0, hq1]) ?_; intro K hK; simp only [Act.put, List.setIfInBounds_toArray, List.set_cons_zero, List.set_cons_succ]; refine hK _ ?_; clear hK K
  refine seq_call (right_c S A L c hS hL (by omega) _ hrw.1) rfl Try.func14 (by kernel_rfl) (by kernel_rfl) (by rfl) (by rfl) ?_; intro K hK; rintro e w' ⟨rfl, hE⟩; refine ⟨_, rfl, hE, ?_⟩; simp only [Act.put, List.setIfInBounds_toArray, List.set_cons_zero, List.set_cons_succ]; refine hK _ _ ?_; clear hK K
  rw [hR]
  replace hb0 := ext_cell hE hb0
  replace hb1 := ext_cell hE hb1
  replace HE := Lib.hid (HE.out.trans hE)
  replace hrw := hrw.ext hE
  clear hE
  refine seq_call (rright_c S A L c hS hL (by omega) _ hrw.1) rfl Try.func12 (by kernel_rfl) (by kernel_rfl) (by rfl) (by rfl) ?_; intro K hK; rintro e w' ⟨rfl, hE⟩; refine ⟨_, rfl, hE, ?_⟩; simp only [Act.put, List.setIfInBounds_toArray, List.set_cons_zero, List.set_cons_succ]; refine hK _ _ ?_; clear hK K
  rw [hR]
  replace hb0 := ext_cell hE hb0
  replace hb1 := ext_cell hE hb1
  replace HE := Lib.hid (HE.out.trans hE)
  replace hrw := hrw.ext hE
  clear hE
  (repeat (first | (refine seq_skip (by rfl) ?_; intro K hK; simp only [Act.put, List.setIfInBounds_toArray, List.set_cons_zero, List.set_cons_succ]; refine hK _ ?_; clear hK K) | (refine seq_skipc (by rfl) ?_; intro K hK; simp only [Act.put, List.setIfInBounds_toArray, List.set_cons_zero, List.set_cons_succ]; refine hK _ ?_; clear hK K) | (refine seq_read (by rfl) (by rfl) ?_; intro K hK; go_big_quiet_op; first | go_big_quiet_on | (refine ⟨_, fun _ _ => rfl, ?_⟩; go_big_quiet_on))))
  refine seq_value (.agg #[(.int .u64 (S : Int)), (.slice A L.length c)]) (by rfl) (fun x hx => by have hq0 := ext_cell hx hb0; have hq1 := ext_cell hx hb1; simp [go_sem, execOp, Act.eval, hq0, hq1]) ?_; intro K hK; simp only [Act.put, List.setIfInBounds_toArray, List.set_cons_zero, List.set_cons_succ]; refine hK _ ?_; clear hK K
  refine seq_call (rright_c S A L c hS hL (by omega) _ hrw.1) rfl Try.func12 (by kernel_rfl) (by kernel_rfl) (by rfl) (by rfl) ?_; intro K hK; rintro e w' ⟨rfl, hE⟩; refine ⟨_, rfl, hE, ?_⟩; simp only [Act.put, List.setIfInBounds_toArray, List.set_cons_zero, List.set_cons_succ]; refine hK _ _ ?_; clear hK K
  rw [hR]
  replace hb0 := ext_cell hE hb0
  replace hb1 := ext_cell hE hb1
  replace HE := Lib.hid (HE.out.trans hE)
  replace hrw := hrw.ext hE
  clear hE
  (repeat (first | (refine seq_skip (by rfl) ?_; intro K hK; simp only [Act.put, List.setIfInBounds_toArray, List.set_cons_zero, List.set_cons_succ]; refine hK _ ?_; clear hK K) | (refine seq_skipc (by rfl) ?_; intro K hK; simp only [Act.put, List.setIfInBounds_toArray, List.set_cons_zero, List.set_cons_succ]; refine hK _ ?_; clear hK K) | (refine seq_read (by rfl) (by rfl) ?_; intro K hK; go_big_quiet_op; first | go_big_quiet_on | (refine ⟨_, fun _ _ => rfl, ?_⟩; go_big_quiet_on))))
  refine seq_done ?_
  go_wp2_with fail
  have hE := (Ext.refl w').drew
  replace hb0 := ext_cell hE hb0
  replace hb1 := ext_cell hE hb1
  replace HE := Lib.hid (HE.out.trans hE)
  replace hrw := hrw.ext hE
  clear hE
  refine wp_region_seq [(0, false), (2, false), (1, true), (3, true), (4, false), (5, false)] Ext (by kernel_rfl) (by kernel_rfl) Ext.refl (fun _ _ _ => Ext.trans) ?_; simp only [List.map, nth_z, nth_s]
  refine seq_value (.agg #[(.int .u64 (S : Int)), (.slice A L.length c)]) (by rfl) (fun x hx => by have hq0 := ext_cell hx hb0; have hq1 := ext_cell hx hb1; simp [go_sem, execOp, Act.eval, hq0, hq1]) ?_; intro K hK; simp only [Act.put, List.setIfInBounds_toArray, List.set_cons_zero, List.set_cons_succ]; refine hK _ ?_; clear hK K
  refine seq_value (.agg #[(.int .u64 (S : Int)), (.slice A L.length c)]) (by rfl) (fun x hx => by have hq0 := ext_cell hx hb0; have hq1 := ext_cell hx hb1; simp [go_sem, execOp, Act.eval, hq0, hq1]) ?_; intro K hK; simp only [Act.put, List.setIfInBounds_toArray, List.set_cons_zero, List.set_cons_succ]; refine hK _ ?_; clear hK K
  refine seq_call (right_c S A L c hS hL (by omega) _ hrw.1) rfl Try.func14 (by kernel_rfl) (by kernel_rfl) (by rfl) (by rfl) ?_; intro K hK; rintro e w' ⟨rfl, hE⟩; refine ⟨_, rfl, hE, ?_⟩; simp only [Act.put, List.setIfInBounds_toArray, List.set_cons_zero, List.set_cons_succ]; refine hK _ _ ?_; clear hK K
  rw [hR]
  replace HE := Lib.hid (HE.out.trans hE)
  replace hrw := hrw.ext hE
  clear hE
  refine seq_call (rright_c S A L c hS hL (by omega) _ hrw.1) rfl Try.func12 (by kernel_rfl) (by kernel_rfl) (by rfl) (by rfl) ?_; intro K hK; rintro e w' ⟨rfl, hE⟩; refine ⟨_, rfl, hE, ?_⟩; simp only [Act.put, List.setIfInBounds_toArray, List.set_cons_zero, List.set_cons_succ]; refine hK _ _ ?_; clear hK K
  rw [hR]
  replace HE := Lib.hid (HE.out.trans hE)
  replace hrw := hrw.ext hE
  clear hE
  (repeat (first | (refine seq_skip (by rfl) ?_; intro K hK; simp only [Act.put, List.setIfInBounds_toArray, List.set_cons_zero, List.set_cons_succ]; refine hK _ ?_; clear hK K) | (refine seq_skipc (by rfl) ?_; intro K hK; simp only [Act.put, List.setIfInBounds_toArray, List.set_cons_zero, List.set_cons_succ]; refine hK _ ?_; clear hK K) | (refine seq_read (by rfl) (by rfl) ?_; intro K hK; go_big_quiet_op; first | go_big_quiet_on | (refine ⟨_, fun _ _ => rfl, ?_⟩; go_big_quiet_on))))
  refine seq_done ?_
  go_wp2
  go_ret
  exact ⟨rfl, HE.out⟩

set_option maxRecDepth 100000 in
set_option maxHeartbeats 1000000 in
theorem MemDoes_no_st (S : Nat) (A : Option Addr) (L : List (Nat × Nat)) (c at' : Nat) (size : Int) (v n : Nat) (hS : S < 18446744073709551616) (hL : IsCells L)
    (a1 : at' < 18446744073709551616) (z0 : -9223372036854775808 ≤ size) (z1 : size ≤ 9223372036854775807) (v1 : v < 18446744073709551616) (n1 : n < 18446744073709551616) (w : World) (hr : RowL w A L c) (h : L.length ≤ 300) (hn : ¬ SizeOk n) (hR : decide (RightM S L) = true) (he : errN size at' S = 0) :
    Calls Try.prog 3 #[.agg #[.int .u64 (S : Int), .slice A L.length c], .int .u64 (at' : Int), .int .i64 size, .int .u64 (v : Int), .int .u64 (n : Int)] w fun e w' => e = .returned (.bool true) ∧ Ext w w' := by
  have hfew : decide (L.length ≤ 300) = true := by simpa using h
  have hnR : decide (RightM n []) = false := not_size hn
  have hRM : RightM S L := of_decide_eq_true hR
  have hrl := hRM.rl hL
  have hok : SizeOk S := by have := hRM; unfold RightM at this; exact this.1
  have hm8 := hok.mod8
  have hS2 := hok.le
  clear hok hRM
  obtain ⟨s, rfl, hz, q1, q2⟩ : ∃ s : Nat, size = s ∧ IsSize s ∧ at' % s = 0 ∧ at' < S := by
    rcases errN_ways size at' S with ⟨_, h⟩ | ⟨s, rfl, hz, ⟨_, h⟩ | ⟨_, _, h⟩ | ⟨h2, h3, h⟩⟩
    · omega
    · omega
    · omega
    · exact ⟨s, rfl, hz, h2, h3⟩
  have He := Lib.hid he
  clear he
  go_enter Try.func3, Try.ntmps3
  go_wp2_with fail
  refine (awake3_c _).mono ?_
  rintro e w1 ⟨rfl, hE1⟩
  obtain ⟨hb0, hb1⟩ := box_mem hE1
  have HE := Lib.hid (((Ext.refl w).alloc _).trans hE1)
  clear hE1
  go_wp2_with fail
  refine (few_c S A L c _).mono ?_
  rintro e w2 ⟨rfl, hE⟩
  replace hb0 := ext_cell hE hb0
  replace hb1 := ext_cell hE hb1
  replace HE := Lib.hid (HE.out.trans hE)
  clear hE
  rw [hfew]
  go_wp2_with fail
  refine (new_c n n1 _).mono ?_
  rintro e w3 ⟨rfl, hE⟩
  rw [if_neg hn, if_neg hn]
  replace hb0 := ext_cell hE hb0
  replace hb1 := ext_cell hE hb1
  replace HE := Lib.hid (HE.out.trans hE)
  clear hE
  have lm := block_lt_of_cell hb0
  go_wp2_with fail
  refine (rright_c n none [] 0 n1 cells_nil (by simp) _ (RowL.nil _).1).mono ?_
  rintro e w4 ⟨rfl, hE0⟩
  rw [hnR]
  obtain ⟨hx0, hx1⟩ := box_mem hE0
  have hE := ((Ext.refl w3).alloc _).trans hE0
  replace hb0 := ext_cell hE hb0
  replace hb1 := ext_cell hE hb1
  replace HE := Lib.hid (HE.out.trans hE)
  clear hE hE0
  go_wp2_with fail
  refine (same_nil _ _).mono ?_
  rintro e w5 ⟨rfl, hE⟩
  replace hb0 := ext_cell hE hb0
  replace hb1 := ext_cell hE hb1
  replace HE := Lib.hid (HE.out.trans hE)
  clear hE hx0 hx1
  go_wp2_with fail
  have hE := (Ext.refl w5).drew
  replace hb0 := ext_cell hE hb0
  replace hb1 := ext_cell hE hb1
  replace HE := Lib.hid (HE.out.trans hE)
  clear hE
  have hrw := hr.ext HE.out
  refine wp_region_seq [(0, false), (2, false), (1, true), (3, true), (4, false), (5, false), (6, false), (7, true), (8, false), (9, false)] Ext (by kernel_rfl) (by kernel_rfl) Ext.refl (fun _ _ _ => Ext.trans) ?_; simp only [List.map, nth_z, nth_s]
  refine seq_value (.agg #[(.int .u64 (S : Int)), (.slice A L.length c)]) (by rfl) (fun x hx => by have hq0 := ext_cell hx hb0; have hq1 := ext_cell hx hb1; simp [go_sem, execOp, Act.eval, hq0, hq1]) ?_; intro K hK; simp only [Act.put, List.setIfInBounds_toArray, List.set_cons_zero, List.set_cons_succ]; refine hK _ ?_; clear hK K
  refine seq_value (.agg #[(.int .u64 (S : Int)), (.slice A L.length c)]) (by rfl) (fun x hx => by have hq0 := ext_cell hx hb0; have hq1 := ext_cell hx hb1; simp [go_sem, execOp, Act.eval, hq0, hq1]) ?_; intro K hK; simp only [Act.put, List.setIfInBounds_toArray, List.set_cons_zero, List.set_cons_succ]; refine hK _ ?_; clear hK K
  refine seq_call (right_c S A L c hS hL (by omega) _ hrw.1) rfl Try.func14 (by kernel_rfl) (by kernel_rfl) (by rfl) (by rfl) ?_; intro K hK; rintro e w' ⟨rfl, hE⟩; refine ⟨_, rfl, hE, ?_⟩; simp only [Act.put, List.setIfInBounds_toArray, List.set_cons_zero, List.set_cons_succ]; refine hK _ _ ?_; clear hK K
  rw [hR]
  replace hb0 := ext_cell hE hb0
  replace hb1 := ext_cell hE hb1
  replace HE := Lib.hid (HE.out.trans hE)
  replace hrw := hrw.ext hE
  clear hE
  refine seq_call (rright_c S A L c hS hL (by omega) _ hrw.1) rfl Try.func12 (by kernel_rfl) (by kernel_rfl) (by rfl) (by rfl) ?_; intro K hK; rintro e w' ⟨rfl, hE⟩; refine ⟨_, rfl, hE, ?_⟩; simp only [Act.put, List.setIfInBounds_toArray, List.set_cons_zero, List.set_cons_succ]; refine hK _ _ ?_; clear hK K
  rw [hR]
  replace hb0 := ext_cell hE hb0
  replace hb1 := ext_cell hE hb1
  replace HE := Lib.hid (HE.out.trans hE)
  replace hrw := hrw.ext hE
  clear hE
  (repeat (first | (refine seq_skip (by rfl) ?_; intro K hK; simp only [Act.put, List.setIfInBounds_toArray, List.set_cons_zero, List.set_cons_succ]; refine hK _ ?_; clear hK K) | (refine seq_skipc (by rfl) ?_; intro K hK; simp only [Act.put, List.setIfInBounds_toArray, List.set_cons_zero, List.set_cons_succ]; refine hK _ ?_; clear hK K) | (refine seq_read (by rfl) (by rfl) ?_; intro K hK; go_big_quiet_op; first | go_big_quiet_on | (refine ⟨_, fun _ _ => rfl, ?_⟩; go_big_quiet_on))))
  refine seq_value (.agg #[(.int .u64 (S : Int)), (.slice A L.length c)]) (by rfl) (fun x hx => by have hq0 := ext_cell hx hb0; have hq1 := ext_cell hx hb1; simp [go_sem, execOp, Act.eval, hq0, hq1]) ?_; intro K hK; simp only [Act.put, List.setIfInBounds_toArray, List.set_cons_zero, List.set_cons_succ]; refine hK _ ?_; clear hK K
  refine seq_call (rright_c S A L c hS hL (by omega) _ hrw.1) rfl Try.func12 (by kernel_rfl) (by kernel_rfl) (by rfl) (by rfl) ?_; intro K hK; rintro e w' ⟨rfl, hE⟩; refine ⟨_, rfl, hE, ?_⟩; simp only [Act.put, List.setIfInBounds_toArray, List.set_cons_zero, List.set_cons_succ]; refine hK _ _ ?_; clear hK K
  rw [hR]
  replace hb0 := ext_cell hE hb0
  replace hb1 := ext_cell hE hb1
  replace HE := Lib.hid (HE.out.trans hE)
  replace hrw := hrw.ext hE
  clear hE
  (repeat (first | (refine seq_skip (by rfl) ?_; intro K hK; simp only [Act.put, List.setIfInBounds_toArray, List.set_cons_zero, List.set_cons_succ]; refine hK _ ?_; clear hK K) | (refine seq_skipc (by rfl) ?_; intro K hK; simp only [Act.put, List.setIfInBounds_toArray, List.set_cons_zero, List.set_cons_succ]; refine hK _ ?_; clear hK K) | (refine seq_read (by rfl) (by rfl) ?_; intro K hK; go_big_quiet_op; first | go_big_quiet_on | (refine ⟨_, fun _ _ => rfl, ?_⟩; go_big_quiet_on))))
  refine seq_done ?_
  go_wp2_with fail
  refine (load_c S A L c at' (S / 8) s a1 hrl (by omega) _ hrw.1).mono ?_
  rintro e w9 ⟨rfl, hE⟩
  replace hb0 := ext_cell hE hb0
  replace hb1 := ext_cell hE hb1
  replace HE := Lib.hid (HE.out.trans hE)
  replace hrw := hrw.ext hE
  clear hE
  go_wp2_with fail
  refine (rload_c S A L c at' s a1 hrl hm8 hS2 (by omega) _ hrw.1).mono ?_
  rintro e w10 ⟨rfl, hE⟩
  replace hb0 := ext_cell hE hb0
  replace hb1 := ext_cell hE hb1
  replace HE := Lib.hid (HE.out.trans hE)
  replace hrw := hrw.ext hE
  clear hE
  go_wp2_with fail
  refine (store_c S A L c at' s v (S / 8) hrl a1 v1 hz q1 q2 (by omega) _ hrw).mono ?_
  rintro e w11 ⟨u, rfl, hown, hE⟩
  obtain ⟨A1, c1, rfl, hrA⟩ := own_row hown
  clear hown
  replace hb0 := ext_cell hE hb0
  replace hb1 := ext_cell hE hb1
  replace HE := Lib.hid (HE.out.trans hE)
  replace hrw := hrw.ext hE
  clear hE
  replace lm := block_lt_of_cell hb0
  go_wp2_with fail
  refine (rstore_c S A L c at' s v hrl hm8 a1 v1 hz q1 q2 (by omega) _ (hrw.ext ((Ext.refl w11).alloc _))).mono ?_
  rintro e w12 ⟨u2, rfl, hown, hE0⟩
  obtain ⟨A2, c2, rfl, hrB⟩ := own_row hown
  clear hown
  obtain ⟨ha0, ha1⟩ := box_mem hE0
  have hE := ((Ext.refl w11).alloc _).trans hE0
  replace hb0 := ext_cell hE hb0
  replace hb1 := ext_cell hE hb1
  replace HE := Lib.hid (HE.out.trans hE)
  replace hrw := hrw.ext hE
  replace hrA := hrA.ext hE
  clear hE hE0
  replace lm := block_lt_of_cell hb0
  have la := block_lt_of_cell ha0
  go_wp2_with fail
  have hE := ((Ext.refl w12).alloc (.cells #[.int .u64 (S : Int), (.slice A2 (storeL L at' s v).length c2)] 25)).drew
  have hbb0 : (w12.alloc (.cells #[.int .u64 (S : Int), (.slice A2 (storeL L at' s v).length c2)] 25)).drew.cell? ⟨w12.heap.size, 0, none⟩ = some (.int .u64 (S : Int)) := (cell_of_row _ _ 0 _ _ _ (heap_alloc_new w12 _)).trans rfl
  have hbb1 : (w12.alloc (.cells #[.int .u64 (S : Int), (.slice A2 (storeL L at' s v).length c2)] 25)).drew.cell? ⟨w12.heap.size, 1, none⟩ = some (.slice A2 (storeL L at' s v).length c2) := (cell_of_row _ _ 1 _ _ _ (heap_alloc_new w12 _)).trans rfl
  replace hb0 := ext_cell hE hb0
  replace hb1 := ext_cell hE hb1
  replace ha0 := ext_cell hE ha0
  replace ha1 := ext_cell hE ha1
  replace HE := Lib.hid (HE.out.trans hE)
  replace hrw := hrw.ext hE
  replace hrA := hrA.ext hE
  replace hrB := hrB.ext hE
  clear hE
  refine wp_region_seq [(0, false), (1, false), (2, false), (3, false), (4, false), (5, false), (6, false), (7, false), (8, false), (9, false), (10, false), (11, true), (12, false), (13, false), (14, false), (15, false), (16, false), (17, false), (18, false), (19, false), (20, false), (22, false), (23, false), (21, true), (24, true), (25, false), (26, false), (27, false)] Ext (by kernel_rfl) (by kernel_rfl) Ext.refl (fun _ _ _ => Ext.trans) ?_; simp only [List.map, nth_z, nth_s]
  (repeat (first | (refine seq_skip (by rfl) ?_; intro K hK; simp only [Act.put, List.setIfInBounds_toArray, List.set_cons_zero, List.set_cons_succ]; refine hK _ ?_; clear hK K) | (refine seq_skipc (by rfl) ?_; intro K hK; simp only [Act.put, List.setIfInBounds_toArray, List.set_cons_zero, List.set_cons_succ]; refine hK _ ?_; clear hK K) | (refine seq_read (by rfl) (by rfl) ?_; intro K hK; go_big_quiet_op; first | go_big_quiet_on | (refine ⟨_, fun _ _ => rfl, ?_⟩; go_big_quiet_on))))
  refine seq_value (.agg #[(.int .u64 (S : Int)), (.slice A1 (storeL L at' s v).length c1)]) (by rfl) (fun x hx => by have hq0 := ext_cell hx ha0; have hq1 := ext_cell hx ha1; simp [go_sem, execOp, Act.eval, hq0, hq1]) ?_; intro K hK; simp only [Act.put, List.setIfInBounds_toArray, List.set_cons_zero, List.set_cons_succ]; refine hK _ ?_; clear hK K
  refine seq_value (.agg #[(.int .u64 (S : Int)), (.slice A2 (storeL L at' s v).length c2)]) (by rfl) (fun x hx => by have hq0 := ext_cell hx hbb0; have hq1 := ext_cell hx hbb1; simp [go_sem, execOp, Act.eval, hq0, hq1]) ?_; intro K hK; simp only [Act.put, List.setIfInBounds_toArray, List.set_cons_zero, List.set_cons_succ]; refine hK _ ?_; clear hK K
  refine seq_call (same_r S A1 A2 (storeL L at' s v) c1 c2 (by have := storeL_len L at' s v; omega) _ hrA hrB) rfl Try.func13 (by kernel_rfl) (by kernel_rfl) (by rfl) (by rfl) ?_; intro K hK; rintro e w' ⟨rfl, hE⟩; refine ⟨_, rfl, hE, ?_⟩; simp only [Act.put, List.setIfInBounds_toArray, List.set_cons_zero, List.set_cons_succ]; refine hK _ _ ?_; clear hK K
  replace hb0 := ext_cell hE hb0
  replace hb1 := ext_cell hE hb1
  replace HE := Lib.hid (HE.out.trans hE)
  replace hrw := hrw.ext hE
  clear hE
  (repeat (first | (refine seq_skip (by rfl) ?_; intro K hK; simp only [Act.put, List.setIfInBounds_toArray, List.set_cons_zero, List.set_cons_succ]; refine hK _ ?_; clear hK K) | (refine seq_skipc (by rfl) ?_; intro K hK; simp only [Act.put, List.setIfInBounds_toArray, List.set_cons_zero, List.set_cons_succ]; refine hK _ ?_; clear hK K) | (refine seq_read (by rfl) (by rfl) ?_; intro K hK; go_big_quiet_op; first | go_big_quiet_on | (refine ⟨_, fun _ _ => rfl, ?_⟩; go_big_quiet_on))))
  refine seq_value (.agg #[(.int .u64 (S : Int)), (.slice A L.length c)]) (by rfl) (fun x hx => by have hq0 := ext_cell hx hb0; have hq1 := ext_cell hx hb1; simp [go_sem, execOp, Act.eval, hq0, hq1]) ?_; intro K hK; simp only [Act.put, List.setIfInBounds_toArray, List.set_cons_zero, List.set_cons_succ]; refine hK _ ?_; clear hK K
  (repeat (first | (refine seq_skip (by rfl) ?_; intro K hK; simp only [Act.put, List.setIfInBounds_toArray, List.set_cons_zero, List.set_cons_succ]; refine hK _ ?_; clear hK K) | (refine seq_skipc (by rfl) ?_; intro K hK; simp only [Act.put, List.setIfInBounds_toArray, List.set_cons_zero, List.set_cons_succ]; refine hK _ ?_; clear hK K) | (refine seq_read (by rfl) (by rfl) ?_; intro K hK; go_big_quiet_op; first | go_big_quiet_on | (refine ⟨_, fun _ _ => rfl, ?_⟩; go_big_quiet_on))))
  refine seq_value (.agg #[(.int .u64 (S : Int)), (.slice A L.length c)]) (by rfl) (fun x hx => by have hq0 := ext_cell hx hb0; have hq1 := ext_cell hx hb1; simp [go_sem, execOp, Act.eval, hq0, hq1]) ?_; intro K hK; simp only [Act.put, List.setIfInBounds_toArray, List.set_cons_zero, List.set_cons_succ]; refine hK _ ?_; clear hK K
  (repeat (first | (refine seq_skip (by rfl) ?_; intro K hK; simp only [Act.put, List.setIfInBounds_toArray, List.set_cons_zero, List.set_cons_succ]; refine hK _ ?_; clear hK K) | (refine seq_skipc (by rfl) ?_; intro K hK; simp only [Act.put, List.setIfInBounds_toArray, List.set_cons_zero, List.set_cons_succ]; refine hK _ ?_; clear hK K) | (refine seq_read (by rfl) (by rfl) ?_; intro K hK; go_big_quiet_op; first | go_big_quiet_on | (refine ⟨_, fun _ _ => rfl, ?_⟩; go_big_quiet_on))))
  refine seq_call (word_c S A L c at' (S / 8) a1 hrl (by omega) _ hrw.1) rfl Try.func19 (by kernel_rfl) (by kernel_rfl) (by rfl) (by rfl) ?_; intro K hK; rintro e w' ⟨rfl, hE⟩; refine ⟨_, rfl, hE, ?_⟩; simp only [Act.put, List.setIfInBounds_toArray, List.set_cons_zero, List.set_cons_succ]; refine hK _ _ ?_; clear hK K
  replace HE := Lib.hid (HE.out.trans hE)
  replace hrw := hrw.ext hE
  clear hE
  refine seq_call (rword_c S A L c at' a1 hrl hm8 (by omega) _ hrw.1) rfl Try.func20 (by kernel_rfl) (by kernel_rfl) (by rfl) (by rfl) ?_; intro K hK; rintro e w' ⟨rfl, hE⟩; refine ⟨_, rfl, hE, ?_⟩; simp only [Act.put, List.setIfInBounds_toArray, List.set_cons_zero, List.set_cons_succ]; refine hK _ _ ?_; clear hK K
  replace HE := Lib.hid (HE.out.trans hE)
  clear hE
  (repeat (first | (refine seq_skip (by rfl) ?_; intro K hK; simp only [Act.put, List.setIfInBounds_toArray, List.set_cons_zero, List.set_cons_succ]; refine hK _ ?_; clear hK K) | (refine seq_skipc (by rfl) ?_; intro K hK; simp only [Act.put, List.setIfInBounds_toArray, List.set_cons_zero, List.set_cons_succ]; refine hK _ ?_; clear hK K) | (refine seq_read (by rfl) (by rfl) ?_; intro K hK; go_big_quiet_op; first | go_big_quiet_on | (refine ⟨_, fun _ _ => rfl, ?_⟩; go_big_quiet_on))))
  refine seq_done ?_
  go_wp2
  go_ret
  exact ⟨rfl, HE.out⟩

set_option maxRecDepth 100000 in
set_option maxHeartbeats 1000000 in
theorem MemDoes_no_er (S : Nat) (A : Option Addr) (L : List (Nat × Nat)) (c at' : Nat) (size : Int) (v n : Nat) (hS : S < 18446744073709551616) (hL : IsCells L)
    (a1 : at' < 18446744073709551616) (z0 : -9223372036854775808 ≤ size) (z1 : size ≤ 9223372036854775807) (v1 : v < 18446744073709551616) (n1 : n < 18446744073709551616) (w : World) (hr : RowL w A L c) (h : L.length ≤ 300) (hn : ¬ SizeOk n) (hR : decide (RightM S L) = true) (he : errN size at' S ≠ 0) :
    Calls Try.prog 3 #[.agg #[.int .u64 (S : Int), .slice A L.length c], .int .u64 (at' : Int), .int .i64 size, .int .u64 (v : Int), .int .u64 (n : Int)] w fun e w' => e = .returned (.bool true) ∧ Ext w w' := by
  have hfew : decide (L.length ≤ 300) = true := by simpa using h
  have hnR : decide (RightM n []) = false := not_size hn
  have hRM : RightM S L := of_decide_eq_true hR
  have hrl := hRM.rl hL
  have hok : SizeOk S := by have := hRM; unfold RightM at this; exact this.1
  have hm8 := hok.mod8
  have hS2 := hok.le
  clear hok hRM
  go_enter Try.func3, Try.ntmps3
  go_wp2_with fail
  refine (awake3_c _).mono ?_
  rintro e w1 ⟨rfl, hE1⟩
  obtain ⟨hb0, hb1⟩ := box_mem hE1
  have HE := Lib.hid (((Ext.refl w).alloc _).trans hE1)
  clear hE1
  go_wp2_with fail
  refine (few_c S A L c _).mono ?_
  rintro e w2 ⟨rfl, hE⟩
  replace hb0 := ext_cell hE hb0
  replace hb1 := ext_cell hE hb1
  replace HE := Lib.hid (HE.out.trans hE)
  clear hE
  rw [hfew]
  go_wp2_with fail
  refine (new_c n n1 _).mono ?_
  rintro e w3 ⟨rfl, hE⟩
  rw [if_neg hn, if_neg hn]
  replace hb0 := ext_cell hE hb0
  replace hb1 := ext_cell hE hb1
  replace HE := Lib.hid (HE.out.trans hE)
  clear hE
  have lm := block_lt_of_cell hb0
  go_wp2_with fail
  refine (rright_c n none [] 0 n1 cells_nil (by simp) _ (RowL.nil _).1).mono ?_
  rintro e w4 ⟨rfl, hE0⟩
  rw [hnR]
  obtain ⟨hx0, hx1⟩ := box_mem hE0
  have hE := ((Ext.refl w3).alloc _).trans hE0
  replace hb0 := ext_cell hE hb0
  replace hb1 := ext_cell hE hb1
  replace HE := Lib.hid (HE.out.trans hE)
  clear hE hE0
  go_wp2_with fail
  refine (same_nil _ _).mono ?_
  rintro e w5 ⟨rfl, hE⟩
  replace hb0 := ext_cell hE hb0
  replace hb1 := ext_cell hE hb1
  replace HE := Lib.hid (HE.out.trans hE)
  clear hE hx0 hx1
  go_wp2_with fail
  have hE := (Ext.refl w5).drew
  replace hb0 := ext_cell hE hb0
  replace hb1 := ext_cell hE hb1
  replace HE := Lib.hid (HE.out.trans hE)
  clear hE
  have hrw := hr.ext HE.out
  refine wp_region_seq [(0, false), (2, false), (1, true), (3, true), (4, false), (5, false), (6, false), (7, true), (8, false), (9, false)] Ext (by kernel_rfl) (by kernel_rfl) Ext.refl (fun _ _ _ => Ext.trans) ?_; simp only [List.map, nth_z, nth_s]
  refine seq_value (.agg #[(.int .u64 (S : Int)), (.slice A L.length c)]) (by rfl) (fun x hx => by have hq0 := ext_cell hx hb0; have hq1 := ext_cell hx hb1; simp [go_sem, execOp, Act.eval, hq0, hq1]) ?_; intro K hK; simp only [Act.put, List.setIfInBounds_toArray, List.set_cons_zero, List.set_cons_succ]; refine hK _ ?_; clear hK K
  refine seq_value (.agg #[(.int .u64 (S : Int)), (.slice A L.length c)]) (by rfl) (fun x hx => by have hq0 := ext_cell hx hb0; have hq1 := ext_cell hx hb1; simp [go_sem, execOp, Act.eval, hq0, hq1]) ?_; intro K hK; simp only [Act.put, List.setIfInBounds_toArray, List.set_cons_zero, List.set_cons_succ]; refine hK _ ?_; clear hK K
  refine seq_call (right_c S A L c hS hL (by omega) _ hrw.1) rfl Try.func14 (by kernel_rfl) (by kernel_rfl) (by rfl) (by rfl) ?_; intro K hK; rintro e w' ⟨rfl, hE⟩; refine ⟨_, rfl, hE, ?_⟩; simp only [Act.put, List.setIfInBounds_toArray, List.set_cons_zero, List.set_cons_succ]; refine hK _ _ ?_; clear hK K
  rw [hR]
  replace hb0 := ext_cell hE hb0
  replace hb1 := ext_cell hE hb1
  replace HE := Lib.hid (HE.out.trans hE)
  replace hrw := hrw.ext hE
  clear hE
  refine seq_call (rright_c S A L c hS hL (by omega) _ hrw.1) rfl Try.func12 (by kernel_rfl) (by kernel_rfl) (by rfl) (by rfl) ?_; intro K hK; rintro e w' ⟨rfl, hE⟩; refine ⟨_, rfl, hE, ?_⟩; simp only [Act.put, List.setIfInBounds_toArray, List.set_cons_zero, List.set_cons_succ]; refine hK _ _ ?_; clear hK K
  rw [hR]
  replace hb0 := ext_cell hE hb0
  replace hb1 := ext_cell hE hb1
  replace HE := Lib.hid (HE.out.trans hE)
  replace hrw := hrw.ext hE
  clear hE
  (repeat (first | (refine seq_skip (by rfl) ?_; intro K hK; simp only [Act.put, List.setIfInBounds_toArray, List.set_cons_zero, List.set_cons_succ]; refine hK _ ?_; clear hK K) | (refine seq_skipc (by rfl) ?_; intro K hK; simp only [Act.put, List.setIfInBounds_toArray, List.set_cons_zero, List.set_cons_succ]; refine hK _ ?_; clear hK K) | (refine seq_read (by rfl) (by rfl) ?_; intro K hK; go_big_quiet_op; first | go_big_quiet_on | (refine ⟨_, fun _ _ => rfl, ?_⟩; go_big_quiet_on))))
  refine seq_value (.agg #[(.int .u64 (S : Int)), (.slice A L.length c)]) (by rfl) (fun x hx => by have hq0 := ext_cell hx hb0; have hq1 := ext_cell hx hb1; simp [go_sem, execOp, Act.eval, hq0, hq1]) ?_; intro K hK; simp only [Act.put, List.setIfInBounds_toArray, List.set_cons_zero, List.set_cons_succ]; refine hK _ ?_; clear hK K
  refine seq_call (rright_c S A L c hS hL (by omega) _ hrw.1) rfl Try.func12 (by kernel_rfl) (by kernel_rfl) (by rfl) (by rfl) ?_; intro K hK; rintro e w' ⟨rfl, hE⟩; refine ⟨_, rfl, hE, ?_⟩; simp only [Act.put, List.setIfInBounds_toArray, List.set_cons_zero, List.set_cons_succ]; refine hK _ _ ?_; clear hK K
  rw [hR]
  replace hb0 := ext_cell hE hb0
  replace hb1 := ext_cell hE hb1
  replace HE := Lib.hid (HE.out.trans hE)
  replace hrw := hrw.ext hE
  clear hE
  (repeat (first | (refine seq_skip (by rfl) ?_; intro K hK; simp only [Act.put, List.setIfInBounds_toArray, List.set_cons_zero, List.set_cons_succ]; refine hK _ ?_; clear hK K) | (refine seq_skipc (by rfl) ?_; intro K hK; simp only [Act.put, List.setIfInBounds_toArray, List.set_cons_zero, List.set_cons_succ]; refine hK _ ?_; clear hK K) | (refine seq_read (by rfl) (by rfl) ?_; intro K hK; go_big_quiet_op; first | go_big_quiet_on | (refine ⟨_, fun _ _ => rfl, ?_⟩; go_big_quiet_on))))
  refine seq_done ?_
  go_wp2_with fail
  refine (load_c S A L c at' (S / 8) size a1 hrl (by omega) _ hrw.1).mono ?_
  rintro e w9 ⟨rfl, hE⟩
  replace hb0 := ext_cell hE hb0
  replace hb1 := ext_cell hE hb1
  replace HE := Lib.hid (HE.out.trans hE)
  replace hrw := hrw.ext hE
  clear hE
  go_wp2_with fail
  refine (rload_c S A L c at' size a1 hrl hm8 hS2 (by omega) _ hrw.1).mono ?_
  rintro e w10 ⟨rfl, hE⟩
  replace hb0 := ext_cell hE hb0
  replace hb1 := ext_cell hE hb1
  replace HE := Lib.hid (HE.out.trans hE)
  replace hrw := hrw.ext hE
  clear hE
  go_wp2_with fail
  refine (store_no S A L c at' v size a1 he _).mono ?_
  rintro e w11 ⟨rfl, hE⟩
  replace hb0 := ext_cell hE hb0
  replace hb1 := ext_cell hE hb1
  replace HE := Lib.hid (HE.out.trans hE)
  replace hrw := hrw.ext hE
  clear hE
  replace lm := block_lt_of_cell hb0
  go_wp2_with fail
  refine (rstore_no S A L c at' v size a1 he _).mono ?_
  rintro e w12 ⟨rfl, hE0⟩
  obtain ⟨ha0, ha1⟩ := box_mem hE0
  have hE := ((Ext.refl w11).alloc _).trans hE0
  replace hb0 := ext_cell hE hb0
  replace hb1 := ext_cell hE hb1
  replace HE := Lib.hid (HE.out.trans hE)
  replace hrw := hrw.ext hE
  clear hE hE0
  replace lm := block_lt_of_cell hb0
  have la := block_lt_of_cell ha0
  go_wp2_with fail
  have hE := ((Ext.refl w12).alloc (.cells #[.int .u64 (S : Int), (.slice A L.length c)] 25)).drew
  have hbb0 : (w12.alloc (.cells #[.int .u64 (S : Int), (.slice A L.length c)] 25)).drew.cell? ⟨w12.heap.size, 0, none⟩ = some (.int .u64 (S : Int)) := (cell_of_row _ _ 0 _ _ _ (heap_alloc_new w12 _)).trans rfl
  have hbb1 : (w12.alloc (.cells #[.int .u64 (S : Int), (.slice A L.length c)] 25)).drew.cell? ⟨w12.heap.size, 1, none⟩ = some (.slice A L.length c) := (cell_of_row _ _ 1 _ _ _ (heap_alloc_new w12 _)).trans rfl
  replace hb0 := ext_cell hE hb0
  replace hb1 := ext_cell hE hb1
  replace ha0 := ext_cell hE ha0
  replace ha1 := ext_cell hE ha1
  replace HE := Lib.hid (HE.out.trans hE)
  replace hrw := hrw.ext hE
  clear hE
  refine wp_region_seq [(0, false), (1, false), (2, false), (3, false), (4, false), (5, false), (6, false), (7, false), (8, false), (9, false), (10, false), (11, true), (12, false), (13, false), (14, false), (15, false), (16, false), (17, false), (18, false), (19, false), (20, false), (22, false), (23, false), (21, true), (24, true), (25, false), (26, false), (27, false)] Ext (by kernel_rfl) (by kernel_rfl) Ext.refl (fun _ _ _ => Ext.trans) ?_; simp only [List.map, nth_z, nth_s]
  (repeat (first | (refine seq_skip (by rfl) ?_; intro K hK; simp only [Act.put, List.setIfInBounds_toArray, List.set_cons_zero, List.set_cons_succ]; refine hK _ ?_; clear hK K) | (refine seq_skipc (by rfl) ?_; intro K hK; simp only [Act.put, List.setIfInBounds_toArray, List.set_cons_zero, List.set_cons_succ]; refine hK _ ?_; clear hK K) | (refine seq_read (by rfl) (by rfl) ?_; intro K hK; go_big_quiet_op; first | go_big_quiet_on | (refine ⟨_, fun _ _ => rfl, ?_⟩; go_big_quiet_on))))
  refine seq_value (.agg #[(.int .u64 (S : Int)), (.slice A L.length c)]) (by rfl) (fun x hx => by have hq0 := ext_cell hx ha0; have hq1 := ext_cell hx ha1; simp [go_sem, execOp, Act.eval, hq0, hq1]) ?_; intro K hK; simp only [Act.put, List.setIfInBounds_toArray, List.set_cons_zero, List.set_cons_succ]; refine hK _ ?_; clear hK K
  refine seq_value (.agg #[(.int .u64 (S : Int)), (.slice A L.length c)]) (by rfl) (fun x hx => by have hq0 := ext_cell hx hbb0; have hq1 := ext_cell hx hbb1; simp [go_sem, execOp, Act.eval, hq0, hq1]) ?_; intro K hK; simp only [Act.put, List.setIfInBounds_toArray, List.set_cons_zero, List.set_cons_succ]; refine hK _ ?_; clear hK K
  refine seq_call (same_r S A A L c c (by omega) _ hrw hrw) rfl Try.func13 (by kernel_rfl) (by kernel_rfl) (by rfl) (by rfl) ?_; intro K hK; rintro e w' ⟨rfl, hE⟩; refine ⟨_, rfl, hE, ?_⟩; simp only [Act.put, List.setIfInBounds_toArray, List.set_cons_zero, List.set_cons_succ]; refine hK _ _ ?_; clear hK K
  replace hb0 := ext_cell hE hb0
  replace hb1 := ext_cell hE hb1
  replace HE := Lib.hid (HE.out.trans hE)
  replace hrw := hrw.ext hE
  clear hE
  (repeat (first | (refine seq_skip (by rfl) ?_; intro K hK; simp only [Act.put, List.setIfInBounds_toArray, List.set_cons_zero, List.set_cons_succ]; refine hK _ ?_; clear hK K) | (refine seq_skipc (by rfl) ?_; intro K hK; simp only [Act.put, List.setIfInBounds_toArray, List.set_cons_zero, List.set_cons_succ]; refine hK _ ?_; clear hK K) | (refine seq_read (by rfl) (by rfl) ?_; intro K hK; go_big_quiet_op; first | go_big_quiet_on | (refine ⟨_, fun _ _ => rfl, ?_⟩; go_big_quiet_on))))
  refine seq_value (.agg #[(.int .u64 (S : Int)), (.slice A L.length c)]) (by rfl) (fun x hx => by have hq0 := ext_cell hx hb0; have hq1 := ext_cell hx hb1; simp [go_sem, execOp, Act.eval, hq0, hq1]) ?_; intro K hK; simp only [Act.put, List.setIfInBounds_toArray, List.set_cons_zero, List.set_cons_succ]; refine hK _ ?_; clear hK K
  (repeat (first | (refine seq_skip (by rfl) ?_; intro K hK; simp only [Act.put, List.setIfInBounds_toArray, List.set_cons_zero, List.set_cons_succ]; refine hK _ ?_; clear hK K) | (refine seq_skipc (by rfl) ?_; intro K hK; simp only [Act.put, List.setIfInBounds_toArray, List.set_cons_zero, List.set_cons_succ]; refine hK _ ?_; clear hK K) | (refine seq_read (by rfl) (by rfl) ?_; intro K hK; go_big_quiet_op; first | go_big_quiet_on | (refine ⟨_, fun _ _ => rfl, ?_⟩; go_big_quiet_on))))
  refine seq_value (.agg #[(.int .u64 (S : Int)), (.slice A L.length c)]) (by rfl) (fun x hx => by have hq0 := ext_cell hx hb0; have hq1 := ext_cell hx hb1; simp [go_sem, execOp, Act.eval, hq0, hq1]) ?_; intro K hK; simp only [Act.put, List.setIfInBounds_toArray, List.set_cons_zero, List.set_cons_succ]; refine hK _ ?_; clear hK K
  (repeat (first | (refine seq_skip (by rfl) ?_; intro K hK; simp only [Act.put, List.setIfInBounds_toArray, List.set_cons_zero, List.set_cons_succ]; refine hK _ ?_; clear hK K) | (refine seq_skipc (by rfl) ?_; intro K hK; simp only [Act.put, List.setIfInBounds_toArray, List.set_cons_zero, List.set_cons_succ]; refine hK _ ?_; clear hK K) | (refine seq_read (by rfl) (by rfl) ?_; intro K hK; go_big_quiet_op; first | go_big_quiet_on | (refine ⟨_, fun _ _ => rfl, ?_⟩; go_big_quiet_on))))
  refine seq_call (word_c S A L c at' (S / 8) a1 hrl (by omega) _ hrw.1) rfl Try.func19 (by kernel_rfl) (by kernel_rfl) (by rfl) (by rfl) ?_; intro K hK; rintro e w' ⟨rfl, hE⟩; refine ⟨_, rfl, hE, ?_⟩; simp only [Act.put, List.setIfInBounds_toArray, List.set_cons_zero, List.set_cons_succ]; refine hK _ _ ?_; clear hK K
  replace HE := Lib.hid (HE.out.trans hE)
  replace hrw := hrw.ext hE
  clear hE
  refine seq_call (rword_c S A L c at' a1 hrl hm8 (by omega) _ hrw.1) rfl Try.func20 (by kernel_rfl) (by kernel_rfl) (by rfl) (by rfl) ?_; intro K hK; rintro e w' ⟨rfl, hE⟩; refine ⟨_, rfl, hE, ?_⟩; simp only [Act.put, List.setIfInBounds_toArray, List.set_cons_zero, List.set_cons_succ]; refine hK _ _ ?_; clear hK K
  replace HE := Lib.hid (HE.out.trans hE)
  clear hE
  (repeat (first | (refine seq_skip (by rfl) ?_; intro K hK; simp only [Act.put, List.setIfInBounds_toArray, List.set_cons_zero, List.set_cons_succ]; refine hK _ ?_; clear hK K) | (refine seq_skipc (by rfl) ?_; intro K hK; simp only [Act.put, List.setIfInBounds_toArray, List.set_cons_zero, List.set_cons_succ]; refine hK _ ?_; clear hK K) | (refine seq_read (by rfl) (by rfl) ?_; intro K hK; go_big_quiet_op; first | go_big_quiet_on | (refine ⟨_, fun _ _ => rfl, ?_⟩; go_big_quiet_on))))
  refine seq_done ?_
  go_wp2
  go_ret
  exact ⟨rfl, HE.out⟩

set_option maxRecDepth 100000 in
set_option maxHeartbeats 1000000 in
theorem MemDoes_w (S : Nat) (A : Option Addr) (L : List (Nat × Nat)) (c at' : Nat) (size : Int) (v n : Nat) (hS : S < 18446744073709551616) (hL : IsCells L)
    (a1 : at' < 18446744073709551616) (z0 : -9223372036854775808 ≤ size) (z1 : size ≤ 9223372036854775807) (v1 : v < 18446744073709551616) (n1 : n < 18446744073709551616) (w : World) (hr : RowL w A L c) :
    Calls Try.prog 3 #[.agg #[.int .u64 (S : Int), .slice A L.length c], .int .u64 (at' : Int), .int .i64 size, .int .u64 (v : Int), .int .u64 (n : Int)] w fun e w' => e = .returned (.bool true) ∧ Ext w w' := by
  by_cases h : L.length ≤ 300
  · by_cases hn : SizeOk n
    · cases hR : decide (RightM S L)
      · exact MemDoes_ok_wrong S A L c at' size v n hS hL a1 z0 z1 v1 n1 w hr h hn hR
      · by_cases he : errN size at' S = 0
        · exact MemDoes_ok_st S A L c at' size v n hS hL a1 z0 z1 v1 n1 w hr h hn hR he
        · exact MemDoes_ok_er S A L c at' size v n hS hL a1 z0 z1 v1 n1 w hr h hn hR he
    · cases hR : decide (RightM S L)
      · exact MemDoes_no_wrong S A L c at' size v n hS hL a1 z0 z1 v1 n1 w hr h hn hR
      · by_cases he : errN size at' S = 0
        · exact MemDoes_no_st S A L c at' size v n hS hL a1 z0 z1 v1 n1 w hr h hn hR he
        · exact MemDoes_no_er S A L c at' size v n hS hL a1 z0 z1 v1 n1 w hr h hn hR he
  · exact MemDoes_few S A L c at' size v n hS hL a1 z0 z1 v1 n1 w hr h
end Go.Proofs.Ytcodgmahegofjaa
