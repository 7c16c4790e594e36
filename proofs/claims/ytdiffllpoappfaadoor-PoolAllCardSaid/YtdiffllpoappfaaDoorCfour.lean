/- Package pool: marked, freed, Free, Right, Is, Give, Take, New. -/
import Derived.Test.YtdiffllpoappfaaDoorCsig
import Derived.Test.YtdiffllpoappfaaDoorCtz
import Derived.Test.YtdiffllpoappfaaDoorMfour
import Derived.Test.YtdiffllpoappfaaDoorBox
import Derived.StillTailTactics
import Derived.IntWalk
namespace Go.Proofs.YtdiffllpoappfaaDoor
open Go.ChangeShapes Go.WideShapes Go.ChangeAt Go.RowKit
set_option linter.unusedVariables false
set_option linter.unusedSimpArgs false

theorem setI_bit (F i : Nat) (b : Bool) : setI (F : Int) (i : Int) 1 (if b then 1 else 0) = ((bitN F i b : Nat) : Int) := by
  unfold setI bitN; cases b <;> rfl

set_option maxRecDepth 100000 in
set_option maxHeartbeats 1000000 in
theorem marked_c (B F i : Nat) (M : Int) (b : Bool) (hF : F < 18446744073709551616) (hi : i ≤ 64) (w : World) :
    Calls Tryd.prog 24 #[(.agg #[.int .u64 (B : Int), .int .i64 (M : Int), .int .u64 (F : Int)]), .int .i64 (i : Int), .bool b] w fun e w' => e = .returned (.agg #[.int .u64 (B : Int), .int .i64 (M : Int), .int .u64 (bitN F i b : Int)]) ∧ Ext w w' := by
  have H := Lib.hid (setI_bit F i b)
  go_enter Tryd.func24, Tryd.ntmps24
  go_wp2
  refine region_tail 7 (by kernel_rfl) (by kernel_rfl) ?_; intro w1 hE1
  obtain ⟨hb, hr⟩ := blk_two hE1
  obtain ⟨b0, b1, b2⟩ := hb.c3
  obtain ⟨f0, f1, f2⟩ := hb.f3
  obtain ⟨r0, r1, r2⟩ := hr.c3
  obtain ⟨g0, g1, g2⟩ := hr.f3
  simp only [List.take_succ_cons, List.take_zero, List.drop_succ_cons, List.drop_zero]; repeat still_step
  still_call (Calls.mono (bool_c b _) fun _ _ h => ⟨h.1, h.2.symm⟩); repeat still_step
  still_call (Calls.mono (set_c (F : Int) (i : Int) 1 _ (by omega) (by omega) (by cases b <;> decide) (by cases b <;> decide) (by omega) (by omega) (by omega) (by omega) _) fun _ _ h => ⟨h.1, h.2.symm⟩); repeat still_step
  refine wpStill_nil ?_
  rw [H.out]
  have Hr := Lib.hid hr
  have HE := Lib.hid hE1
  clear hb hr hE1
  clear H
  cases b
  all_goals
    go_wp2
    (try simp only [Exit.inBlock, Exit.then]); refine bodyPost_ret (results_cell_row rfl _ _ _ _ _ _ _ rfl ((Hr.out.other (a := ⟨w.heap.size, 2, none⟩) (by simp) _).set3 _ _ _) Tryd.underlying24 rfl (by kernel_rfl)) rfl ?_
    exact ⟨rfl, ((ext_two HE.out).set1 (Nat.le_refl _) _ _).set3 (by omega) _ _ _⟩

set_option maxRecDepth 100000 in
theorem free_c (B F : Nat) (M : Int) (hF : F < 18446744073709551616) (w : World) :
    Calls Tryd.prog 15 #[(.agg #[.int .u64 (B : Int), .int .i64 (M : Int), .int .u64 (F : Int)])] w fun e w' => e = .returned (.int .i64 ((popN F 64 : Nat) : Int)) ∧ Ext w w' := by
  have HE := Lib.hid ((Ext.refl w).alloc (.cells #[.int .u64 (B : Int), .int .i64 M, .int .u64 (F : Int)] 24))
  go_enter Tryd.func15, Tryd.ntmps15
  go_wp2_with (go_at_call 27; refine (ones_c _ hF _).mono ?_; rintro e w' ⟨rfl, rfl⟩)
  go_ret
  exact ⟨rfl, HE.out⟩

/-- the bits with that frame free, too, if it is one of the pool's -/
def freedN (B M F f : Nat) : Nat := if B ≤ f ∧ f < B + M then bitN F (f - B) true else F
theorem freed_in {B M F f : Nat} (h : B ≤ f) (h2 : f < B + M) : freedN B M F f = bitN F (f - B) true := by unfold freedN; rw [if_pos ⟨h, h2⟩]
theorem freed_out {B M F f : Nat} (h : ¬ (B ≤ f ∧ f < B + M)) : freedN B M F f = F := by unfold freedN; rw [if_neg h]
attribute [irreducible] freedN

theorem sub_in {B f : Nat} (h : B ≤ f) (hf : f < 18446744073709551616) : IntKind.u64.wrap ((f : Int) - (B : Int)) = ((f - B : Nat) : Int) := by rw [IntKind.wrap_u64]; omega
theorem sub_out {B f : Nat} (h : f < B) (hB : B ≤ 268435456) : IntKind.u64.wrap ((f : Int) - (B : Int)) = ((18446744073709551616 + f - B : Nat) : Int) := by rw [IntKind.wrap_u64]; omega

set_option maxRecDepth 100000 in
set_option maxHeartbeats 1000000 in
theorem freed_c (B M F f : Nat) (hB : B ≤ 268435456) (hM : M ≤ 64) (hF : F < 18446744073709551616) (hf : f < 18446744073709551616) (w : World) :
    Calls Tryd.prog 26 #[(.agg #[.int .u64 (B : Int), .int .i64 (M : Int), .int .u64 (F : Int)]), .int .u64 (f : Int)] w fun e w' => e = .returned (.agg #[.int .u64 (B : Int), .int .i64 (M : Int), .int .u64 (freedN B M F f : Int)]) ∧ Ext w w' := by
  by_cases h : B ≤ f ∧ f < B + M
  · have H := Lib.hid (freed_in (F := F) h.1 h.2)
    have hs := sub_in h.1 hf
    have hd : decide ((M : Int) ≤ ((f - B : Nat) : Int)) = false := by simp; omega
    have hd2 : decide (M ≤ f - B) = false := by simp; omega
    have hi : f - B ≤ 64 := by omega
    obtain ⟨i, hi'⟩ : ∃ i, i = f - B := ⟨_, rfl⟩
    rw [← hi'] at hs hd hd2 hi H
    clear h hi'
    go_enter Tryd.func26, Tryd.ntmps26
    go_wp2_with fail
    refine (marked_c B F i M true hF hi _).mono ?_
    rintro e w1 ⟨rfl, hE⟩
    obtain ⟨hb, hr⟩ := blk_two hE
    obtain ⟨r0, r1, r2⟩ := hr.c3
    obtain ⟨g0, g1, g2⟩ := hr.f3
    have Hr := Lib.hid hr
    have HE := Lib.hid hE
    clear hb hr hE hs
    go_wp2
    (try simp only [Exit.inBlock, Exit.then]); refine bodyPost_ret (results_cell_row rfl _ _ _ _ _ _ _ rfl (Hr.out.set3 _ _ _) Tryd.underlying24 rfl (by kernel_rfl)) rfl ?_
    exact ⟨by rw [H.out], (ext_two HE.out).set3 (by omega) _ _ _⟩
  · have H := Lib.hid (freed_out (F := F) h)
    obtain ⟨i, hs, hi⟩ : ∃ i : Nat, IntKind.u64.wrap ((f : Int) - (B : Int)) = (i : Int) ∧ M ≤ i := by
      by_cases h2 : B ≤ f
      · exact ⟨_, sub_in h2 hf, by omega⟩
      · exact ⟨_, sub_out (by omega) hB, by omega⟩
    have hd : decide ((M : Int) ≤ (i : Int)) = true := by simp; omega
    have hd2 : decide (M ≤ i) = true := by simp; omega
    clear h hi
    go_enter Tryd.func26, Tryd.ntmps26
    go_wp2
    (try simp only [Exit.inBlock, Exit.then]); refine bodyPost_ret (results_cell_row rfl _ _ _ _ _ _ _ rfl ((blk_two (Ext.refl _)).2) Tryd.underlying24 rfl (by kernel_rfl)) rfl ?_
    exact ⟨by rw [H.out], ext_two (Ext.refl _)⟩
end Go.Proofs.YtdiffllpoappfaaDoor
