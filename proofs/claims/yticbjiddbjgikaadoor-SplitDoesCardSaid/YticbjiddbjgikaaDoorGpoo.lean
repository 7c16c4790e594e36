/- math/bits.TrailingZeros64 and OnesCount64: what each answers. -/
import Derived.Test.YticbjiddbjgikaaDoorGone
import Derived.Test.YticbjiddbjgikaaDoorGpop
import Derived.Below
import Derived.Lib.TrailingZeros
import Derived.Laws.Bits64b
import Derived.Test.YticbjiddbjgikaaDoorGagg
import Derived.StillTailTactics
import Derived.IntWalk
import Derived.BigQuiet
import Derived.Laws.StructEq
namespace Go.Proofs.YticbjiddbjgikaaDoor
open Go.ChangeShapes Go.WideShapes Go.ChangeAt Go.RowKit
set_option linter.unusedVariables false

/-- the library's table lies in its variable -/
def Tab (w : World) : Prop := ∀ j, j < 64 → w.cell? ⟨1, j, none⟩ = some (.int .u8 ((Lib.deBruijn64tab.getD j 0 : Nat) : Int))
theorem Tab.below {w w' : World} (h : Tab w) (hb : Below w.heap.size w w') : Tab w' := fun j hj => by
  have h0 := h j hj
  refine (hb.cell (p := ⟨1, j, none⟩) ?_).trans h0
  exact Go.block_lt_of_cell h0

/-- what the search for the lowest bit reckons, step by step: the number's opposite, its lowest bit, the product, the product's six highest bits -/
theorem tz_steps {x : Nat} (h0 : x ≠ 0) (hx : x < 18446744073709551616) : ∃ y p q i : Nat, IntKind.u64.wrap (-(x : Int)) = (y : Int) ∧ bits .and .u64 (x : Int) (y : Int) = (p : Int) ∧ IntKind.u64.wrap ((p : Int) * 285870213051353865) = (q : Int) ∧
    (q : Int) / 288230376151711744 = (i : Int) ∧ i < 64 ∧ Lib.deBruijn64tab.getD i 0 = Lib.ctz 64 x ∧ Lib.ctz 64 x < 64 := by
  obtain ⟨hp, hk⟩ := Lib.lowest_bit 64 x h0 hx
  obtain ⟨hi, hv⟩ := Lib.deBruijn64_at _ hk
  generalize Lib.ctz 64 x = k at *
  refine ⟨2 ^ 64 - x, 2 ^ k, 2 ^ k * 285870213051353865 % 18446744073709551616, _, ?_, ?_, ?_, rfl, hi, hv, hk⟩
  · rw [IntKind.wrap_u64]; omega
  · rw [and_u64 hx (by omega), hp]
  · rw [IntKind.wrap_u64]; omega
theorem tz_zero (w : World) : Calls Tryd.prog 96 #[.int .u64 0] w fun e w' => e = .returned (.int .i64 64) ∧ w = w' := by
  go_enter Tryd.func96, Tryd.ntmps96
  go_wp2
  go_ret
  exact ⟨rfl, rfl⟩
set_option maxHeartbeats 1000000 in
theorem tz_c (x : Nat) (hx : x < 18446744073709551616) (w : World) (hT : Tab w) :
    Calls Tryd.prog 96 #[.int .u64 x] w fun e w' => e = .returned (.int .i64 ((Lib.ctz 64 x : Nat) : Int)) ∧ w = w' := by
  by_cases h0 : x = 0
  · subst h0
    exact tz_zero w
  obtain ⟨y, p, q, i, e1, e2, e3, e4, hi, hv, hk⟩ := tz_steps h0 hx
  have hc := hT i hi
  rw [hv] at hc
  have hd : ((x : Int) == 0) = false := by simp; omega
  generalize Lib.ctz 64 x = k at *
  clear h0 hx hT hv
  go_enter Tryd.func96, Tryd.ntmps96
  go_wp2
  go_ret
  exact ⟨rfl, rfl⟩

end Go.Proofs.YticbjiddbjgikaaDoor
/- Package pool: marked, freed, Free, Right, Is, Give, Take, New. -/
namespace Go.Proofs.YticbjiddbjgikaaDoor
open Go.ChangeShapes Go.WideShapes Go.ChangeAt Go.RowKit
set_option linter.unusedVariables false
set_option linter.unusedSimpArgs false

theorem setI_bit (F i : Nat) (b : Bool) : setI (F : Int) (i : Int) 1 (if b then 1 else 0) = ((bitN F i b : Nat) : Int) := by
  unfold setI bitN; cases b <;> rfl

set_option maxRecDepth 100000 in
set_option maxHeartbeats 1000000 in
theorem marked_c (B F i : Nat) (M : Int) (b : Bool) (hF : F < 18446744073709551616) (hi : i ≤ 64) (w : World) :
    Calls Tryd.prog 97 #[(.agg #[.int .u64 (B : Int), .int .i64 (M : Int), .int .u64 (F : Int)]), .int .i64 (i : Int), .bool b] w fun e w' => e = .returned (.agg #[.int .u64 (B : Int), .int .i64 (M : Int), .int .u64 (bitN F i b : Int)]) ∧ Ext w w' := by
  have H := Lib.hid (setI_bit F i b)
  go_enter Tryd.func97, Tryd.ntmps97
  go_wp2
  refine region_tail 7 (by kernel_rfl) (by kernel_rfl) ?_; intro w1 hE1
  obtain ⟨hb, hr⟩ := blk_two hE1
  obtain ⟨b0, b1, b2⟩ := hb.c3
  obtain ⟨f0, f1, f2⟩ := hb.f3
  obtain ⟨r0, r1, r2⟩ := hr.c3
  obtain ⟨g0, g1, g2⟩ := hr.f3
  simp only [List.take_succ_cons, List.take_zero, List.drop_succ_cons, List.drop_zero]; repeat still_step
  still_call (Calls.mono (bool_c b _) fun _ _ h => ⟨h.1, h.2.symm⟩); repeat still_step
  still_call (Calls.mono (set_c (F : Int) (i : Int) 1 _ (by omega) (by omega) (by cases b <;> decide) (by cases b <;> decide) (by omega) (by omega) (by omega) (by omega) _) fun _ _ h => ⟨h.1, h.2.symm⟩); repeat still_step
  refine wpStill_nil ?_
  rw [H.out]
  have Hr := Lib.hid hr
  have HE := Lib.hid hE1
  clear hb hr hE1
  clear H
  cases b
  all_goals
    go_wp2
    (try simp only [Exit.inBlock, Exit.then]); refine bodyPost_ret (results_cell_row rfl _ _ _ _ _ _ _ rfl ((Hr.out.other (a := ⟨w.heap.size, 2, none⟩) (by simp) _).set3 _ _ _) Tryd.underlying27 rfl (by kernel_rfl)) rfl ?_
    exact ⟨rfl, ((ext_two HE.out).set1 (Nat.le_refl _) _ _).set3 (by omega) _ _ _⟩

/-- the bits with that frame free, too, if it is one of the pool's -/
def freedN (B M F f : Nat) : Nat := if B ≤ f ∧ f < B + M then bitN F (f - B) true else F
theorem freed_in {B M F f : Nat} (h : B ≤ f) (h2 : f < B + M) : freedN B M F f = bitN F (f - B) true := by unfold freedN; rw [if_pos ⟨h, h2⟩]
theorem freed_out {B M F f : Nat} (h : ¬ (B ≤ f ∧ f < B + M)) : freedN B M F f = F := by unfold freedN; rw [if_neg h]
attribute [irreducible] freedN

theorem sub_in {B f : Nat} (h : B ≤ f) (hf : f < 18446744073709551616) : IntKind.u64.wrap ((f : Int) - (B : Int)) = ((f - B : Nat) : Int) := by rw [IntKind.wrap_u64]; omega
theorem sub_out {B f : Nat} (h : f < B) (hB : B ≤ 268435456) : IntKind.u64.wrap ((f : Int) - (B : Int)) = ((18446744073709551616 + f - B : Nat) : Int) := by rw [IntKind.wrap_u64]; omega

set_option maxRecDepth 100000 in
set_option maxHeartbeats 1000000 in
theorem freed_c (B M F f : Nat) (hB : B ≤ 268435456) (hM : M ≤ 64) (hF : F < 18446744073709551616) (hf : f < 18446744073709551616) (w : World) :
    Calls Tryd.prog 106 #[(.agg #[.int .u64 (B : Int), .int .i64 (M : Int), .int .u64 (F : Int)]), .int .u64 (f : Int)] w fun e w' => e = .returned (.agg #[.int .u64 (B : Int), .int .i64 (M : Int), .int .u64 (freedN B M F f : Int)]) ∧ Ext w w' := by
  by_cases h : B ≤ f ∧ f < B + M
  · have H := Lib.hid (freed_in (F := F) h.1 h.2)
    have hs := sub_in h.1 hf
    have hd : decide ((M : Int) ≤ ((f - B : Nat) : Int)) = false := by simp; omega
    have hd2 : decide (M ≤ f - B) = false := by simp; omega
    have hi : f - B ≤ 64 := by omega
    obtain ⟨i, hi'⟩ : ∃ i, i = f - B := ⟨_, rfl⟩
    rw [← hi'] at hs hd hd2 hi H
    clear h hi'
    go_enter Tryd.func106, Tryd.ntmps106
    go_wp2_with fail
    refine (marked_c B F i M true hF hi _).mono ?_
    rintro e w1 ⟨rfl, hE⟩
    obtain ⟨hb, hr⟩ := blk_two hE
    obtain ⟨r0, r1, r2⟩ := hr.c3
    obtain ⟨g0, g1, g2⟩ := hr.f3
    have Hr := Lib.hid hr
    have HE := Lib.hid hE
    clear hb hr hE hs
    go_wp2
    (try simp only [Exit.inBlock, Exit.then]); refine bodyPost_ret (results_cell_row rfl _ _ _ _ _ _ _ rfl (Hr.out.set3 _ _ _) Tryd.underlying27 rfl (by kernel_rfl)) rfl ?_
    exact ⟨by rw [H.out], (ext_two HE.out).set3 (by omega) _ _ _⟩
  · have H := Lib.hid (freed_out (F := F) h)
    obtain ⟨i, hs, hi⟩ : ∃ i : Nat, IntKind.u64.wrap ((f : Int) - (B : Int)) = (i : Int) ∧ M ≤ i := by
      by_cases h2 : B ≤ f
      · exact ⟨_, sub_in h2 hf, by omega⟩
      · exact ⟨_, sub_out (by omega) hB, by omega⟩
    have hd : decide ((M : Int) ≤ (i : Int)) = true := by simp; omega
    have hd2 : decide (M ≤ i) = true := by simp; omega
    clear h hi
    go_enter Tryd.func106, Tryd.ntmps106
    go_wp2
    (try simp only [Exit.inBlock, Exit.then]); refine bodyPost_ret (results_cell_row rfl _ _ _ _ _ _ _ rfl ((blk_two (Ext.refl _)).2) Tryd.underlying27 rfl (by kernel_rfl)) rfl ?_
    exact ⟨by rw [H.out], ext_two (Ext.refl _)⟩
end Go.Proofs.YticbjiddbjgikaaDoor
/- Package pool: Right, Is, Give, Take, New. -/
namespace Go.Proofs.YticbjiddbjgikaaDoor
open Go.ChangeShapes Go.WideShapes Go.ChangeAt Go.RowKit
set_option linter.unusedVariables false
set_option linter.unusedSimpArgs false

theorem eql_pool (w : World) (b m f b' m' f' : Int) : (binOp .eql 27 (.agg #[.int .u64 b, .int .i64 m, .int .u64 f]) (.agg #[.int .u64 b', .int .i64 m', .int .u64 f'])).run Tryd.prog w = .ok (.bool (b == b' && (m == m' && f == f'))) w := by
  have hp : Tryd.prog.stoodInHeld 27 = false := by kernel_rfl
  rw [run_eql_struct, show (10000 : Nat) = 9998 + 1 + 1 from rfl, run_equalIn_agg w _ _ _ _ (by simp [Program.fieldsOf, Tryd.underlying27]) hp]
  simp only [Program.fieldsOf, Tryd.underlying27]
  by_cases h0 : b = b' <;> by_cases h1 : m = m' <;> by_cases h2 : f = f' <;> simp [go_sem, Op.eqFields, part, run_equalIn_int w 9998 _ _ _ _ _ Tryd.underlying22, run_equalIn_int w 9998 _ _ _ _ _ Tryd.underlying3, h0, h1, h2]
theorem neq_pool (w : World) (b m f b' m' f' : Int) : (binOp .neq 27 (.agg #[.int .u64 b, .int .i64 m, .int .u64 f]) (.agg #[.int .u64 b', .int .i64 m', .int .u64 f'])).run Tryd.prog w = .ok (.bool (!(b == b' && (m == m' && f == f')))) w := by
  have h := eql_pool w b m f b' m' f'
  rw [run_eql_struct] at h
  rw [run_neq_struct]
  cases hr : (Op.equalIn 10000 27 (.agg #[.int .u64 b, .int .i64 m, .int .u64 f]) (.agg #[.int .u64 b', .int .i64 m', .int .u64 f'])).run Tryd.prog w with
  | ok x w1 => rw [hr] at h; simp only [Result.andThen_ok, Result.ok.injEq, Value.bool.injEq] at h ⊢; exact ⟨by rw [h.1], h.2⟩
  | halt x w1 => rw [hr] at h; simp [Result.andThen] at h
theorem neqP (w : World) (B : Nat) (M : Int) (F G : Nat) : (binOp .neq 27 (.agg #[.int .u64 (B : Int), .int .i64 (M : Int), .int .u64 (F : Int)]) (.agg #[.int .u64 (B : Int), .int .i64 (M : Int), .int .u64 (G : Int)])).run Tryd.prog w = .ok (.bool (F != G)) w := by
  rw [neq_pool]; simp [bne]; rw [Bool.eq_iff_iff, beq_iff_eq, beq_iff_eq]; omega
theorem eqlP (w : World) (B : Nat) (M : Int) (F G : Nat) : (binOp .eql 27 (.agg #[.int .u64 (B : Int), .int .i64 (M : Int), .int .u64 (F : Int)]) (.agg #[.int .u64 (B : Int), .int .i64 (M : Int), .int .u64 (G : Int)])).run Tryd.prog w = .ok (.bool (F == G)) w := by
  rw [eql_pool]; simp; rw [Bool.eq_iff_iff, beq_iff_eq, beq_iff_eq]; omega
theorem pool_guard : Tryd.prog.eqGuardType Tryd.prog.depth 27 = false := by kernel_rfl
/-- is that frame one of the pool's that isn't free? -/
def isB (B M F f : Nat) : Bool := decide (B ≤ f) && decide (f < B + M) && !F.testBit (f - B)
theorem isB_ne {B M F f : Nat} (hM : M ≤ 64) (hF : F < 18446744073709551616) : (freedN B M F f != F) = isB B M F f := by
  unfold isB
  by_cases h : B ≤ f ∧ f < B + M
  · rw [freed_in h.1 h.2]
    cases hb : F.testBit (f - B)
    · have := bit_ne (F := F) (by omega) (i := f - B) (by omega) (b := true) (by rw [hb]; decide)
      simp [h, this]
    · simp [h, bit_same (F := F) (by omega) hb]
  · rw [freed_out h]; simp; omega

set_option maxRecDepth 100000 in
set_option maxHeartbeats 1000000 in
theorem is_c (B M F f : Nat) (hB : B ≤ 268435456) (hM : M ≤ 64) (hF : F < 18446744073709551616) (hf : f < 18446744073709551616) (w : World) :
    Calls Tryd.prog 105 #[(.agg #[.int .u64 (B : Int), .int .i64 (M : Int), .int .u64 (F : Int)]), .int .u64 (f : Int)] w fun e w' => e = .returned (.bool (isB B M F f)) ∧ Ext w w' := by
  have H := Lib.hid (isB_ne (B := B) (f := f) hM hF)
  go_enter Tryd.func105, Tryd.ntmps105
  go_wp2
  obtain ⟨b0, b1, b2⟩ := (Blk.new w 27 #[.int .u64 (B : Int), .int .i64 (M : Int), .int .u64 (F : Int)]).c3
  refine wp_region_seq [(0, false), (1, false), (3, false), (2, true), (4, false), (5, false)] Ext (by kernel_rfl) (by kernel_rfl) Ext.refl (fun _ _ _ => Ext.trans) ?_; simp only [List.map, nth_z, nth_s]
  refine seq_value (.agg #[(.int .u64 (B : Int)), (.int .i64 (M : Int)), (.int .u64 (F : Int))]) (by rfl) (fun x hx => by have hq0 := ext_cell hx b0; have hq1 := ext_cell hx b1; have hq2 := ext_cell hx b2; simp [go_sem, execOp, Act.eval, hq0, hq1, hq2]) ?_; intro K hK; simp only [Act.put, List.setIfInBounds_toArray, List.set_cons_zero, List.set_cons_succ]; refine hK _ ?_; clear hK K
  (repeat (first | (refine seq_skip (by rfl) ?_; intro K hK; simp only [Act.put, List.setIfInBounds_toArray, List.set_cons_zero, List.set_cons_succ]; refine hK _ ?_; clear hK K) | (refine seq_skipc (by rfl) ?_; intro K hK; simp only [Act.put, List.setIfInBounds_toArray, List.set_cons_zero, List.set_cons_succ]; refine hK _ ?_; clear hK K) | (refine seq_read (by rfl) (by rfl) ?_; intro K hK; go_big_quiet_op; first | go_big_quiet_on | (refine ⟨_, fun _ _ => rfl, ?_⟩; go_big_quiet_on))))
  refine seq_value (.agg #[(.int .u64 (B : Int)), (.int .i64 (M : Int)), (.int .u64 (F : Int))]) (by rfl) (fun x hx => by have hq0 := ext_cell hx b0; have hq1 := ext_cell hx b1; have hq2 := ext_cell hx b2; simp [go_sem, execOp, Act.eval, hq0, hq1, hq2]) ?_; intro K hK; simp only [Act.put, List.setIfInBounds_toArray, List.set_cons_zero, List.set_cons_succ]; refine hK _ ?_; clear hK K
  refine seq_call (freed_c B M F f hB hM hF hf _) rfl Tryd.func106 (by kernel_rfl) (by kernel_rfl) (by rfl) (by rfl) ?_; intro K hK; rintro e w' ⟨rfl, hE⟩; refine ⟨_, rfl, hE, ?_⟩; simp only [Act.put, List.setIfInBounds_toArray, List.set_cons_zero, List.set_cons_succ]; refine hK _ _ ?_; clear hK K
  refine seq_value (.bool (freedN B M F f != F)) (by rfl) (fun x hx => by simp [go_sem, execOp, Act.eval, neqP, run_eqGuard_agg _ _ _ _ _ _ _ pool_guard]) ?_
  intro K hK; simp only [Act.put, List.setIfInBounds_toArray, List.set_cons_zero, List.set_cons_succ]; refine hK _ ?_; clear hK K
  (repeat (first | (refine seq_skip (by rfl) ?_; intro K hK; simp only [Act.put, List.setIfInBounds_toArray, List.set_cons_zero, List.set_cons_succ]; refine hK _ ?_; clear hK K) | (refine seq_skipc (by rfl) ?_; intro K hK; simp only [Act.put, List.setIfInBounds_toArray, List.set_cons_zero, List.set_cons_succ]; refine hK _ ?_; clear hK K) | (refine seq_read (by rfl) (by rfl) ?_; intro K hK; go_big_quiet_op; first | go_big_quiet_on | (refine ⟨_, fun _ _ => rfl, ?_⟩; go_big_quiet_on))))
  refine seq_done ?_
  go_wp2
  go_ret
  exact ⟨by rw [H.out]; rfl, ext_one ((Ext.refl _).drew.trans hE)⟩

set_option maxRecDepth 100000 in
set_option maxHeartbeats 1000000 in
theorem give_c (B M F f : Nat) (hB : B ≤ 268435456) (hM : M ≤ 64) (hF : F < 18446744073709551616) (hf : f < 18446744073709551616) (w : World) :
    Calls Tryd.prog 90 #[(.agg #[.int .u64 (B : Int), .int .i64 (M : Int), .int .u64 (F : Int)]), .int .u64 (f : Int)] w fun e w' => e = .returned (.tuple #[(.agg #[.int .u64 (B : Int), .int .i64 (M : Int), .int .u64 (freedN B M F f : Int)]), .int .i64 (if isB B M F f then 0 else 1)]) ∧ Ext w w' := by
  have hne := isB_ne (B := B) (f := f) hM hF
  cases hb : isB B M F f
  all_goals
    rw [hb] at hne
    go_enter Tryd.func90, Tryd.ntmps90
    go_wp2_with fail
    refine (is_c B M F f hB hM hF hf _).mono ?_
    rintro e w1 ⟨rfl, hE⟩
    rw [hb]
    obtain ⟨k, hr⟩ := blk_two hE
    obtain ⟨b0, b1, b2⟩ := k.c3
    obtain ⟨r0, r1, r2⟩ := hr.c3
    obtain ⟨g0, g1, g2⟩ := hr.f3
  · have H : Hid (freedN B M F f = F) := Lib.hid (by simpa using hne)
    have Hr := Lib.hid hr
    have HE := Lib.hid hE
    clear k hr hE hne
    go_wp2
    (try simp only [Exit.inBlock, Exit.then]); refine bodyPost_ret (results_c2 rfl _ _ _ _ _ _ rfl (Hr.out.set3 _ _ _) rfl Tryd.underlying27 (by kernel_rfl)) rfl ?_
    exact ⟨by rw [H.out]; rfl, (ext_two HE.out).set3 (by omega) _ _ _⟩
  · have HE := Lib.hid hE
    clear k hE hne
    go_wp2_with fail
    refine (freed_c B M F f hB hM hF hf _).mono ?_
    rintro e w2 ⟨rfl, hE2⟩
    replace hr := hr.ext hE2
    obtain ⟨r0, r1, r2⟩ := hr.c3
    obtain ⟨g0, g1, g2⟩ := hr.f3
    replace HE := Lib.hid ((ext_two HE.out).trans hE2)
    have Hr := Lib.hid hr
    clear hr hE2
    go_wp2
    (try simp only [Exit.inBlock, Exit.then]); refine bodyPost_ret (results_c2 rfl _ _ _ _ _ _ rfl (Hr.out.set3 _ _ _) rfl Tryd.underlying27 (by kernel_rfl)) rfl ?_
    exact ⟨rfl, HE.out.set3 (by omega) _ _ _⟩

/-- is a pool right? -/
def rightB (B : Nat) (M : Int) (F : Nat) : Bool := decide (0 ≤ M) && decide (M ≤ 64) && decide (B ≤ 268435456) && decide (F < 2 ^ M.toNat)
theorem right_no1 {B F : Nat} {M : Int} (h : M < 0 ∨ 64 < M ∨ 268435456 < B) : rightB B M F = false := by
  unfold rightB; rcases h with h | h | h <;> simp <;> omega
attribute [irreducible] rightB

set_option maxRecDepth 100000 in
set_option maxHeartbeats 1000000 in
theorem take_no (B M : Nat) (w : World) (hT : Tab w) :
    Calls Tryd.prog 79 #[.agg #[.int .u64 (B : Int), .int .i64 (M : Int), .int .u64 0]] w fun e w' => e = .returned (.tuple #[.agg #[.int .u64 (B : Int), .int .i64 (M : Int), .int .u64 0], .int .u64 0, .int .i64 8]) ∧ Ext w w' := by
  have hm : ∀ w, Calls Tryd.prog 97 #[.agg #[.int .u64 (B : Int), .int .i64 (M : Int), .int .u64 0], .int .i64 64, .bool false] w fun e w' => e = .returned (.agg #[.int .u64 (B : Int), .int .i64 (M : Int), .int .u64 0]) ∧ Ext w w' := fun w => by
    have hm := marked_c B 0 64 M false (by decide) (by decide) w
    rwa [bit_out (by decide) (by decide) false] at hm
  have hq : ∀ w, (binOp .eql 27 (.agg #[.int .u64 (B : Int), .int .i64 (M : Int), .int .u64 0]) (.agg #[.int .u64 (B : Int), .int .i64 (M : Int), .int .u64 0])).run Tryd.prog w = .ok (.bool true) w := fun w => eqlP w B M 0 0
  have hg := pool_guard
  go_enter Tryd.func79, Tryd.ntmps79
  go_wp2_with fail
  refine (tz_zero _).mono ?_
  rintro e w1 ⟨rfl, hw1⟩
  subst hw1
  go_wp2_with fail
  refine (hm _).mono ?_
  rintro e w2 ⟨rfl, hE⟩
  clear hm
  obtain ⟨hb, hr⟩ := blk_two hE
  obtain ⟨b0, b1, b2⟩ := hb.c3
  obtain ⟨r0, r1, r2⟩ := hr.c3
  obtain ⟨g0, g1, g2⟩ := hr.f3
  have Hr := Lib.hid hr
  have HE := Lib.hid (ext_two hE)
  have hl : w.heap.size + 1 < w2.heap.size := hr.lt
  have hl0 : w.heap.size < w2.heap.size := hb.lt
  clear hb hr hE
  go_wp2
  (try simp only [Exit.inBlock, Exit.then]); refine bodyPost_ret (results_c3 rfl _ _ _ _ _ _ rfl ((Hr.out.set3 _ _ _).alloc _) rfl Tryd.underlying27 (by kernel_rfl)) rfl ?_
  exact ⟨rfl, (HE.out.set3 (by omega) _ _ _).alloc _⟩

set_option maxRecDepth 100000 in
set_option maxHeartbeats 1000000 in
theorem take_yes (B M F : Nat) (hB : B ≤ 268435456) (hF : F < 18446744073709551616) (h0 : F ≠ 0) (w : World) (hT : Tab w) :
    Calls Tryd.prog 79 #[(.agg #[.int .u64 (B : Int), .int .i64 (M : Int), .int .u64 (F : Int)])] w fun e w' => e = .returned (.tuple #[(.agg #[.int .u64 (B : Int), .int .i64 (M : Int), .int .u64 (takeF F : Int)]), .int .u64 ((B + lowN' F : Nat) : Int), .int .i64 0]) ∧ Ext w w' := by
  have hk := (low_spec h0 (by omega)).1
  have hm : ∀ w, Calls Tryd.prog 97 #[(.agg #[.int .u64 (B : Int), .int .i64 (M : Int), .int .u64 (F : Int)]), .int .i64 ((lowN' F : Nat) : Int), .bool false] w fun e w' => e = .returned (.agg #[.int .u64 (B : Int), .int .i64 (M : Int), .int .u64 (takeF F : Int)]) ∧ Ext w w' := fun w => by
    have hm := marked_c B F (lowN' F) M false hF (by omega) w
    rwa [← take_def] at hm
  have ht : ∀ w, Tab w → Calls Tryd.prog 96 #[.int .u64 (F : Int)] w fun e w' => e = .returned (.int .i64 ((lowN' F : Nat) : Int)) ∧ w = w' := fun w h => by
    have := tz_c F hF w h
    rwa [← low_def] at this
  have hne : (takeF F == F) = false := by simpa using take_ne h0 (by omega)
  have hq : ∀ w, (binOp .eql 27 (.agg #[.int .u64 (B : Int), .int .i64 (M : Int), .int .u64 (takeF F : Int)]) (.agg #[.int .u64 (B : Int), .int .i64 (M : Int), .int .u64 (F : Int)])).run Tryd.prog w = .ok (.bool false) w := fun w => by rw [← hne]; exact eqlP w B M _ _
  have hg := pool_guard
  generalize lowN' F = k at *
  generalize takeF F = G at *
  clear hne h0
  have hT1 := Lib.hid (((hT.below ((Ext.refl w).alloc (.cells #[.int .u64 (B : Int), .int .i64 (M : Int), .int .u64 (F : Int)] 27))).below ((Ext.refl _).alloc (.cells #[.int .u64 0, .int .i64 0, .int .u64 0] 27))))
  clear hT
  go_enter Tryd.func79, Tryd.ntmps79
  go_wp2_with fail
  refine (ht _ hT1.out).mono ?_
  rintro e w1 ⟨rfl, hw1⟩
  subst hw1
  go_wp2_with fail
  refine (hm _).mono ?_
  rintro e w2 ⟨rfl, hE⟩
  clear hm ht hT1
  obtain ⟨hb, hr⟩ := blk_two hE
  obtain ⟨b0, b1, b2⟩ := hb.c3
  obtain ⟨r0, r1, r2⟩ := hr.c3
  obtain ⟨g0, g1, g2⟩ := hr.f3
  have Hr := Lib.hid hr
  have Hb := Lib.hid hb
  have HE := Lib.hid (ext_two hE)
  have hl : w.heap.size + 1 < w2.heap.size := hr.lt
  have hl0 : w.heap.size < w2.heap.size := hb.lt
  clear hb hr hE
  have hs : IntKind.u64.wrap ((B : Int) + (k : Int)) = (B : Int) + (k : Int) := by rw [IntKind.wrap_u64]; omega
  go_wp2
  refine wp_region_seq [(0, false), (1, false), (2, false), (3, false), (4, false), (5, false), (6, true), (7, false), (8, false)] (Bar (w.heap.size + 1)) (by kernel_rfl) (by kernel_rfl) (Bar.refl _) (fun _ _ _ => Bar.trans) ?_; simp only [List.map, nth_z, nth_s]
  have hq3 := (Blk.new w2 27 #[.int .u64 (B : Int), .int .i64 (M : Int), .int .u64 (G : Int)]).drew
  have hb3 := (Hb.out.alloc (.cells #[.int .u64 (B : Int), .int .i64 (M : Int), .int .u64 (G : Int)] 27)).drew
  have hr3 := (Hr.out.alloc (.cells #[.int .u64 (B : Int), .int .i64 (M : Int), .int .u64 (G : Int)] 27)).drew
  have hE3 := (HE.out.alloc (.cells #[.int .u64 (B : Int), .int .i64 (M : Int), .int .u64 (G : Int)] 27)).drew
  generalize (w2.alloc (.cells #[.int .u64 (B : Int), .int .i64 (M : Int), .int .u64 (G : Int)] 27)).drew = w3 at *
  obtain ⟨q0, q1, q2⟩ := hq3.c3
  obtain ⟨c0, c1, c2⟩ := hb3.c3
  obtain ⟨d0, d1, d2⟩ := hr3.c3
  obtain ⟨e0, e1, e2⟩ := hr3.f3
  refine seq_value (.agg #[(.int .u64 (B : Int)), (.int .i64 (M : Int)), (.int .u64 (G : Int))]) (by rfl) (fun x hx => by have hq0 := bar_cell hx q0 (by omega); have hq1 := bar_cell hx q1 (by omega); have hq2 := bar_cell hx q2 (by omega); simp [go_sem, execOp, Act.eval, hq0, hq1, hq2]) ?_; intro K hK; simp only [Act.put, List.setIfInBounds_toArray, List.set_cons_zero, List.set_cons_succ]; refine hK _ ?_; clear hK K
  (repeat (first | (refine seq_skip (by rfl) ?_; intro K hK; simp only [Act.put, List.setIfInBounds_toArray, List.set_cons_zero, List.set_cons_succ]; refine hK _ ?_; clear hK K) | (refine seq_skipc (by rfl) ?_; intro K hK; simp only [Act.put, List.setIfInBounds_toArray, List.set_cons_zero, List.set_cons_succ]; refine hK _ ?_; clear hK K) | (refine seq_read (by rfl) (by rfl) ?_; intro K hK; go_big_quiet_op; first | go_big_quiet_on | (refine ⟨_, fun _ _ => rfl, ?_⟩; go_big_quiet_on))))
  refine seq_value (.int .u64 (B : Int)) (by rfl) (fun x hx => by have hq := bar_cell hx c0 (by omega); simp [go_sem, execOp, Act.eval, hq]) ?_; intro K hK; simp only [Act.put, List.setIfInBounds_toArray, List.set_cons_zero, List.set_cons_succ]; refine hK _ ?_; clear hK K
  (repeat (first | (refine seq_skip (by rfl) ?_; intro K hK; simp only [Act.put, List.setIfInBounds_toArray, List.set_cons_zero, List.set_cons_succ]; refine hK _ ?_; clear hK K) | (refine seq_skipc (by rfl) ?_; intro K hK; simp only [Act.put, List.setIfInBounds_toArray, List.set_cons_zero, List.set_cons_succ]; refine hK _ ?_; clear hK K) | (refine seq_read (by rfl) (by rfl) ?_; intro K hK; go_big_quiet_op; first | go_big_quiet_on | (refine ⟨_, fun _ _ => rfl, ?_⟩; go_big_quiet_on))))
  refine seq_store (((w3.setCell ⟨w.heap.size + 1, 0, none⟩ (.int .u64 (B : Int))).setCell ⟨w.heap.size + 1, 1, none⟩ (.int .i64 (M : Int))).setCell ⟨w.heap.size + 1, 2, none⟩ (.int .u64 (G : Int))) (by rfl) ?_ ((((Bar.refl _ w3).set 0 _).set 1 _).set 2 _) ?_; (simp [go_sem, execOp, Act.eval, d0, d1, d2, e0, e1, e2]); intro K hK; simp only [Act.put, List.setIfInBounds_toArray, List.set_cons_zero, List.set_cons_succ]; refine hK _ _ ?_; clear hK K
  (repeat (first | (refine seq_skip (by rfl) ?_; intro K hK; simp only [Act.put, List.setIfInBounds_toArray, List.set_cons_zero, List.set_cons_succ]; refine hK _ ?_; clear hK K) | (refine seq_skipc (by rfl) ?_; intro K hK; simp only [Act.put, List.setIfInBounds_toArray, List.set_cons_zero, List.set_cons_succ]; refine hK _ ?_; clear hK K) | (refine seq_read (by rfl) (by rfl) ?_; intro K hK; go_big_quiet_op; first | go_big_quiet_on | (refine ⟨_, fun _ _ => rfl, ?_⟩; go_big_quiet_on))))
  refine seq_done ?_
  go_wp2
  (try simp only [Exit.inBlock, Exit.then]); refine bodyPost_ret (results_c3 rfl _ _ _ _ _ _ rfl (hr3.set3 _ _ _) rfl Tryd.underlying27 (by kernel_rfl)) rfl ?_
  exact ⟨by rw [Int.natCast_add]; rfl, hE3.set3 (by omega) _ _ _⟩

end Go.Proofs.YticbjiddbjgikaaDoor
