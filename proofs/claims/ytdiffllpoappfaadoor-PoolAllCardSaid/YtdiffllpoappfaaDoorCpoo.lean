/- Package pool: Right, Is, Give, Take, New. -/
import Derived.Test.YtdiffllpoappfaaDoorCfour
import Derived.BigQuiet
import Derived.Laws.StructEq
namespace Go.Proofs.YtdiffllpoappfaaDoor
open Go.ChangeShapes Go.WideShapes Go.ChangeAt Go.RowKit
set_option linter.unusedVariables false
set_option linter.unusedSimpArgs false

theorem eql_pool (w : World) (b m f b' m' f' : Int) : (binOp .eql 24 (.agg #[.int .u64 b, .int .i64 m, .int .u64 f]) (.agg #[.int .u64 b', .int .i64 m', .int .u64 f'])).run Tryd.prog w = .ok (.bool (b == b' && (m == m' && f == f'))) w := by
  have hp : Tryd.prog.stoodInHeld 24 = false := by kernel_rfl
  rw [run_eql_struct, show (10000 : Nat) = 9998 + 1 + 1 from rfl, run_equalIn_agg w _ _ _ _ (by simp [Program.fieldsOf, Tryd.underlying24]) hp]
  simp only [Program.fieldsOf, Tryd.underlying24]
  by_cases h0 : b = b' <;> by_cases h1 : m = m' <;> by_cases h2 : f = f' <;> simp [go_sem, Op.eqFields, part, run_equalIn_int w 9998 _ _ _ _ _ Tryd.underlying22, run_equalIn_int w 9998 _ _ _ _ _ Tryd.underlying3, h0, h1, h2]
theorem neq_pool (w : World) (b m f b' m' f' : Int) : (binOp .neq 24 (.agg #[.int .u64 b, .int .i64 m, .int .u64 f]) (.agg #[.int .u64 b', .int .i64 m', .int .u64 f'])).run Tryd.prog w = .ok (.bool (!(b == b' && (m == m' && f == f')))) w := by
  have h := eql_pool w b m f b' m' f'
  rw [run_eql_struct] at h
  rw [run_neq_struct]
  cases hr : (Op.equalIn 10000 24 (.agg #[.int .u64 b, .int .i64 m, .int .u64 f]) (.agg #[.int .u64 b', .int .i64 m', .int .u64 f'])).run Tryd.prog w with
  | ok x w1 => rw [hr] at h; simp only [Result.andThen_ok, Result.ok.injEq, Value.bool.injEq] at h ⊢; exact ⟨by rw [h.1], h.2⟩
  | halt x w1 => rw [hr] at h; simp [Result.andThen] at h
theorem neqP (w : World) (B : Nat) (M : Int) (F G : Nat) : (binOp .neq 24 (.agg #[.int .u64 (B : Int), .int .i64 (M : Int), .int .u64 (F : Int)]) (.agg #[.int .u64 (B : Int), .int .i64 (M : Int), .int .u64 (G : Int)])).run Tryd.prog w = .ok (.bool (F != G)) w := by
  rw [neq_pool]; simp [bne]; rw [Bool.eq_iff_iff, beq_iff_eq, beq_iff_eq]; omega
theorem eqlP (w : World) (B : Nat) (M : Int) (F G : Nat) : (binOp .eql 24 (.agg #[.int .u64 (B : Int), .int .i64 (M : Int), .int .u64 (F : Int)]) (.agg #[.int .u64 (B : Int), .int .i64 (M : Int), .int .u64 (G : Int)])).run Tryd.prog w = .ok (.bool (F == G)) w := by
  rw [eql_pool]; simp; rw [Bool.eq_iff_iff, beq_iff_eq, beq_iff_eq]; omega
theorem pool_guard : Tryd.prog.eqGuardType Tryd.prog.depth 24 = false := by kernel_rfl
/-- is that frame one of the pool's that isn't free? -/
def isB (B M F f : Nat) : Bool := decide (B ≤ f) && decide (f < B + M) && !F.testBit (f - B)
theorem isB_ne {B M F f : Nat} (hM : M ≤ 64) (hF : F < 18446744073709551616) : (freedN B M F f != F) = isB B M F f := by
  unfold isB
  by_cases h : B ≤ f ∧ f < B + M
  · rw [freed_in h.1 h.2]
    cases hb : F.testBit (f - B)
    · have := bit_ne (F := F) (by omega) (i := f - B) (by omega) (b := true) (by rw [hb]; decide)
      simp [h, this]
    · simp [h, bit_same (F := F) (by omega) hb]
  · rw [freed_out h]; simp; omega

set_option maxRecDepth 100000 in
set_option maxHeartbeats 1000000 in
theorem is_c (B M F f : Nat) (hB : B ≤ 268435456) (hM : M ≤ 64) (hF : F < 18446744073709551616) (hf : f < 18446744073709551616) (w : World) :
    Calls Tryd.prog 17 #[(.agg #[.int .u64 (B : Int), .int .i64 (M : Int), .int .u64 (F : Int)]), .int .u64 (f : Int)] w fun e w' => e = .returned (.bool (isB B M F f)) ∧ Ext w w' := by
  have H := Lib.hid (isB_ne (B := B) (f := f) hM hF)
  go_enter Tryd.func17, Tryd.ntmps17
  go_wp2
  obtain ⟨b0, b1, b2⟩ := (Blk.new w 24 #[.int .u64 (B : Int), .int .i64 (M : Int), .int .u64 (F : Int)]).c3
  refine wp_region_seq [(0, false), (1, false), (3, false), (2, true), (4, false), (5, false)] Ext (by kernel_rfl) (by kernel_rfl) Ext.refl (fun _ _ _ => Ext.trans) ?_; simp only [List.map, nth_z, nth_s]
  refine seq_value (.agg #[(.int .u64 (B : Int)), (.int .i64 (M : Int)), (.int .u64 (F : Int))]) (by rfl) (fun x hx => by have hq0 := ext_cell hx b0; have hq1 := ext_cell hx b1; have hq2 := ext_cell hx b2; simp [go_sem, execOp, Act.eval, hq0, hq1, hq2]) ?_; intro K hK; simp only [Act.put, List.setIfInBounds_toArray, List.set_cons_zero, List.set_cons_succ]; refine hK _ ?_; clear hK K
  (repeat (first | (refine seq_skip (by rfl) ?_; intro K hK; simp only [Act.put, List.setIfInBounds_toArray, List.set_cons_zero, List.set_cons_succ]; refine hK _ ?_; clear hK K) | (refine seq_skipc (by rfl) ?_; intro K hK; simp only [Act.put, List.setIfInBounds_toArray, List.set_cons_zero, List.set_cons_succ]; refine hK _ ?_; clear hK K) | (refine seq_read (by rfl) (by rfl) ?_; intro K hK; go_big_quiet_op; first | go_big_quiet_on | (refine ⟨_, fun _ _ => rfl, ?_⟩; go_big_quiet_on))))
  refine seq_value (.agg #[(.int .u64 (B : Int)), (.int .i64 (M : Int)), (.int .u64 (F : Int))]) (by rfl) (fun x hx => by have hq0 := ext_cell hx b0; have hq1 := ext_cell hx b1; have hq2 := ext_cell hx b2; simp [go_sem, execOp, Act.eval, hq0, hq1, hq2]) ?_; intro K hK; simp only [Act.put, List.setIfInBounds_toArray, List.set_cons_zero, List.set_cons_succ]; refine hK _ ?_; clear hK K
  refine seq_call (freed_c B M F f hB hM hF hf _) rfl Tryd.func26 (by kernel_rfl) (by kernel_rfl) (by rfl) (by rfl) ?_; intro K hK; rintro e w' ⟨rfl, hE⟩; refine ⟨_, rfl, hE, ?_⟩; simp only [Act.put, List.setIfInBounds_toArray, List.set_cons_zero, List.set_cons_succ]; refine hK _ _ ?_; clear hK K
  refine seq_value (.bool (freedN B M F f != F)) (by rfl) (fun x hx => by simp [go_sem, execOp, Act.eval, neqP, run_eqGuard_agg _ _ _ _ _ _ _ pool_guard]) ?_
  intro K hK; simp only [Act.put, List.setIfInBounds_toArray, List.set_cons_zero, List.set_cons_succ]; refine hK _ ?_; clear hK K
  (repeat (first | (refine seq_skip (by rfl) ?_; intro K hK; simp only [Act.put, List.setIfInBounds_toArray, List.set_cons_zero, List.set_cons_succ]; refine hK _ ?_; clear hK K) | (refine seq_skipc (by rfl) ?_; intro K hK; simp only [Act.put, List.setIfInBounds_toArray, List.set_cons_zero, List.set_cons_succ]; refine hK _ ?_; clear hK K) | (refine seq_read (by rfl) (by rfl) ?_; intro K hK; go_big_quiet_op; first | go_big_quiet_on | (refine ⟨_, fun _ _ => rfl, ?_⟩; go_big_quiet_on))))
  refine seq_done ?_
  go_wp2
  go_ret
  exact ⟨by rw [H.out]; rfl, ext_one ((Ext.refl _).drew.trans hE)⟩

set_option maxRecDepth 100000 in
set_option maxHeartbeats 1000000 in
theorem give_c (B M F f : Nat) (hB : B ≤ 268435456) (hM : M ≤ 64) (hF : F < 18446744073709551616) (hf : f < 18446744073709551616) (w : World) :
    Calls Tryd.prog 13 #[(.agg #[.int .u64 (B : Int), .int .i64 (M : Int), .int .u64 (F : Int)]), .int .u64 (f : Int)] w fun e w' => e = .returned (.tuple #[(.agg #[.int .u64 (B : Int), .int .i64 (M : Int), .int .u64 (freedN B M F f : Int)]), .int .i64 (if isB B M F f then 0 else 1)]) ∧ Ext w w' := by
  have hne := isB_ne (B := B) (f := f) hM hF
  cases hb : isB B M F f
  all_goals
    rw [hb] at hne
    go_enter Tryd.func13, Tryd.ntmps13
    go_wp2_with fail
    refine (is_c B M F f hB hM hF hf _).mono ?_
    rintro e w1 ⟨rfl, hE⟩
    rw [hb]
    obtain ⟨k, hr⟩ := blk_two hE
    obtain ⟨b0, b1, b2⟩ := k.c3
    obtain ⟨r0, r1, r2⟩ := hr.c3
    obtain ⟨g0, g1, g2⟩ := hr.f3
  · have H : Hid (freedN B M F f = F) := Lib.hid (by simpa using hne)
    have Hr := Lib.hid hr
    have HE := Lib.hid hE
    clear k hr hE hne
    go_wp2
    (try simp only [Exit.inBlock, Exit.then]); refine bodyPost_ret (results_c2 rfl _ _ _ _ _ _ rfl (Hr.out.set3 _ _ _) rfl Tryd.underlying24 (by kernel_rfl)) rfl ?_
    exact ⟨by rw [H.out]; rfl, (ext_two HE.out).set3 (by omega) _ _ _⟩
  · have HE := Lib.hid hE
    clear k hE hne
    go_wp2_with fail
    refine (freed_c B M F f hB hM hF hf _).mono ?_
    rintro e w2 ⟨rfl, hE2⟩
    replace hr := hr.ext hE2
    obtain ⟨r0, r1, r2⟩ := hr.c3
    obtain ⟨g0, g1, g2⟩ := hr.f3
    replace HE := Lib.hid ((ext_two HE.out).trans hE2)
    have Hr := Lib.hid hr
    clear hr hE2
    go_wp2
    (try simp only [Exit.inBlock, Exit.then]); refine bodyPost_ret (results_c2 rfl _ _ _ _ _ _ rfl (Hr.out.set3 _ _ _) rfl Tryd.underlying24 (by kernel_rfl)) rfl ?_
    exact ⟨rfl, HE.out.set3 (by omega) _ _ _⟩

/-- is a pool right? -/
def rightB (B : Nat) (M : Int) (F : Nat) : Bool := decide (0 ≤ M) && decide (M ≤ 64) && decide (B ≤ 268435456) && decide (F < 2 ^ M.toNat)
theorem get_all (F M : Nat) : getI (F : Int) 0 (M : Int) = ((F % 2 ^ M : Nat) : Int) := by
  unfold getI getN; rw [Int.toNat_natCast]; rfl
theorem right_get {B F M : Nat} (hB : B ≤ 268435456) (hM : M ≤ 64) : (getI (F : Int) 0 (M : Int) == (F : Int)) = rightB B M F := by
  rw [get_all]
  have hp := Nat.two_pow_pos M
  unfold rightB
  rw [Int.toNat_natCast, Bool.eq_iff_iff, beq_iff_eq]
  simp only [Bool.and_eq_true, decide_eq_true_eq]
  constructor
  · intro h
    have h1 : F % 2 ^ M = F := by omega
    refine ⟨⟨⟨by omega, by omega⟩, hB⟩, ?_⟩
    rw [← h1]; exact Nat.mod_lt _ hp
  · intro h; rw [Nat.mod_eq_of_lt h.2]
theorem right_no1 {B F : Nat} {M : Int} (h : M < 0 ∨ 64 < M ∨ 268435456 < B) : rightB B M F = false := by
  unfold rightB; rcases h with h | h | h <;> simp <;> omega
attribute [irreducible] rightB

set_option maxRecDepth 100000 in
set_option maxHeartbeats 1000000 in
theorem right_c (B F : Nat) (M : Int) (hB : B < 18446744073709551616) (hF : F < 18446744073709551616) (hm0 : -9223372036854775808 ≤ M) (hm1 : M ≤ 9223372036854775807) (w : World) :
    Calls Tryd.prog 9 #[(.agg #[.int .u64 (B : Int), .int .i64 (M : Int), .int .u64 (F : Int)])] w fun e w' => e = .returned (.bool (rightB B M F)) ∧ Ext w w' := by
  have HE := Lib.hid ((Ext.refl w).alloc (.cells #[.int .u64 (B : Int), .int .i64 M, .int .u64 (F : Int)] 24))
  by_cases h1 : M < 0
  · have H := Lib.hid (right_no1 (B := B) (F := F) (.inl h1))
    go_enter Tryd.func9, Tryd.ntmps9
    go_wp2
    go_ret
    exact ⟨by rw [H.out]; rfl, HE.out⟩
  by_cases h2 : 64 < M
  · have H := Lib.hid (right_no1 (B := B) (F := F) (.inr (.inl h2)))
    go_enter Tryd.func9, Tryd.ntmps9
    go_wp2
    go_ret
    exact ⟨by rw [H.out]; rfl, HE.out⟩
  by_cases h3 : 268435456 < B
  · have H := Lib.hid (right_no1 (F := F) (M := M) (.inr (.inr h3)))
    have hd : decide ((268435456 : Int) < (B : Int)) = true := by simp; omega
    go_enter Tryd.func9, Tryd.ntmps9
    go_wp2
    go_ret
    exact ⟨by rw [H.out]; rfl, HE.out⟩
  have hd : decide ((268435456 : Int) < (B : Int)) = false := by simp; omega
  obtain ⟨m, rfl⟩ := Int.eq_ofNat_of_zero_le (show 0 ≤ M by omega)
  have H := Lib.hid (right_get (F := F) (B := B) (M := m) (by omega) (by omega))
  go_enter Tryd.func9, Tryd.ntmps9
  go_wp2
  go_quiet ((go_at_call 21; exact Calls.quiet_of_same ((get_c _ _ _ (by omega) (by omega) (by omega) (by omega) (by omega) (by omega) _).mono fun _ _ h => ⟨h.1, h.2.symm⟩)))
  go_wp2
  go_ret
  exact ⟨by rw [H.out]; rfl, HE.out.drewN _⟩

set_option maxRecDepth 100000 in
set_option maxHeartbeats 1000000 in
theorem take_no (B M : Nat) (w : World) (hT : Tab w) :
    Calls Tryd.prog 11 #[.agg #[.int .u64 (B : Int), .int .i64 (M : Int), .int .u64 0]] w fun e w' => e = .returned (.tuple #[.agg #[.int .u64 (B : Int), .int .i64 (M : Int), .int .u64 0], .int .u64 0, .int .i64 8]) ∧ Ext w w' := by
  have hm : ∀ w, Calls Tryd.prog 24 #[.agg #[.int .u64 (B : Int), .int .i64 (M : Int), .int .u64 0], .int .i64 64, .bool false] w fun e w' => e = .returned (.agg #[.int .u64 (B : Int), .int .i64 (M : Int), .int .u64 0]) ∧ Ext w w' := fun w => by
    have hm := marked_c B 0 64 M false (by decide) (by decide) w
    rwa [bit_out (by decide) (by decide) false] at hm
  have hq : ∀ w, (binOp .eql 24 (.agg #[.int .u64 (B : Int), .int .i64 (M : Int), .int .u64 0]) (.agg #[.int .u64 (B : Int), .int .i64 (M : Int), .int .u64 0])).run Tryd.prog w = .ok (.bool true) w := fun w => eqlP w B M 0 0
  have hg := pool_guard
  go_enter Tryd.func11, Tryd.ntmps11
  go_wp2_with fail
  refine (tz_zero _).mono ?_
  rintro e w1 ⟨rfl, hw1⟩
  subst hw1
  go_wp2_with fail
  refine (hm _).mono ?_
  rintro e w2 ⟨rfl, hE⟩
  clear hm
  obtain ⟨hb, hr⟩ := blk_two hE
  obtain ⟨b0, b1, b2⟩ := hb.c3
  obtain ⟨r0, r1, r2⟩ := hr.c3
  obtain ⟨g0, g1, g2⟩ := hr.f3
  have Hr := Lib.hid hr
  have HE := Lib.hid (ext_two hE)
  have hl : w.heap.size + 1 < w2.heap.size := hr.lt
  have hl0 : w.heap.size < w2.heap.size := hb.lt
  clear hb hr hE
  go_wp2
  (try simp only [Exit.inBlock, Exit.then]); refine bodyPost_ret (results_c3 rfl _ _ _ _ _ _ rfl ((Hr.out.set3 _ _ _).alloc _) rfl Tryd.underlying24 (by kernel_rfl)) rfl ?_
  exact ⟨rfl, (HE.out.set3 (by omega) _ _ _).alloc _⟩

set_option maxRecDepth 100000 in
set_option maxHeartbeats 1000000 in
theorem take_yes (B M F : Nat) (hB : B ≤ 268435456) (hF : F < 18446744073709551616) (h0 : F ≠ 0) (w : World) (hT : Tab w) :
    Calls Tryd.prog 11 #[(.agg #[.int .u64 (B : Int), .int .i64 (M : Int), .int .u64 (F : Int)])] w fun e w' => e = .returned (.tuple #[(.agg #[.int .u64 (B : Int), .int .i64 (M : Int), .int .u64 (takeF F : Int)]), .int .u64 ((B + lowN' F : Nat) : Int), .int .i64 0]) ∧ Ext w w' := by
  have hk := (low_spec h0 (by omega)).1
  have hm : ∀ w, Calls Tryd.prog 24 #[(.agg #[.int .u64 (B : Int), .int .i64 (M : Int), .int .u64 (F : Int)]), .int .i64 ((lowN' F : Nat) : Int), .bool false] w fun e w' => e = .returned (.agg #[.int .u64 (B : Int), .int .i64 (M : Int), .int .u64 (takeF F : Int)]) ∧ Ext w w' := fun w => by
    have hm := marked_c B F (lowN' F) M false hF (by omega) w
    rwa [← take_def] at hm
  have ht : ∀ w, Tab w → Calls Tryd.prog 23 #[.int .u64 (F : Int)] w fun e w' => e = .returned (.int .i64 ((lowN' F : Nat) : Int)) ∧ w = w' := fun w h => by
    have := tz_c F hF w h
    rwa [← low_def] at this
  have hne : (takeF F == F) = false := by simpa using take_ne h0 (by omega)
  have hq : ∀ w, (binOp .eql 24 (.agg #[.int .u64 (B : Int), .int .i64 (M : Int), .int .u64 (takeF F : Int)]) (.agg #[.int .u64 (B : Int), .int .i64 (M : Int), .int .u64 (F : Int)])).run Tryd.prog w = .ok (.bool false) w := fun w => by rw [← hne]; exact eqlP w B M _ _
  have hg := pool_guard
  generalize lowN' F = k at *
  generalize takeF F = G at *
  clear hne h0
  have hT1 := Lib.hid (((hT.below ((Ext.refl w).alloc (.cells #[.int .u64 (B : Int), .int .i64 (M : Int), .int .u64 (F : Int)] 24))).below ((Ext.refl _).alloc (.cells #[.int .u64 0, .int .i64 0, .int .u64 0] 24))))
  clear hT
  go_enter Tryd.func11, Tryd.ntmps11
  go_wp2_with fail
  refine (ht _ hT1.out).mono ?_
  rintro e w1 ⟨rfl, hw1⟩
  subst hw1
  go_wp2_with fail
  refine (hm _).mono ?_
  rintro e w2 ⟨rfl, hE⟩
  clear hm ht hT1
  obtain ⟨hb, hr⟩ := blk_two hE
  obtain ⟨b0, b1, b2⟩ := hb.c3
  obtain ⟨r0, r1, r2⟩ := hr.c3
  obtain ⟨g0, g1, g2⟩ := hr.f3
  have Hr := Lib.hid hr
  have Hb := Lib.hid hb
  have HE := Lib.hid (ext_two hE)
  have hl : w.heap.size + 1 < w2.heap.size := hr.lt
  have hl0 : w.heap.size < w2.heap.size := hb.lt
  clear hb hr hE
  have hs : IntKind.u64.wrap ((B : Int) + (k : Int)) = (B : Int) + (k : Int) := by rw [IntKind.wrap_u64]; omega
  go_wp2
  refine wp_region_seq [(0, false), (1, false), (2, false), (3, false), (4, false), (5, false), (6, true), (7, false), (8, false)] (Bar (w.heap.size + 1)) (by kernel_rfl) (by kernel_rfl) (Bar.refl _) (fun _ _ _ => Bar.trans) ?_; simp only [List.map, nth_z, nth_s]
  have hq3 := (Blk.new w2 24 #[.int .u64 (B : Int), .int .i64 (M : Int), .int .u64 (G : Int)]).drew
  have hb3 := (Hb.out.alloc (.cells #[.int .u64 (B : Int), .int .i64 (M : Int), .int .u64 (G : Int)] 24)).drew
  have hr3 := (Hr.out.alloc (.cells #[.int .u64 (B : Int), .int .i64 (M : Int), .int .u64 (G : Int)] 24)).drew
  have hE3 := (HE.out.alloc (.cells #[.int .u64 (B : Int), .int .i64 (M : Int), .int .u64 (G : Int)] 24)).drew
  generalize (w2.alloc (.cells #[.int .u64 (B : Int), .int .i64 (M : Int), .int .u64 (G : Int)] 24)).drew = w3 at *
  obtain ⟨q0, q1, q2⟩ := hq3.c3
  obtain ⟨c0, c1, c2⟩ := hb3.c3
  obtain ⟨d0, d1, d2⟩ := hr3.c3
  obtain ⟨e0, e1, e2⟩ := hr3.f3
  refine seq_value (.agg #[(.int .u64 (B : Int)), (.int .i64 (M : Int)), (.int .u64 (G : Int))]) (by rfl) (fun x hx => by have hq0 := bar_cell hx q0 (by omega); have hq1 := bar_cell hx q1 (by omega); have hq2 := bar_cell hx q2 (by omega); simp [go_sem, execOp, Act.eval, hq0, hq1, hq2]) ?_; intro K hK; simp only [Act.put, List.setIfInBounds_toArray, List.set_cons_zero, List.set_cons_succ]; refine hK _ ?_; clear hK K
  (repeat (first | (refine seq_skip (by rfl) ?_; intro K hK; simp only [Act.put, List.setIfInBounds_toArray, List.set_cons_zero, List.set_cons_succ]; refine hK _ ?_; clear hK K) | (refine seq_skipc (by rfl) ?_; intro K hK; simp only [Act.put, List.setIfInBounds_toArray, List.set_cons_zero, List.set_cons_succ]; refine hK _ ?_; clear hK K) | (refine seq_read (by rfl) (by rfl) ?_; intro K hK; go_big_quiet_op; first | go_big_quiet_on | (refine ⟨_, fun _ _ => rfl, ?_⟩; go_big_quiet_on))))
  refine seq_value (.int .u64 (B : Int)) (by rfl) (fun x hx => by have hq := bar_cell hx c0 (by omega); simp [go_sem, execOp, Act.eval, hq]) ?_; intro K hK; simp only [Act.put, List.setIfInBounds_toArray, List.set_cons_zero, List.set_cons_succ]; refine hK _ ?_; clear hK K
  (repeat (first | (refine seq_skip (by rfl) ?_; intro K hK; simp only [Act.put, List.setIfInBounds_toArray, List.set_cons_zero, List.set_cons_succ]; refine hK _ ?_; clear hK K) | (refine seq_skipc (by rfl) ?_; intro K hK; simp only [Act.put, List.setIfInBounds_toArray, List.set_cons_zero, List.set_cons_succ]; refine hK _ ?_; clear hK K) | (refine seq_read (by rfl) (by rfl) ?_; intro K hK; go_big_quiet_op; first | go_big_quiet_on | (refine ⟨_, fun _ _ => rfl, ?_⟩; go_big_quiet_on))))
  refine seq_store (((w3.setCell ⟨w.heap.size + 1, 0, none⟩ (.int .u64 (B : Int))).setCell ⟨w.heap.size + 1, 1, none⟩ (.int .i64 (M : Int))).setCell ⟨w.heap.size + 1, 2, none⟩ (.int .u64 (G : Int))) (by rfl) ?_ ((((Bar.refl _ w3).set 0 _).set 1 _).set 2 _) ?_; (simp [go_sem, execOp, Act.eval, d0, d1, d2, e0, e1, e2]); intro K hK; simp only [Act.put, List.setIfInBounds_toArray, List.set_cons_zero, List.set_cons_succ]; refine hK _ _ ?_; clear hK K
  (repeat (first | (refine seq_skip (by rfl) ?_; intro K hK; simp only [Act.put, List.setIfInBounds_toArray, List.set_cons_zero, List.set_cons_succ]; refine hK _ ?_; clear hK K) | (refine seq_skipc (by rfl) ?_; intro K hK; simp only [Act.put, List.setIfInBounds_toArray, List.set_cons_zero, List.set_cons_succ]; refine hK _ ?_; clear hK K) | (refine seq_read (by rfl) (by rfl) ?_; intro K hK; go_big_quiet_op; first | go_big_quiet_on | (refine ⟨_, fun _ _ => rfl, ?_⟩; go_big_quiet_on))))
  refine seq_done ?_
  go_wp2
  (try simp only [Exit.inBlock, Exit.then]); refine bodyPost_ret (results_c3 rfl _ _ _ _ _ _ rfl (hr3.set3 _ _ _) rfl Tryd.underlying24 (by kernel_rfl)) rfl ?_
  exact ⟨by rw [Int.natCast_add]; rfl, hE3.set3 (by omega) _ _ _⟩

theorem all_get {M : Nat} (hM : M ≤ 64) : getI 18446744073709551615 0 (M : Int) = ((2 ^ M - 1 : Nat) : Int) := by
  unfold getI getN
  rw [Int.toNat_natCast]
  show (((18446744073709551615 : Nat) >>> 0 % 2 ^ M : Nat) : Int) = _
  congr 1
  apply Nat.eq_of_testBit_eq; intro i
  rw [Nat.shiftRight_zero, Nat.testBit_mod_two_pow, show (18446744073709551615 : Nat) = 2 ^ 64 - 1 from rfl, Nat.testBit_two_pow_sub_one, Nat.testBit_two_pow_sub_one]
  by_cases h : i < M
  · simp [h]; omega
  · simp [h]
theorem right_0 {B : Nat} {M : Int} (h : rightB B M 0 = true) : 0 ≤ M ∧ M ≤ 64 ∧ B ≤ 268435456 := by
  unfold rightB at h
  simp only [Bool.and_eq_true, decide_eq_true_eq] at h
  exact ⟨h.1.1.1, h.1.1.2, h.1.2⟩

set_option maxRecDepth 100000 in
set_option maxHeartbeats 1000000 in
theorem new_yes (B : Nat) (M : Nat) (hB : B ≤ 268435456) (hM : M ≤ 64) (hr : rightB B M 0 = true) (w : World) :
    Calls Tryd.prog 19 #[.int .u64 (B : Int), .int .i64 (M : Int)] w fun e w' => e = .returned (.tuple #[(.agg #[.int .u64 (B : Int), .int .i64 (M : Int), .int .u64 ((2 ^ M - 1 : Nat) : Int)]), .int .i64 0]) ∧ Ext w w' := by
  have hrc : ∀ w, Calls Tryd.prog 9 #[.agg #[.int .u64 (B : Int), .int .i64 (M : Int), .int .u64 0]] w fun e w' => e = .returned (.bool true) ∧ Ext w w' := fun w => by
    have := right_c B 0 (M : Int) (by omega) (by decide) (by omega) (by omega) w
    rwa [hr] at this
  have hgc : ∀ w, Calls Tryd.prog 21 #[.int .u64 18446744073709551615, .int .i64 0, .int .i64 (M : Int)] w fun e w' => e = .returned (.int .u64 ((2 ^ M - 1 : Nat) : Int)) ∧ w = w' := fun w => by
    have := get_c 18446744073709551615 0 (M : Int) (by decide) (by decide) (by decide) (by decide) (by omega) (by omega) w
    rwa [all_get hM] at this
  clear hr
  generalize 2 ^ M - 1 = G at *
  go_enter Tryd.func19, Tryd.ntmps19
  go_wp2_with fail
  refine (hrc _).mono ?_
  rintro e w1 ⟨rfl, hE⟩
  obtain ⟨hr, hp⟩ := blk_two hE
  obtain ⟨r0, r1, r2⟩ := hr.c3
  obtain ⟨g0, g1, g2⟩ := hr.f3
  obtain ⟨p0, p1, p2⟩ := hp.c3
  obtain ⟨k0, k1, k2⟩ := hp.f3
  have HE := Lib.hid (ext_two hE)
  have Hr := Lib.hid hr
  clear hr hp hE hrc
  go_wp2_with fail
  refine (hgc _).mono ?_
  rintro e w2 ⟨rfl, hw2⟩
  subst hw2
  clear hgc
  go_wp2
  (try simp only [Exit.inBlock, Exit.then]); refine bodyPost_ret (results_c2 rfl _ _ _ _ _ _ rfl ((Hr.out.other (a := ⟨w.heap.size + 1, 2, none⟩) (by simp) _).set3 _ _ _) rfl Tryd.underlying24 (by kernel_rfl)) rfl ?_
  exact ⟨rfl, (HE.out.set1 (by omega) _ _).set3 (by omega) _ _ _⟩
set_option maxRecDepth 100000 in
set_option maxHeartbeats 1000000 in
theorem new_no (B : Nat) (M : Int) (hB : B < 18446744073709551616) (hm0 : -9223372036854775808 ≤ M) (hm1 : M ≤ 9223372036854775807) (hr : rightB B M 0 = false) (w : World) :
    Calls Tryd.prog 19 #[.int .u64 (B : Int), .int .i64 M] w fun e w' => e = .returned (.tuple #[.agg #[.int .u64 0, .int .i64 0, .int .u64 0], .int .i64 1]) ∧ Ext w w' := by
  have hrc : ∀ w, Calls Tryd.prog 9 #[.agg #[.int .u64 (B : Int), .int .i64 M, .int .u64 0]] w fun e w' => e = .returned (.bool false) ∧ Ext w w' := fun w => by
    have := right_c B 0 M (by omega) (by decide) (by omega) (by omega) w
    rwa [hr] at this
  clear hr
  go_enter Tryd.func19, Tryd.ntmps19
  go_wp2_with fail
  refine (hrc _).mono ?_
  rintro e w1 ⟨rfl, hE⟩
  obtain ⟨hr, hp⟩ := blk_two hE
  obtain ⟨r0, r1, r2⟩ := hr.c3
  obtain ⟨g0, g1, g2⟩ := hr.f3
  have HE := Lib.hid (ext_two hE)
  have Hr := Lib.hid hr
  clear hr hp hE hrc
  go_wp2
  (try simp only [Exit.inBlock, Exit.then]); refine bodyPost_ret (results_c2 rfl _ _ _ _ _ _ rfl (Hr.out.set3 _ _ _) rfl Tryd.underlying24 (by kernel_rfl)) rfl ?_
  exact ⟨rfl, HE.out.set3 (by omega) _ _ _⟩
end Go.Proofs.YtdiffllpoappfaaDoor
