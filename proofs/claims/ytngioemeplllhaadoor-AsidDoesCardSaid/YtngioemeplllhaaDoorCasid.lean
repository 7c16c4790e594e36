/- Package asid: marked, owned, Right, New, Free, Take, Give; what the laws take of it (AsidC). -/
import Derived.Test.YtngioemeplllhaaDoorLaw18a
import Derived.Test.YtngioemeplllhaaDoorCpoo
import Derived.Test.YtngioemeplllhaaDoorOpen4
namespace Go.Proofs.YtngioemeplllhaaDoor
open Go.ChangeShapes Go.WideShapes Go.ChangeAt Go.RowKit
set_option linter.unusedVariables false
set_option linter.unusedSimpArgs false
set_option maxRecDepth 10000

theorem set18_c (F i : Nat) (b : Bool) (hF : F < 18446744073709551616) (hi : i ≤ 64) (w : World) :
    Calls Tryd.prog 26 #[.int .u64 (F : Int), .int .i64 (i : Int), .int .i64 1, .int .u64 (if b then 1 else 0)] w fun e w' => e = .returned (.int .u64 ((bitN F i b : Nat) : Int)) ∧ w = w' := by
  have := set_c (F : Int) (i : Int) 1 (if b then 1 else 0) (by omega) (by omega) (by cases b <;> decide) (by cases b <;> decide) (by omega) (by omega) (by omega) (by omega) w
  rwa [setI_bit] at this
set_option maxRecDepth 100000 in
set_option maxHeartbeats 1000000 in
theorem mark18_c (y : Int) (F O i : Nat) (b : Bool) (hF : F < 18446744073709551616) (hi : i ≤ 64) (w : World) :
    Calls Tryd.prog 21 #[.agg (anC ⟨y, F, O⟩), .int .i64 (i : Int), .bool b] w fun e w' => e = .returned (.agg (anC ⟨y, bitN F i b, O⟩)) ∧ Ext w w' := by
  rw [anC_def, anC_def]
  have hst := fun W => set18_c F i b hF hi W
  generalize bitN F i b = G at *
  go_enter Tryd.func21, Tryd.ntmps21
  go_wp2
  refine region_tail 7 (by kernel_rfl) (by kernel_rfl) ?_; intro w1 hE1
  obtain ⟨hb, hr⟩ := blk_two hE1
  obtain ⟨b0, b1, b2⟩ := hb.c3
  obtain ⟨f0, f1, f2⟩ := hb.f3
  obtain ⟨r0, r1, r2⟩ := hr.c3
  obtain ⟨g0, g1, g2⟩ := hr.f3
  simp only [List.take_succ_cons, List.take_zero, List.drop_succ_cons, List.drop_zero]; repeat still_step
  still_call (Calls.mono (bool_c b _) fun _ _ h => ⟨h.1, h.2.symm⟩); repeat still_step
  still_call (Calls.mono (hst _) fun _ _ h => ⟨h.1, h.2.symm⟩); repeat still_step
  refine wpStill_nil ?_
  have Hr := Lib.hid hr
  have HE := Lib.hid hE1
  clear hb hr hE1 hst
  cases b
  all_goals
    go_wp2
    (try simp only [Exit.inBlock, Exit.then]); refine bodyPost_ret (results_cell_row rfl _ _ _ _ _ _ _ rfl ((Hr.out.other (a := ⟨w.heap.size, 1, none⟩) (by simp) _).set3 _ _ _) Tryd.underlying24 rfl (by kernel_rfl)) rfl ?_
    exact ⟨rfl, ((ext_two HE.out).set1 (Nat.le_refl _) _ _).set3 (by omega) _ _ _⟩
set_option maxRecDepth 100000 in
set_option maxHeartbeats 1000000 in
theorem owned18_c (y : Int) (F O i : Nat) (hO : O < 18446744073709551616) (hi : i ≤ 64) (w : World) :
    Calls Tryd.prog 22 #[.agg (anC ⟨y, F, O⟩), .int .i64 (i : Int)] w fun e w' => e = .returned (.agg (anC ⟨y, F, bitN O i true⟩)) ∧ Ext w w' := by
  have hst := fun W => set18_c O i true hO hi W
  simp only [if_true] at hst
  generalize bitN O i true = Q at *
  have h1 : Blk ((w.alloc (.cells (anC ⟨y, F, O⟩) 24)).alloc (.cells #[.int .i64 0, .int .u64 0, .int .u64 0] 24)) w.heap.size 24 (anC ⟨y, F, O⟩) := (Blk.new w _ _).alloc _
  have k1 : Blk ((w.alloc (.cells (anC ⟨y, F, O⟩) 24)).alloc (.cells #[.int .i64 0, .int .u64 0, .int .u64 0] 24)) (w.heap.size + 1) 24 #[.int .i64 0, .int .u64 0, .int .u64 0] := blk_at (by simp)
  have HE := Lib.hid (((Ext.refl w).alloc (.cells (anC ⟨y, F, O⟩) 24)).alloc (.cells #[.int .i64 0, .int .u64 0, .int .u64 0] 24))
  have x2 : _ = some (Value.int .u64 (O : Int)) := h1.an.2.2
  go_enter Tryd.func22, Tryd.ntmps22
  go_wp2_with fail
  refine (hst _).mono ?_
  rintro e w1 ⟨rfl, hw1⟩
  subst hw1
  clear hst x2
  go_wp2_with (first | (refine wpList_store_cell rfl 22 _ _ rfl rfl rfl h1 (by simp [anC_size]) (anC_set2 y F O Q) (by kernel_rfl) rfl rfl ?_) | (refine wpList_load_blk (by rfl) 24 _ rfl rfl (h1.row (anC ⟨y, F, Q⟩)) Tryd.underlying24 rfl (by kernel_rfl) ?_) | (refine wpList_store_blk rfl 24 _ _ rfl rfl rfl (k1.apart (show w.heap.size + 1 ≠ w.heap.size by omega) (anC ⟨y, F, Q⟩)) (an_info _) (by simp [anC_size]) (anC_one _) ?_))
  (try simp only [Exit.inBlock, Exit.then]); (try rw [Exit.noGoto_ret]); refine bodyPost_ret (results_cell_row rfl _ _ _ _ _ _ _ rfl (((k1.apart (show w.heap.size + 1 ≠ w.heap.size by omega) (anC ⟨y, F, Q⟩)).row _).mem) Tryd.underlying24 rfl (an_info _)) rfl ?_
  exact ⟨rfl, (HE.out.row (Nat.le_refl _) _).row (by omega) _⟩
set_option maxHeartbeats 1000000 in
theorem free18_c (p : As) (m : Nat) (h : AnOk p m) (w : World) :
    Calls Tryd.prog 15 #[.agg (anC p)] w fun e w' => e = .returned (.int .i64 ((popN p.fr 64 : Nat) : Int)) ∧ Ext w w' := by
  have hF := h.f64
  have h1 := Blk.new w 24 (anC p)
  have HE := Lib.hid ((Ext.refl w).alloc (.cells (anC p) 24))
  obtain ⟨x0, x1, x2⟩ := h1.an
  clear h1 h
  go_enter Tryd.func15, Tryd.ntmps15
  go_wp2_with (go_at_call 23; refine (ones_c _ hF _).mono ?_; rintro e w' ⟨rfl, rfl⟩)
  go_ret
  exact ⟨rfl, HE.out⟩
theorem right18_get {F O m : Nat} (m0 : 1 ≤ m) (m1 : m ≤ 16) : (getI ((F ||| O : Nat) : Int) 0 (m : Int) == ((F ||| O : Nat) : Int)) = anR ⟨m, F, O⟩ := by
  rw [get_all]
  have hp := Nat.two_pow_pos m
  unfold anR
  rw [Bool.eq_iff_iff, beq_iff_eq]
  simp only [decide_eq_true_eq, Int.toNat_natCast]
  constructor
  · intro h
    have h1 : (F ||| O) % 2 ^ m = F ||| O := by omega
    have h2 : F ||| O < 2 ^ m := by rw [← h1]; exact Nat.mod_lt _ hp
    exact ⟨by omega, by omega, Nat.lt_of_le_of_lt Nat.left_le_or h2, Nat.lt_of_le_of_lt Nat.right_le_or h2⟩
  · rintro ⟨-, -, h1, h2⟩
    rw [Nat.mod_eq_of_lt (Nat.or_lt_two_pow h1 h2)]
set_option maxHeartbeats 1000000 in
theorem right18_c (p : As) (hok : p.ok) (w : World) :
    Calls Tryd.prog 9 #[.agg (anC p)] w fun e w' => e = .returned (.bool (anR p)) ∧ Ext w w' := by
  obtain ⟨y, F, O⟩ := p
  obtain ⟨⟨y0, y1⟩, hF, hO⟩ := hok
  simp only at y0 y1 hF hO
  have h1 := Blk.new w 24 (anC ⟨y, F, O⟩)
  have HE := Lib.hid ((Ext.refl w).alloc (.cells (anC ⟨y, F, O⟩) 24))
  have x0 : _ = some (Value.int .i64 y) := h1.an.1
  have x1 : _ = some (Value.int .u64 (F : Int)) := h1.an.2.1
  have x2 : _ = some (Value.int .u64 (O : Int)) := h1.an.2.2
  clear h1
  by_cases h1 : y < 1
  · have H := Lib.hid (anr_lo (F := F) (O := O) (.inl h1))
    have d1 : decide (y < 1) = true := by simpa using h1
    clear h1
    go_enter Tryd.func9, Tryd.ntmps9
    go_wp2
    go_ret
    exact ⟨by rw [H.out]; rfl, HE.out⟩
  have d1 : decide (y < 1) = false := by simpa using h1
  by_cases h2 : 16 < y
  · have H := Lib.hid (anr_lo (F := F) (O := O) (.inr h2))
    have d2 : decide (16 < y) = true := by simpa using h2
    clear h1 h2
    go_enter Tryd.func9, Tryd.ntmps9
    go_wp2
    go_ret
    exact ⟨by rw [H.out]; rfl, HE.out⟩
  have d2 : decide (16 < y) = false := by simpa using h2
  obtain ⟨m, rfl⟩ := Int.eq_ofNat_of_zero_le (show 0 ≤ y by omega)
  have H := Lib.hid (right18_get (F := F) (O := O) (m := m) (by omega) (by omega))
  have hor := or_u64 hF hO
  have hU := Nat.or_lt_two_pow (n := 64) hF hO
  have hgc := fun W => get_c ((F ||| O : Nat) : Int) 0 (m : Int) (by omega) (by omega) (by omega) (by omega) (by omega) (by omega) W
  generalize F ||| O = U at *
  generalize getI (U : Int) 0 (m : Int) = V at *
  clear h1 h2 hU
  go_enter Tryd.func9, Tryd.ntmps9
  go_wp2_with (go_at_call 17; refine (hgc _).mono ?_; rintro e w' ⟨rfl, rfl⟩)
  go_ret
  exact ⟨by rw [← H.out]; rfl, HE.out⟩
set_option maxHeartbeats 1000000 in
theorem new18_c (y : Int) (y0 : -9223372036854775808 ≤ y) (y1 : y ≤ 9223372036854775807) (w : World) :
    Calls Tryd.prog 7 #[.int .i64 y] w fun e w' => e = .returned (.tuple #[.agg (anC (anN y)), .int .i64 (anNe y)]) ∧ Ext w w' := by
  have hrc := fun W => right18_c ⟨y, 0, 0⟩ ⟨⟨y0, y1⟩, by show 0 < _; decide, by show 0 < _; decide⟩ W
  rw [anC_def] at hrc
  cases hy : anY y
  · have hR : anR ⟨y, 0, 0⟩ = false := by
      unfold anY at hy; simp only [decide_eq_false_iff_not] at hy
      unfold anR; simp only [decide_eq_false_iff_not]; omega
    have hN : anN y = anZ ∧ anNe y = 1 := by unfold anN anNe; rw [hy]; exact ⟨rfl, rfl⟩
    rw [hR] at hrc
    rw [hN.1, hN.2, anC_zero]
    clear hR hN hy
    go_enter Tryd.func7, Tryd.ntmps7
    go_wp2_with fail
    refine (hrc _).mono ?_
    rintro e w1 ⟨rfl, hE⟩
    obtain ⟨hr, hp⟩ := blk_two hE
    obtain ⟨r0, r1, r2⟩ := hr.c3
    obtain ⟨g0, g1, g2⟩ := hr.f3
    obtain ⟨p0, p1, p2⟩ := hp.c3
    have HE := Lib.hid (ext_two hE)
    have Hr := Lib.hid hr
    clear hr hp hE hrc
    go_wp2
    (try simp only [Exit.inBlock, Exit.then]); refine bodyPost_ret (results_c2 rfl _ _ _ _ _ _ rfl (Hr.out.set3 _ _ _) rfl Tryd.underlying24 (by kernel_rfl)) rfl ?_
    exact ⟨rfl, HE.out.set3 (by omega) _ _ _⟩
  · have hy' : 1 ≤ y ∧ y ≤ 16 := by unfold anY at hy; simpa using hy
    obtain ⟨m, rfl⟩ := Int.eq_ofNat_of_zero_le (show 0 ≤ y by omega)
    have hR : anR ⟨m, 0, 0⟩ = true := by
      have := Nat.two_pow_pos m
      unfold anR; simp only [decide_eq_true_eq, Int.toNat_natCast]; omega
    have hN : anN m = ⟨m, 2 ^ m - 1, 0⟩ ∧ anNe m = 0 := by unfold anN anNe; rw [hy, if_pos rfl, if_pos rfl, Int.toNat_natCast]; exact ⟨rfl, rfl⟩
    have hgc : ∀ w, Calls Tryd.prog 17 #[.int .u64 18446744073709551615, .int .i64 0, .int .i64 (m : Int)] w fun e w' => e = .returned (.int .u64 ((2 ^ m - 1 : Nat) : Int)) ∧ w = w' := fun w => by
      have := get_c 18446744073709551615 0 (m : Int) (by decide) (by decide) (by decide) (by decide) (by omega) (by omega) w
      rwa [all_get (by omega)] at this
    rw [hR] at hrc
    rw [hN.1, hN.2, anC_def]
    clear hR hN hy hy'
    generalize 2 ^ m - 1 = G at *
    go_enter Tryd.func7, Tryd.ntmps7
    go_wp2_with fail
    refine (hrc _).mono ?_
    rintro e w1 ⟨rfl, hE⟩
    obtain ⟨hr, hp⟩ := blk_two hE
    obtain ⟨r0, r1, r2⟩ := hr.c3
    obtain ⟨g0, g1, g2⟩ := hr.f3
    obtain ⟨p0, p1, p2⟩ := hp.c3
    obtain ⟨k0, k1, k2⟩ := hp.f3
    have HE := Lib.hid (ext_two hE)
    have Hr := Lib.hid hr
    clear hr hp hE hrc
    go_wp2_with fail
    refine (hgc _).mono ?_
    rintro e w2 ⟨rfl, hw2⟩
    subst hw2
    clear hgc
    go_wp2
    (try simp only [Exit.inBlock, Exit.then]); refine bodyPost_ret (results_c2 rfl _ _ _ _ _ _ rfl ((Hr.out.other (a := ⟨w.heap.size + 1, 1, none⟩) (by simp) _).set3 _ _ _) rfl Tryd.underlying24 (by kernel_rfl)) rfl ?_
    exact ⟨rfl, (HE.out.set1 (by omega) _ _).set3 (by omega) _ _ _⟩
set_option maxHeartbeats 1000000 in
theorem give18_c (p : As) (m n : Nat) (h : AnOk p m) (hn : n < 18446744073709551616) (w : World) :
    Calls Tryd.prog 13 #[.agg (anC p), .int .u64 (n : Int)] w fun e w' => e = .returned (.tuple #[.agg (anC (anG p n)), .int .i64 (anGe p n)]) ∧ Ext w w' := by
  have hF := h.f64
  have m1 := h.m1
  have hma := h.ma
  obtain ⟨y, F, O⟩ := p
  simp only at hma hF
  subst hma
  have hu : IntKind.u64.wrap (m : Int) = (m : Int) := by rw [IntKind.wrap_u64]; omega
  have h1 : Blk ((w.alloc (.cells (anC ⟨m, F, O⟩) 24)).alloc (.cells #[.int .i64 0, .int .u64 0, .int .u64 0] 24)) w.heap.size 24 (anC ⟨m, F, O⟩) := (Blk.new w _ _).alloc _
  have k1 : Blk ((w.alloc (.cells (anC ⟨m, F, O⟩) 24)).alloc (.cells #[.int .i64 0, .int .u64 0, .int .u64 0] 24)) (w.heap.size + 1) 24 #[.int .i64 0, .int .u64 0, .int .u64 0] := blk_at (by simp)
  have HE := Lib.hid (((Ext.refl w).alloc (.cells (anC ⟨m, F, O⟩) 24)).alloc (.cells #[.int .i64 0, .int .u64 0, .int .u64 0] 24))
  have x0 : _ = some (Value.int .i64 (m : Int)) := h1.an.1
  by_cases hi : 1 ≤ n ∧ n ≤ m
  · obtain ⟨i, rfl⟩ : ∃ i, n = i + 1 := ⟨n - 1, by omega⟩
    have hs : IntKind.u64.wrap (i : Int) = (i : Int) := by rw [IntKind.wrap_u64]; omega
    have hd : decide ((m : Int) ≤ (i : Int)) = false := by simp; omega
    have hd2 : decide (m ≤ i) = false := by simp; omega
    have hw : IntKind.i64.wrap (i : Int) = (i : Int) := by rw [IntKind.wrap_i64]; omega
    have hB : anB ⟨m, F, O⟩ (i + 1) = !F.testBit i := anB_at rfl (by omega)
    have hmk := fun W => mark18_c m F O i true hF (by omega) W
    have hg := an_guard
    cases hb : F.testBit i
    · rw [hb] at hB
      obtain ⟨e1, e2⟩ := an_G1 hB
      have hne : bitN F i true ≠ F := bit_ne hF (by omega) (by rw [hb]; decide)
      rw [e1, e2, Nat.add_sub_cancel]
      have hq : ∀ W, (binOp .eql 24 (.agg (anC ⟨m, bitN F i true, O⟩)) (.agg (anC ⟨m, F, O⟩))).run Tryd.prog W = .ok (.bool false) W := fun W => by
        rw [eql_an, decide_eq_false (fun q => hne (by injection q))]
      clear hne hB e1 e2 hb hi h m1 hn
      generalize bitN F i true = G at *
      go_enter Tryd.func13, Tryd.ntmps13
      go_wp2_with (refine wpList_load_blk (by rfl) 24 _ rfl rfl h1 Tryd.underlying24 rfl (by kernel_rfl) ?_)
      refine (hmk _).mono ?_
      rintro e w1 ⟨rfl, hE⟩
      replace h1 := h1.ext hE
      replace k1 := k1.ext hE
      replace HE := Lib.hid (HE.out.trans hE)
      clear hE hmk x0 hu hs hd hd2 hw
      have hn1 := Blk.new w1 24 (anC ⟨m, G, O⟩)
      replace h1 := h1.alloc (.cells (anC ⟨m, G, O⟩) 24)
      replace k1 := k1.alloc (.cells (anC ⟨m, G, O⟩) 24)
      replace HE := Lib.hid (HE.out.alloc (.cells (anC ⟨m, G, O⟩) 24))
      go_wp2_with (first | (refine wpList_store_new rfl 24 _ _ rfl (anC _) _ _ rfl rfl (an_info _) (by simp [anC_size]) (anC_one _) ?_) | (refine wpList_load_blk (by rfl) 24 _ rfl rfl hn1 Tryd.underlying24 rfl (by kernel_rfl) ?_) | (refine wpList_load_blk (by rfl) 24 _ rfl rfl h1 Tryd.underlying24 rfl (by kernel_rfl) ?_) | (refine wpList_store_blk rfl 24 _ _ rfl rfl rfl k1 (an_info _) (by simp [anC_size]) (anC_one _) ?_))
      (try simp only [Exit.inBlock, Exit.then]); (try rw [Exit.noGoto_ret]); refine bodyPost_ret (results_c2 rfl _ _ _ _ _ _ rfl ((k1.row _)) rfl Tryd.underlying24 (an_info _)) rfl ?_
      exact ⟨rfl, HE.out.row (by omega) _⟩
    · rw [hb] at hB
      obtain ⟨e1, e2⟩ := an_G0 hB
      rw [e1, e2]
      rw [bit_same hF hb] at hmk
      have hq : ∀ W, (binOp .eql 24 (.agg (anC ⟨m, F, O⟩)) (.agg (anC ⟨m, F, O⟩))).run Tryd.prog W = .ok (.bool true) W := fun W => by
        rw [eql_an, decide_eq_true rfl]
      clear hB e1 e2 hb hi h m1 hn
      go_enter Tryd.func13, Tryd.ntmps13
      go_wp2_with (refine wpList_load_blk (by rfl) 24 _ rfl rfl h1 Tryd.underlying24 rfl (by kernel_rfl) ?_)
      refine (hmk _).mono ?_
      rintro e w1 ⟨rfl, hE⟩
      replace h1 := h1.ext hE
      replace k1 := k1.ext hE
      replace HE := Lib.hid (HE.out.trans hE)
      clear hE hmk x0 hu hs hd hd2 hw
      have hn1 := Blk.new w1 24 (anC ⟨m, F, O⟩)
      replace h1 := h1.alloc (.cells (anC ⟨m, F, O⟩) 24)
      replace k1 := k1.alloc (.cells (anC ⟨m, F, O⟩) 24)
      replace HE := Lib.hid (HE.out.alloc (.cells (anC ⟨m, F, O⟩) 24))
      go_wp2_with (first | (refine wpList_store_new rfl 24 _ _ rfl (anC _) _ _ rfl rfl (an_info _) (by simp [anC_size]) (anC_one _) ?_) | (refine wpList_load_blk (by rfl) 24 _ rfl rfl hn1 Tryd.underlying24 rfl (by kernel_rfl) ?_) | (refine wpList_load_blk (by rfl) 24 _ rfl rfl h1 Tryd.underlying24 rfl (by kernel_rfl) ?_) | (refine wpList_store_blk rfl 24 _ _ rfl rfl rfl k1 (an_info _) (by simp [anC_size]) (anC_one _) ?_))
      (try simp only [Exit.inBlock, Exit.then]); (try rw [Exit.noGoto_ret]); refine bodyPost_ret (results_c2 rfl _ _ _ _ _ _ rfl ((k1.row _)) rfl Tryd.underlying24 (an_info _)) rfl ?_
      exact ⟨rfl, HE.out.row (by omega) _⟩
  · have hB : anB ⟨m, F, O⟩ n = false := anB_no fun j h1 h2 => hi (by omega)
    obtain ⟨e1, e2⟩ := an_G0 hB
    rw [e1, e2]
    obtain ⟨i, hs, hd⟩ : ∃ i : Nat, IntKind.u64.wrap ((n : Int) - 1) = (i : Int) ∧ m ≤ i := by
      by_cases h2 : n = 0
      · exact ⟨18446744073709551615, by subst h2; rfl, by omega⟩
      · exact ⟨n - 1, by rw [IntKind.wrap_u64]; omega, by omega⟩
    have hd1 : decide ((m : Int) ≤ (i : Int)) = true := by simp; omega
    have hd2 : decide (m ≤ i) = true := by simp; omega
    clear hB e1 e2 hi hd h m1 hn
    go_enter Tryd.func13, Tryd.ntmps13
    go_wp2_with (first | (refine wpList_load_blk (by rfl) 24 _ rfl rfl h1 Tryd.underlying24 rfl (by kernel_rfl) ?_) | (refine wpList_store_blk rfl 24 _ _ rfl rfl rfl k1 (an_info _) (by simp [anC_size]) (anC_one _) ?_))
    (try simp only [Exit.inBlock, Exit.then]); (try rw [Exit.noGoto_ret]); refine bodyPost_ret (results_c2 rfl _ _ _ _ _ _ rfl ((k1.row _)) rfl Tryd.underlying24 (an_info _)) rfl ?_
    exact ⟨rfl, HE.out.row (by omega) _⟩
set_option maxHeartbeats 1000000 in
theorem take18_c (p : As) (m : Nat) (h : AnOk p m) (w : World) (hT : Tab w) :
    Calls Tryd.prog 11 #[.agg (anC p)] w fun e w' => e = .returned (.tuple #[.agg (anC (anT p)), .int .u64 (anX p : Int), .bool (anO p), .int .i64 (anTe p)]) ∧ Ext w w' := by
  have h1 : Blk ((w.alloc (.cells (anC p) 24)).alloc (.cells #[.int .i64 0, .int .u64 0, .int .u64 0] 24)) w.heap.size 24 (anC p) := (Blk.new w _ _).alloc _
  have k1 : Blk ((w.alloc (.cells (anC p) 24)).alloc (.cells #[.int .i64 0, .int .u64 0, .int .u64 0] 24)) (w.heap.size + 1) 24 #[.int .i64 0, .int .u64 0, .int .u64 0] := blk_at (by simp)
  have HE := Lib.hid (((Ext.refl w).alloc (.cells (anC p) 24)).alloc (.cells #[.int .i64 0, .int .u64 0, .int .u64 0] 24))
  have hT1 := Lib.hid (hT.below HE.out)
  have hF := h.f64
  have hO := h.o64
  have hm := h.le
  have hg := an_guard
  obtain ⟨x0, x1, x2⟩ := h1.an
  clear x0 x2
  by_cases h0 : p.fr = 0
  · obtain ⟨e1, e2, e3, e4⟩ := an_T0 h0
    rw [e1, e2, e3, e4]
    clear e1 e2 e3 e4 hF hO h
    obtain ⟨y, F, O⟩ := p
    simp only at h0
    subst h0
    have hmk := fun W => mark18_c y 0 O 64 false (by decide) (by decide) W
    rw [bit_out (by decide) (by decide) false] at hmk
    have hq : ∀ W, (binOp .eql 24 (.agg (anC ⟨y, 0, O⟩)) (.agg (anC ⟨y, 0, O⟩))).run Tryd.prog W = .ok (.bool true) W := fun W => by
      rw [eql_an, decide_eq_true rfl]
    go_enter Tryd.func11, Tryd.ntmps11
    go_wp2_with fail
    refine (tz_zero _).mono ?_
    rintro e w1 ⟨rfl, hw1⟩
    subst hw1
    clear x1 hT1
    go_wp2_with (refine wpList_load_blk (by rfl) 24 _ rfl rfl h1 Tryd.underlying24 rfl (by kernel_rfl) ?_)
    refine (hmk _).mono ?_
    rintro e w1 ⟨rfl, hE⟩
    replace h1 := h1.ext hE
    replace k1 := k1.ext hE
    replace HE := Lib.hid (HE.out.trans hE)
    clear hE hmk
    have hn1 := Blk.new w1 24 (anC ⟨y, 0, O⟩)
    replace h1 := h1.alloc (.cells (anC ⟨y, 0, O⟩) 24)
    replace k1 := k1.alloc (.cells (anC ⟨y, 0, O⟩) 24)
    replace HE := Lib.hid (HE.out.alloc (.cells (anC ⟨y, 0, O⟩) 24))
    go_wp2_with (first | (refine wpList_store_new rfl 24 _ _ rfl (anC _) _ _ rfl rfl (an_info _) (by simp [anC_size]) (anC_one _) ?_) | (refine wpList_load_blk (by rfl) 24 _ rfl rfl hn1 Tryd.underlying24 rfl (by kernel_rfl) ?_) | (refine wpList_load_blk (by rfl) 24 _ rfl rfl h1 Tryd.underlying24 rfl (by kernel_rfl) ?_) | (refine wpList_store_blk rfl 24 _ _ rfl rfl rfl k1 (an_info _) (by simp [anC_size]) (anC_one _) ?_))
    (try simp only [Exit.inBlock, Exit.then]); (try rw [Exit.noGoto_ret]); refine bodyPost_ret (results_c4 rfl _ _ _ _ _ _ rfl ((k1.row _)) rfl Tryd.underlying24 (an_info _)) rfl ?_
    exact ⟨rfl, HE.out.row (by omega) _⟩
  · obtain ⟨e1, e2, e3, e4⟩ := an_T1 h0
    rw [e1, e2, e3, e4]
    have hk := (low_spec h0 hF).1
    have hne := take_ne h0 hF
    obtain ⟨y, F, O⟩ := p
    simp only at h0 hF hO hk hne x1 ⊢
    have ht : ∀ w, Tab w → Calls Tryd.prog 20 #[.int .u64 (F : Int)] w fun e w' => e = .returned (.int .i64 ((lowN' F : Nat) : Int)) ∧ w = w' := fun w h => by
      have := tz_c F hF w h
      rwa [← low_def] at this
    have hmk := fun W => mark18_c y F O (lowN' F) false hF (by omega) W
    rw [← take_def] at hmk
    have how := fun W => owned18_c y (takeF F) O (lowN' F) hO (by omega) W
    have hq : ∀ W, (binOp .eql 24 (.agg (anC ⟨y, takeF F, O⟩)) (.agg (anC ⟨y, F, O⟩))).run Tryd.prog W = .ok (.bool false) W := fun W => by
      rw [eql_an, decide_eq_false (fun q => hne (by injection q))]
    have hq2 : ∀ W, (binOp .eql 24 (.agg (anC ⟨y, takeF F, bitN O (lowN' F) true⟩)) (.agg (anC ⟨y, takeF F, O⟩))).run Tryd.prog W = .ok (.bool (O.testBit (lowN' F))) W := fun W => by
      rw [eql_an]
      cases hb : O.testBit (lowN' F)
      · rw [decide_eq_false (fun q => bit_ne hO hk (b := true) (by rw [hb]; decide) (by injection q))]
      · rw [bit_same hO hb, decide_eq_true rfl]
    clear e1 e2 e3 e4 h0 hne h hm
    generalize lowN' F = L at *
    generalize takeF F = G at *
    generalize bitN O L true = Q at *
    generalize O.testBit L = T at *
    have hs : IntKind.u64.wrap ((L : Int) + 1) = (L : Int) + 1 := by rw [IntKind.wrap_u64]; omega
    have hs3 : Hid (((L + 1 : Nat) : Int) = (L : Int) + 1) := Lib.hid (by omega)
    have hs2 : IntKind.u64.wrap (L : Int) = (L : Int) := by rw [IntKind.wrap_u64]; omega
    go_enter Tryd.func11, Tryd.ntmps11
    go_wp2_with fail
    refine (ht _ hT1.out).mono ?_
    rintro e w1 ⟨rfl, hw1⟩
    subst hw1
    clear x1 hT1 ht hT
    go_wp2_with (refine wpList_load_blk (by rfl) 24 _ rfl rfl h1 Tryd.underlying24 rfl (by kernel_rfl) ?_)
    refine (hmk _).mono ?_
    rintro e w1 ⟨rfl, hE⟩
    replace h1 := h1.ext hE
    replace k1 := k1.ext hE
    replace HE := Lib.hid (HE.out.trans hE)
    clear hE hmk
    have l1 : w.heap.size + 1 < w1.heap.size := k1.lt
    have hn1 := Blk.new w1 24 (anC ⟨y, G, O⟩)
    replace h1 := h1.alloc (.cells (anC ⟨y, G, O⟩) 24)
    replace k1 := k1.alloc (.cells (anC ⟨y, G, O⟩) 24)
    replace HE := Lib.hid (HE.out.alloc (.cells (anC ⟨y, G, O⟩) 24))
    go_wp2_with (first | (refine wpList_store_new rfl 24 _ _ rfl (anC _) _ _ rfl rfl (an_info _) (by simp [anC_size]) (anC_one _) ?_) | (refine wpList_load_blk (by rfl) 24 _ rfl rfl hn1 Tryd.underlying24 rfl (by kernel_rfl) ?_) | (refine wpList_load_blk (by rfl) 24 _ rfl rfl h1 Tryd.underlying24 rfl (by kernel_rfl) ?_) | (refine wpList_store_blk rfl 24 _ _ rfl rfl rfl k1 (an_info _) (by simp [anC_size]) (anC_one _) ?_))
    refine (how _).mono ?_
    rintro e w2 ⟨rfl, hE⟩
    replace h1 := h1.ext hE
    replace k1 := k1.ext hE
    replace hn1 := hn1.ext hE
    replace HE := Lib.hid (HE.out.trans hE)
    clear hE how hq
    have l2 : w1.heap.size < w2.heap.size := hn1.lt
    have hn2 := Blk.new w2 24 (anC ⟨y, G, Q⟩)
    replace k1 := k1.alloc (.cells (anC ⟨y, G, Q⟩) 24)
    replace hn1 := hn1.alloc (.cells (anC ⟨y, G, Q⟩) 24)
    replace HE := Lib.hid (HE.out.alloc (.cells (anC ⟨y, G, Q⟩) 24))
    go_wp2_with (first | (refine wpList_store_new rfl 24 _ _ rfl (anC _) _ _ rfl rfl (an_info _) (by simp [anC_size]) (anC_one _) ?_))
    simp only [Act.put, List.setIfInBounds_toArray, List.set_cons_zero, List.set_cons_succ]
    replace k1 := k1.drew
    replace hn1 := hn1.drew
    replace hn2 := hn2.drew
    replace HE := Lib.hid HE.out.drew
    refine wp_region_seq [(0, false), (1, false), (2, false), (3, false), (4, false), (5, false), (6, false), (7, true), (8, false), (9, false), (10, false)] (Gap (w.heap.size + 1) (w.heap.size + 1 + 1)) (by kernel_rfl) (by kernel_rfl) (Gap.refl _ _) (fun _ _ _ => Gap.trans) ?_; simp only [List.map, nth_z, nth_s]
    generalize (w2.alloc (.cells (anC ⟨y, G, Q⟩) 24)).drew = w3 at *
    refine seq_load rfl rfl (fun x hx => Gap.blk hx (hn2) (by omega)) rfl Tryd.underlying24 (by kernel_rfl) (by rfl) ?_; intro K hK; simp only [Act.put, List.setIfInBounds_toArray, List.set_cons_zero, List.set_cons_succ]; refine hK _ ?_; clear hK K
    (repeat (first | (refine seq_skip (by rfl) ?_; intro K hK; simp only [Act.put, List.setIfInBounds_toArray, List.set_cons_zero, List.set_cons_succ]; refine hK _ ?_; clear hK K) | (refine seq_skipc (by rfl) ?_; intro K hK; simp only [Act.put, List.setIfInBounds_toArray, List.set_cons_zero, List.set_cons_succ]; refine hK _ ?_; clear hK K) | (refine seq_read (by rfl) (by rfl) ?_; intro K hK; go_big_quiet_op; first | go_big_quiet_on | (refine ⟨_, fun _ _ => rfl, ?_⟩; go_big_quiet_on))))
    refine seq_load rfl rfl (fun x hx => Gap.blk hx (hn2) (by omega)) rfl Tryd.underlying24 (by kernel_rfl) (by rfl) ?_; intro K hK; simp only [Act.put, List.setIfInBounds_toArray, List.set_cons_zero, List.set_cons_succ]; refine hK _ ?_; clear hK K
    (repeat (first | (refine seq_skip (by rfl) ?_; intro K hK; simp only [Act.put, List.setIfInBounds_toArray, List.set_cons_zero, List.set_cons_succ]; refine hK _ ?_; clear hK K) | (refine seq_skipc (by rfl) ?_; intro K hK; simp only [Act.put, List.setIfInBounds_toArray, List.set_cons_zero, List.set_cons_succ]; refine hK _ ?_; clear hK K) | (refine seq_read (by rfl) (by rfl) ?_; intro K hK; go_big_quiet_op; first | go_big_quiet_on | (refine ⟨_, fun _ _ => rfl, ?_⟩; go_big_quiet_on))))
    refine seq_load rfl rfl (fun x hx => Gap.blk hx (hn1) (by omega)) rfl Tryd.underlying24 (by kernel_rfl) (by rfl) ?_; intro K hK; simp only [Act.put, List.setIfInBounds_toArray, List.set_cons_zero, List.set_cons_succ]; refine hK _ ?_; clear hK K
    refine seq_value (.bool (T)) (by rfl) (fun x hx => by simp [go_sem, execOp, Act.eval, hq2, run_eqGuard_agg _ _ _ _ _ _ _ hg]) ?_; intro K hK; simp only [Act.put, List.setIfInBounds_toArray, List.set_cons_zero, List.set_cons_succ]; refine hK _ ?_; clear hK K
    (repeat (first | (refine seq_skip (by rfl) ?_; intro K hK; simp only [Act.put, List.setIfInBounds_toArray, List.set_cons_zero, List.set_cons_succ]; refine hK _ ?_; clear hK K) | (refine seq_skipc (by rfl) ?_; intro K hK; simp only [Act.put, List.setIfInBounds_toArray, List.set_cons_zero, List.set_cons_succ]; refine hK _ ?_; clear hK K) | (refine seq_read (by rfl) (by rfl) ?_; intro K hK; go_big_quiet_op; first | go_big_quiet_on | (refine ⟨_, fun _ _ => rfl, ?_⟩; go_big_quiet_on))))
    refine seq_store_row rfl rfl rfl (k1) (an_info _) (by simp [anC_size]) (anC_one _) (by rfl) (Gap.row _ (by omega) (by omega) _) ?_; intro K hK; simp only [Act.put, List.setIfInBounds_toArray, List.set_cons_zero, List.set_cons_succ]; refine hK _ _ ?_; clear hK K
    (repeat (first | (refine seq_skip (by rfl) ?_; intro K hK; simp only [Act.put, List.setIfInBounds_toArray, List.set_cons_zero, List.set_cons_succ]; refine hK _ ?_; clear hK K) | (refine seq_skipc (by rfl) ?_; intro K hK; simp only [Act.put, List.setIfInBounds_toArray, List.set_cons_zero, List.set_cons_succ]; refine hK _ ?_; clear hK K) | (refine seq_read (by rfl) (by rfl) ?_; intro K hK; go_big_quiet_op; first | go_big_quiet_on | (refine ⟨_, fun _ _ => rfl, ?_⟩; go_big_quiet_on))))
    refine seq_done ?_
    go_wp2
    (try simp only [Exit.inBlock, Exit.then]); (try rw [Exit.noGoto_ret]); refine bodyPost_ret (results_c4 rfl _ _ _ _ _ _ rfl ((k1.row _)) rfl Tryd.underlying24 (an_info _)) rfl ?_
    exact ⟨by rw [hs3.out]; rfl, HE.out.row (by omega) _⟩
theorem asidC18 : AsidC Tab where
  ext := fun w w' h e => h.below e
  new := fun y w h _ => new18_c y h.1 h.2 w
  right := fun p w h _ => right18_c p h w
  free := fun p m w h _ => free18_c p m h w
  take := fun p m w h hT => take18_c p m h w hT
  give := fun p m n w h hn _ => give18_c p m n h hn w
end Go.Proofs.YtngioemeplllhaaDoor
