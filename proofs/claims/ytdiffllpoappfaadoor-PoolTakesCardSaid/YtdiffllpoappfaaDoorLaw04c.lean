/- PoolBack. -/
import Derived.Test.YtdiffllpoappfaaDoorLaw04b
namespace Go.Proofs.YtdiffllpoappfaaDoor
open Go.ChangeShapes Go.WideShapes Go.ChangeAt Go.RowKit
set_option linter.unusedVariables false
set_option linter.unusedSimpArgs false

theorem isB_yes {B M F f : Nat} (h : isB B M F f = true) : B ≤ f ∧ f < B + M ∧ F.testBit (f - B) = false := by
  unfold isB at h
  simp only [Bool.and_eq_true, decide_eq_true_eq, Bool.not_eq_true'] at h
  exact ⟨h.1.1, h.1.2, h.2⟩
theorem isB_mk {B M F f : Nat} (h1 : B ≤ f) (h2 : f < B + M) (h3 : F.testBit (f - B) = false) : isB B M F f = true := by
  unfold isB; simp [h1, h2, h3]
theorem isB_set {B M F f : Nat} (h : F.testBit (f - B) = true) : isB B M F f = false := by
  unfold isB; simp [h]
theorem freed_not {B M F f : Nat} (hM : M ≤ 64) (hF : F < 18446744073709551616) (h : isB B M F f = false) : freedN B M F f = F := by
  have := isB_ne (B := B) (f := f) hM hF
  rw [h] at this; simpa using this

theorem take_back {B M F : Nat} (hM : M ≤ 64) (hF : F < 2 ^ M) (h0 : F ≠ 0) : freedN B M (takeF F) (B + lowN' F) = F ∧ isB B M (takeF F) (B + lowN' F) = true ∧ isB B M F (B + lowN' F) = false := by
  have hk := low_top h0 hM hF
  have h64 := pow_le64 hM hF
  obtain ⟨h1, h2, _⟩ := low_spec h0 h64
  have e : B + lowN' F - B = lowN' F := by omega
  refine ⟨?_, ?_, ?_⟩
  · rw [freed_in (by omega) (by omega), e, take_give h0 h64]
  · exact isB_mk (by omega) (by omega) (by rw [e, tb_take h64, if_pos ⟨rfl, h1⟩])
  · exact isB_set (by rw [e]; exact h2)
theorem give_take {B M F f : Nat} (hM : M ≤ 64) (hF : F < 2 ^ M) (h : isB B M F f = true) : ∃ H Y : Nat, freedN B M F f = H ∧ H < 18446744073709551616 ∧ H ≠ 0 ∧ Y = B + lowN' H ∧ Y ≤ f ∧ (Y = f → takeF H = F) ∧ popN H 64 = popN F 64 + 1 := by
  obtain ⟨h1, h2, h3⟩ := isB_yes h
  have h64 := pow_le64 hM hF
  have hH := bit_lt h64 (f - B) true
  have hb : (bitN F (f - B) true).testBit (f - B) = true := by rw [tb_bit h64, if_pos ⟨rfl, by omega⟩]
  have h0 : bitN F (f - B) true ≠ 0 := by intro e; rw [e] at hb; simp at hb
  obtain ⟨l1, l2, l3⟩ := low_spec h0 hH
  have hle : lowN' (bitN F (f - B) true) ≤ f - B := by
    apply Nat.le_of_not_lt; intro hlt
    rw [l3 _ hlt] at hb; cases hb
  refine ⟨bitN F (f - B) true, B + lowN' (bitN F (f - B) true), freed_in h1 h2, hH, h0, rfl, by omega, fun e => ?_, pop_give h64 (by omega) h3⟩
  rw [take_def, show lowN' (bitN F (f - B) true) = f - B by omega, bit_back h64 h3]

set_option maxRecDepth 100000 in
set_option maxHeartbeats 4000000 in
/-- what comes behind the first part: the frame given, and the least taken -/
theorem PoolBack_w (B F f : Nat) (M : Int) (hB : B < 18446744073709551616) (hm0 : -9223372036854775808 ≤ M) (hm1 : M ≤ 9223372036854775807) (hF : F < 18446744073709551616) (hf : f < 18446744073709551616) (w : World) (hT : Tab w) :
    Calls Tryd.prog 6 #[(.agg #[.int .u64 (B : Int), .int .i64 (M : Int), .int .u64 (F : Int)]), .int .u64 (f : Int)] w fun e w' => e = .returned (.bool true) ∧ Ext w w' := by
  have HT := Lib.hid (hT.alloc (.cells #[.int .u64 (B : Int), .int .i64 (M : Int), .int .u64 (F : Int)] 24))
  have HE := Lib.hid ((Ext.refl w).alloc (.cells #[.int .u64 (B : Int), .int .i64 (M : Int), .int .u64 (F : Int)] 24))
  clear hT
  have hrr := rright_c B F M hB hF hm0 hm1
  have hg := pool_guard
  have hb := Blk.new w 24 #[.int .u64 (B : Int), .int .i64 M, .int .u64 (F : Int)]
  cases hr : rightB B M F
  · rw [hr] at hrr
    go_enter Tryd.func6, Tryd.ntmps6
    go_wp2_with fail; refine (awake4_c _ HT.out).mono ?_; rintro e w1 ⟨rfl, hE⟩; replace HE := Lib.hid (HE.out.trans hE)
    have HT1 := Lib.hid (HT.out.ext hE)
    replace hb := hb.ext hE
    obtain ⟨b0, b1, b2⟩ := hb.c3
    clear hE HT
    go_wp2_with fail; refine (hrr _).mono ?_; rintro e w2 ⟨rfl, hE⟩; replace HE := Lib.hid (HE.out.trans hE)
    replace HT1 := Lib.hid (HT1.out.ext hE)
    clear hE hb b0 b1 b2
    go_wp2_with fail; refine (awake4_c _ HT1.out).mono ?_; rintro e w3 ⟨rfl, hE⟩; replace HE := Lib.hid (HE.out.trans hE)
    clear hE
    go_wp2
    go_ret
    exact ⟨rfl, HE.out⟩
  rw [hr] at hrr
  obtain ⟨m, rfl, hm, hB2, hFm⟩ := right_is hr
  have hqF : ∀ w, (binOp .neq 24 (.agg #[.int .u64 (B : Int), .int .i64 (m : Int), .int .u64 (F : Int)]) (.agg #[.int .u64 (B : Int), .int .i64 (m : Int), .int .u64 (F : Int)])).run Tryd.prog w = .ok (.bool false) w := fun w => by rw [neqP]; simp
  have hqE : ∀ w, (binOp .eql 24 (.agg #[.int .u64 (B : Int), .int .i64 (m : Int), .int .u64 (F : Int)]) (.agg #[.int .u64 (B : Int), .int .i64 (m : Int), .int .u64 (F : Int)])).run Tryd.prog w = .ok (.bool true) w := fun w => by rw [eqlP]; simp
  obtain ⟨G, x, ec, hct, hcase⟩ : ∃ G x ec : Nat, (∀ w, Tab w → Calls Tryd.prog 11 #[(.agg #[.int .u64 (B : Int), .int .i64 (m : Int), .int .u64 (F : Int)])] w fun e w' => e = .returned (.tuple #[(.agg #[.int .u64 (B : Int), .int .i64 (m : Int), .int .u64 (G : Int)]), .int .u64 (x : Int), .int .i64 (ec : Int)]) ∧ Ext w w') ∧
      (ec = 8 ∨ ec = 0 ∧ (∀ w, Calls Tryd.prog 13 #[(.agg #[.int .u64 (B : Int), .int .i64 (m : Int), .int .u64 (G : Int)]), .int .u64 (x : Int)] w fun e w' => e = .returned (.tuple #[(.agg #[.int .u64 (B : Int), .int .i64 (m : Int), .int .u64 (F : Int)]), .int .i64 0]) ∧ Ext w w') ∧
        (∀ w, Calls Tryd.prog 17 #[(.agg #[.int .u64 (B : Int), .int .i64 (m : Int), .int .u64 (G : Int)]), .int .u64 (x : Int)] w fun e w' => e = .returned (.bool true) ∧ Ext w w') ∧
        (∀ w, Calls Tryd.prog 17 #[(.agg #[.int .u64 (B : Int), .int .i64 (m : Int), .int .u64 (F : Int)]), .int .u64 (x : Int)] w fun e w' => e = .returned (.bool false) ∧ Ext w w')) := by
    by_cases h0 : F = 0
    · subst h0; exact ⟨0, 0, 8, fun w hT => take_no B m w hT, .inl rfl⟩
    · obtain ⟨e1, e2, e3⟩ := take_back (B := B) hm hFm h0
      have hk := low_top h0 hm hFm
      have hG : takeF F < 18446744073709551616 := take_lt hF
      refine ⟨takeF F, B + lowN' F, 0, fun w hT => take_yes B m F hB2 hF h0 w hT, .inr ⟨rfl, fun w => ?_, fun w => ?_, fun w => ?_⟩⟩
      · have := give_c B m (takeF F) (B + lowN' F) hB2 hm hG (by omega) w
        rwa [e1, e2] at this
      · have := is_c B m (takeF F) (B + lowN' F) hB2 hm hG (by omega) w
        rwa [e2] at this
      · have := is_c B m F (B + lowN' F) hB2 hm hF (by omega) w
        rwa [e3] at this
  have hgv := give_c B m F f hB2 hm hF hf
  have hic := is_c B m F f hB2 hm hF hf
  have hfF := free_c B F m hF
  cases hi : isB B m F f
  · rw [hi] at hgv hic
    rw [freed_not hm hF hi] at hgv
    simp only [Bool.false_eq_true, if_false] at hgv
    rcases hcase with rfl | ⟨rfl, hg1, hi1, hi2⟩
    ·
      go_enter Tryd.func6, Tryd.ntmps6
      go_wp2_with fail; refine (awake4_c _ HT.out).mono ?_; rintro e w1 ⟨rfl, hE⟩; replace HE := Lib.hid (HE.out.trans hE)
      have HT1 := Lib.hid (HT.out.ext hE)
      replace hb := hb.ext hE
      obtain ⟨b0, b1, b2⟩ := hb.c3
      clear hE HT
      go_wp2_with fail; refine (hrr _).mono ?_; rintro e w2 ⟨rfl, hE⟩; replace HE := Lib.hid (HE.out.trans hE)
      replace HT1 := Lib.hid (HT1.out.ext hE)
      replace hb := hb.ext hE
      clear hE b0 b1 b2 hrr
      obtain ⟨b0, b1, b2⟩ := hb.c3
      go_wp2_with fail; refine (hct _ HT1.out).mono ?_; rintro e w3 ⟨rfl, hE⟩; replace HE := Lib.hid (HE.out.trans hE)
      replace HT1 := Lib.hid ((HT1.out.ext hE).alloc (.cells #[.int .u64 (B : Int), .int .i64 (m : Int), .int .u64 (G : Int)] 24))
      replace hb := hb.ext hE
      have ha := Blk.new w3 24 #[.int .u64 (B : Int), .int .i64 (m : Int), .int .u64 (G : Int)]
      replace hb := hb.alloc (.cells #[.int .u64 (B : Int), .int .i64 (m : Int), .int .u64 (G : Int)] 24)
      replace HE := Lib.hid (HE.out.alloc (.cells #[.int .u64 (B : Int), .int .i64 (m : Int), .int .u64 (G : Int)] 24))
      clear hE b0 b1 b2 hct
      obtain ⟨b0, b1, b2⟩ := hb.c3
      clear ha
      go_wp2_with fail; refine (hgv _).mono ?_; rintro e w7 ⟨rfl, hE⟩; replace HE := Lib.hid (HE.out.trans hE)
      replace hb := hb.ext hE
      have hc := Blk.new w7 24 #[.int .u64 (B : Int), .int .i64 (m : Int), .int .u64 (F : Int)]
      replace hb := hb.alloc (.cells #[.int .u64 (B : Int), .int .i64 (m : Int), .int .u64 (F : Int)] 24)
      replace HE := Lib.hid (HE.out.alloc (.cells #[.int .u64 (B : Int), .int .i64 (m : Int), .int .u64 (F : Int)] 24))
      clear hE b0 b1 b2 hgv
      obtain ⟨b0, b1, b2⟩ := (hb).c3
      obtain ⟨c0, c1, c2⟩ := (hc).c3
      go_wp2_with fail; refine (hic _).mono ?_; rintro e w8 ⟨rfl, hE⟩; replace HE := Lib.hid (HE.out.trans hE)
      clear hE hb hc b0 b1 b2 c0 c1 c2
      go_wp2
      go_ret
      exact ⟨rfl, HE.out⟩
    ·
      go_enter Tryd.func6, Tryd.ntmps6
      go_wp2_with fail; refine (awake4_c _ HT.out).mono ?_; rintro e w1 ⟨rfl, hE⟩; replace HE := Lib.hid (HE.out.trans hE)
      have HT1 := Lib.hid (HT.out.ext hE)
      replace hb := hb.ext hE
      obtain ⟨b0, b1, b2⟩ := hb.c3
      clear hE HT
      go_wp2_with fail; refine (hrr _).mono ?_; rintro e w2 ⟨rfl, hE⟩; replace HE := Lib.hid (HE.out.trans hE)
      replace HT1 := Lib.hid (HT1.out.ext hE)
      replace hb := hb.ext hE
      clear hE b0 b1 b2 hrr
      obtain ⟨b0, b1, b2⟩ := hb.c3
      go_wp2_with fail; refine (hct _ HT1.out).mono ?_; rintro e w3 ⟨rfl, hE⟩; replace HE := Lib.hid (HE.out.trans hE)
      replace HT1 := Lib.hid ((HT1.out.ext hE).alloc (.cells #[.int .u64 (B : Int), .int .i64 (m : Int), .int .u64 (G : Int)] 24))
      replace hb := hb.ext hE
      have ha := Blk.new w3 24 #[.int .u64 (B : Int), .int .i64 (m : Int), .int .u64 (G : Int)]
      replace hb := hb.alloc (.cells #[.int .u64 (B : Int), .int .i64 (m : Int), .int .u64 (G : Int)] 24)
      replace HE := Lib.hid (HE.out.alloc (.cells #[.int .u64 (B : Int), .int .i64 (m : Int), .int .u64 (G : Int)] 24))
      clear hE b0 b1 b2 hct
      obtain ⟨b0, b1, b2⟩ := hb.c3
      obtain ⟨a0, a1, a2⟩ := (ha).c3
      go_wp2_with fail; refine (hg1 _).mono ?_; rintro e w4 ⟨rfl, hE⟩; replace HE := Lib.hid (HE.out.trans hE)
      replace HT1 := Lib.hid ((HT1.out.ext hE).alloc (.cells #[.int .u64 (B : Int), .int .i64 (m : Int), .int .u64 (F : Int)] 24))
      replace hb := hb.ext hE
      replace ha := ha.ext hE
      have hc := Blk.new w4 24 #[.int .u64 (B : Int), .int .i64 (m : Int), .int .u64 (F : Int)]
      replace hb := hb.alloc (.cells #[.int .u64 (B : Int), .int .i64 (m : Int), .int .u64 (F : Int)] 24)
      replace ha := ha.alloc (.cells #[.int .u64 (B : Int), .int .i64 (m : Int), .int .u64 (F : Int)] 24)
      replace HE := Lib.hid (HE.out.alloc (.cells #[.int .u64 (B : Int), .int .i64 (m : Int), .int .u64 (F : Int)] 24))
      clear hE b0 b1 b2 a0 a1 a2 hg1
      obtain ⟨a0, a1, a2⟩ := (ha).c3
      obtain ⟨b0, b1, b2⟩ := (hb).c3
      obtain ⟨c0, c1, c2⟩ := (hc).c3
      go_wp2_with fail; refine (hi1 _).mono ?_; rintro e w5 ⟨rfl, hE⟩; replace HE := Lib.hid (HE.out.trans hE)
      replace HT1 := Lib.hid (HT1.out.ext hE)
      replace hb := hb.ext hE
      clear hE b0 b1 b2 a0 a1 a2 c0 c1 c2 ha hc hi1
      obtain ⟨b0, b1, b2⟩ := (hb).c3
      go_wp2_with fail; refine (hi2 _).mono ?_; rintro e w6 ⟨rfl, hE⟩; replace HE := Lib.hid (HE.out.trans hE)
      replace HT1 := Lib.hid (HT1.out.ext hE)
      replace hb := hb.ext hE
      clear hE b0 b1 b2 hi2
      obtain ⟨b0, b1, b2⟩ := (hb).c3
      go_wp2_with fail; refine (hgv _).mono ?_; rintro e w7 ⟨rfl, hE⟩; replace HE := Lib.hid (HE.out.trans hE)
      replace hb := hb.ext hE
      have hc := Blk.new w7 24 #[.int .u64 (B : Int), .int .i64 (m : Int), .int .u64 (F : Int)]
      replace hb := hb.alloc (.cells #[.int .u64 (B : Int), .int .i64 (m : Int), .int .u64 (F : Int)] 24)
      replace HE := Lib.hid (HE.out.alloc (.cells #[.int .u64 (B : Int), .int .i64 (m : Int), .int .u64 (F : Int)] 24))
      clear hE b0 b1 b2 hgv
      obtain ⟨b0, b1, b2⟩ := (hb).c3
      obtain ⟨c0, c1, c2⟩ := (hc).c3
      go_wp2_with fail; refine (hic _).mono ?_; rintro e w8 ⟨rfl, hE⟩; replace HE := Lib.hid (HE.out.trans hE)
      clear hE hb hc b0 b1 b2 c0 c1 c2
      go_wp2
      go_ret
      exact ⟨rfl, HE.out⟩
  · rw [hi] at hgv
    obtain ⟨H, Y, e1, hH, hH0, e2, hY, hd, hpop⟩ := give_take hm hFm hi
    rw [e1] at hgv
    simp only [if_true] at hgv
    have htk := take_yes B m H hB2 hH hH0
    rw [← e2] at htk
    have hfH := free_c B H m hH
    rw [hpop] at hfH
    have hpl := pop_le64 F
    generalize popN F 64 = pop at *
    generalize takeF H = D at *
    clear e1 e2 hpop hH0
    have hs : IntKind.i64.wrap ((pop : Int) + 1) = ((pop + 1 : Nat) : Int) := by rw [IntKind.wrap_i64]; omega
    have y1 : decide ((Y : Int) ≤ (f : Int)) = true := by simp; omega
    have y2 : decide (Y ≤ f) = true := by simp; omega
    rcases hcase with rfl | ⟨rfl, hg1, hi1, hi2⟩
    ·
      go_enter Tryd.func6, Tryd.ntmps6
      go_wp2_with fail; refine (awake4_c _ HT.out).mono ?_; rintro e w1 ⟨rfl, hE⟩; replace HE := Lib.hid (HE.out.trans hE)
      have HT1 := Lib.hid (HT.out.ext hE)
      replace hb := hb.ext hE
      obtain ⟨b0, b1, b2⟩ := hb.c3
      clear hE HT
      go_wp2_with fail; refine (hrr _).mono ?_; rintro e w2 ⟨rfl, hE⟩; replace HE := Lib.hid (HE.out.trans hE)
      replace HT1 := Lib.hid (HT1.out.ext hE)
      replace hb := hb.ext hE
      clear hE b0 b1 b2 hrr
      obtain ⟨b0, b1, b2⟩ := hb.c3
      go_wp2_with fail; refine (hct _ HT1.out).mono ?_; rintro e w3 ⟨rfl, hE⟩; replace HE := Lib.hid (HE.out.trans hE)
      replace HT1 := Lib.hid ((HT1.out.ext hE).alloc (.cells #[.int .u64 (B : Int), .int .i64 (m : Int), .int .u64 (G : Int)] 24))
      replace hb := hb.ext hE
      have ha := Blk.new w3 24 #[.int .u64 (B : Int), .int .i64 (m : Int), .int .u64 (G : Int)]
      replace hb := hb.alloc (.cells #[.int .u64 (B : Int), .int .i64 (m : Int), .int .u64 (G : Int)] 24)
      replace HE := Lib.hid (HE.out.alloc (.cells #[.int .u64 (B : Int), .int .i64 (m : Int), .int .u64 (G : Int)] 24))
      clear hE b0 b1 b2 hct
      obtain ⟨b0, b1, b2⟩ := hb.c3
      clear ha
      go_wp2_with fail; refine (hgv _).mono ?_; rintro e w7 ⟨rfl, hE⟩; replace HE := Lib.hid (HE.out.trans hE)
      replace HT1 := Lib.hid ((HT1.out.ext hE).alloc (.cells #[.int .u64 (B : Int), .int .i64 (m : Int), .int .u64 (H : Int)] 24))
      replace hb := hb.ext hE
      have hc := Blk.new w7 24 #[.int .u64 (B : Int), .int .i64 (m : Int), .int .u64 (H : Int)]
      replace hb := hb.alloc (.cells #[.int .u64 (B : Int), .int .i64 (m : Int), .int .u64 (H : Int)] 24)
      replace HE := Lib.hid (HE.out.alloc (.cells #[.int .u64 (B : Int), .int .i64 (m : Int), .int .u64 (H : Int)] 24))
      clear hE b0 b1 b2 hgv
      obtain ⟨b0, b1, b2⟩ := (hb).c3
      obtain ⟨c0, c1, c2⟩ := (hc).c3
      go_wp2_with fail; refine (htk _ HT1.out).mono ?_; rintro e w8 ⟨rfl, hE⟩; replace HE := Lib.hid (HE.out.trans hE)
      replace hb := hb.ext hE
      replace hc := hc.ext hE
      have hdd := (Blk.new w8 24 #[.int .u64 (B : Int), .int .i64 (m : Int), .int .u64 (D : Int)]).drew
      replace hb := hb.alloc (.cells #[.int .u64 (B : Int), .int .i64 (m : Int), .int .u64 (D : Int)] 24)
      replace hc := hc.alloc (.cells #[.int .u64 (B : Int), .int .i64 (m : Int), .int .u64 (D : Int)] 24)
      replace hb := hb.drew
      replace hc := hc.drew
      replace HE := Lib.hid (HE.out.alloc (.cells #[.int .u64 (B : Int), .int .i64 (m : Int), .int .u64 (D : Int)] 24)).drew
      clear hE b0 b1 b2 c0 c1 c2 htk HT1
      by_cases hyf : Y = f
      · have hDF := hd hyf
        have y3 : ((Y : Int) != (f : Int)) = false := by simp; omega
        have y4 : (Y != f) = false := by simp; omega
        clear hd hyf
        subst hDF
        go_wp2
        refine wp_region_seq [(0, false), (1, false), (2, false), (3, false), (4, false), (5, false), (6, false), (7, false), (8, false), (9, false), (10, false), (11, false), (12, false), (13, false), (14, false), (15, false), (16, false), (17, false), (18, false), (20, false), (19, true), (21, true), (22, false), (23, false), (24, false), (25, false)] Ext (by kernel_rfl) (by kernel_rfl) Ext.refl (fun _ _ _ => Ext.trans) ?_; simp only [List.map, nth_z, nth_s]
        (repeat (first | (refine seq_skip (by rfl) ?_; intro K hK; simp only [Act.put, List.setIfInBounds_toArray, List.set_cons_zero, List.set_cons_succ]; refine hK _ ?_; clear hK K) | (refine seq_skipc (by rfl) ?_; intro K hK; simp only [Act.put, List.setIfInBounds_toArray, List.set_cons_zero, List.set_cons_succ]; refine hK _ ?_; clear hK K) | (refine seq_read (by rfl) (by rfl) ?_; intro K hK; go_big_quiet_op; first | go_big_quiet_on | (refine ⟨_, fun _ _ => rfl, ?_⟩; go_big_quiet_on))))
        refine seq_load rfl rfl (fun x hx => Blk.ext (hdd) hx) rfl Tryd.underlying24 (by kernel_rfl) (by rfl) ?_; intro K hK; simp only [Act.put, List.setIfInBounds_toArray, List.set_cons_zero, List.set_cons_succ]; refine hK _ ?_; clear hK K
        refine seq_load rfl rfl (fun x hx => Blk.ext (hb) hx) rfl Tryd.underlying24 (by kernel_rfl) (by rfl) ?_; intro K hK; simp only [Act.put, List.setIfInBounds_toArray, List.set_cons_zero, List.set_cons_succ]; refine hK _ ?_; clear hK K
        refine seq_value (.bool true) (by rfl) (fun x hx => by simp [go_sem, execOp, Act.eval, eqlP, neqP, run_eqGuard_agg _ _ _ _ _ _ _ pool_guard]) ?_; intro K hK; simp only [Act.put, List.setIfInBounds_toArray, List.set_cons_zero, List.set_cons_succ]; refine hK _ ?_; clear hK K
        (repeat (first | (refine seq_skip (by rfl) ?_; intro K hK; simp only [Act.put, List.setIfInBounds_toArray, List.set_cons_zero, List.set_cons_succ]; refine hK _ ?_; clear hK K) | (refine seq_skipc (by rfl) ?_; intro K hK; simp only [Act.put, List.setIfInBounds_toArray, List.set_cons_zero, List.set_cons_succ]; refine hK _ ?_; clear hK K) | (refine seq_read (by rfl) (by rfl) ?_; intro K hK; go_big_quiet_op; first | go_big_quiet_on | (refine ⟨_, fun _ _ => rfl, ?_⟩; go_big_quiet_on))))
        refine seq_load rfl rfl (fun x hx => Blk.ext (hc) hx) rfl Tryd.underlying24 (by kernel_rfl) (by rfl) ?_; intro K hK; simp only [Act.put, List.setIfInBounds_toArray, List.set_cons_zero, List.set_cons_succ]; refine hK _ ?_; clear hK K
        (repeat (first | (refine seq_skip (by rfl) ?_; intro K hK; simp only [Act.put, List.setIfInBounds_toArray, List.set_cons_zero, List.set_cons_succ]; refine hK _ ?_; clear hK K) | (refine seq_skipc (by rfl) ?_; intro K hK; simp only [Act.put, List.setIfInBounds_toArray, List.set_cons_zero, List.set_cons_succ]; refine hK _ ?_; clear hK K) | (refine seq_read (by rfl) (by rfl) ?_; intro K hK; go_big_quiet_op; first | go_big_quiet_on | (refine ⟨_, fun _ _ => rfl, ?_⟩; go_big_quiet_on))))
        refine seq_load rfl rfl (fun x hx => Blk.ext (hb) hx) rfl Tryd.underlying24 (by kernel_rfl) (by rfl) ?_; intro K hK; simp only [Act.put, List.setIfInBounds_toArray, List.set_cons_zero, List.set_cons_succ]; refine hK _ ?_; clear hK K
        (repeat (first | (refine seq_skip (by rfl) ?_; intro K hK; simp only [Act.put, List.setIfInBounds_toArray, List.set_cons_zero, List.set_cons_succ]; refine hK _ ?_; clear hK K) | (refine seq_skipc (by rfl) ?_; intro K hK; simp only [Act.put, List.setIfInBounds_toArray, List.set_cons_zero, List.set_cons_succ]; refine hK _ ?_; clear hK K) | (refine seq_read (by rfl) (by rfl) ?_; intro K hK; go_big_quiet_op; first | go_big_quiet_on | (refine ⟨_, fun _ _ => rfl, ?_⟩; go_big_quiet_on))))
        refine seq_call (hfH _) rfl Tryd.func15 (by kernel_rfl) (by kernel_rfl) (by rfl) (by rfl) ?_; intro K hK; rintro e w' ⟨rfl, hE⟩; refine ⟨_, rfl, hE, ?_⟩; simp only [Act.put, List.setIfInBounds_toArray, List.set_cons_zero, List.set_cons_succ]; refine hK _ _ ?_; clear hK K; replace HE := Lib.hid (HE.out.trans hE)
        clear hE
        refine seq_call (hfF _) rfl Tryd.func15 (by kernel_rfl) (by kernel_rfl) (by rfl) (by rfl) ?_; intro K hK; rintro e w' ⟨rfl, hE⟩; refine ⟨_, rfl, hE, ?_⟩; simp only [Act.put, List.setIfInBounds_toArray, List.set_cons_zero, List.set_cons_succ]; refine hK _ _ ?_; clear hK K; replace HE := Lib.hid (HE.out.trans hE)
        clear hE
        (repeat (first | (refine seq_skip (by rfl) ?_; intro K hK; simp only [Act.put, List.setIfInBounds_toArray, List.set_cons_zero, List.set_cons_succ]; refine hK _ ?_; clear hK K) | (refine seq_skipc (by rfl) ?_; intro K hK; simp only [Act.put, List.setIfInBounds_toArray, List.set_cons_zero, List.set_cons_succ]; refine hK _ ?_; clear hK K) | (refine seq_read (by rfl) (by rfl) ?_; intro K hK; go_big_quiet_op; first | go_big_quiet_on | (refine ⟨_, fun _ _ => rfl, ?_⟩; go_big_quiet_on))))
        refine seq_done ?_
        clear hb hc hdd
        go_wp2
        go_ret
        exact ⟨rfl, HE.out⟩
      · have y3 : ((Y : Int) != (f : Int)) = true := by simp; omega
        have y4 : (Y != f) = true := by simp; omega
        clear hd hyf
        go_wp2
        refine wp_region_seq [(0, false), (1, false), (2, false), (3, false), (4, false), (5, false), (6, false), (7, false), (8, false), (9, false), (10, false), (11, false), (12, false), (13, false), (14, false), (15, false), (16, false), (17, false), (18, false), (20, false), (19, true), (21, true), (22, false), (23, false), (24, false), (25, false)] Ext (by kernel_rfl) (by kernel_rfl) Ext.refl (fun _ _ _ => Ext.trans) ?_; simp only [List.map, nth_z, nth_s]
        (repeat (first | (refine seq_skip (by rfl) ?_; intro K hK; simp only [Act.put, List.setIfInBounds_toArray, List.set_cons_zero, List.set_cons_succ]; refine hK _ ?_; clear hK K) | (refine seq_skipc (by rfl) ?_; intro K hK; simp only [Act.put, List.setIfInBounds_toArray, List.set_cons_zero, List.set_cons_succ]; refine hK _ ?_; clear hK K) | (refine seq_read (by rfl) (by rfl) ?_; intro K hK; go_big_quiet_op; first | go_big_quiet_on | (refine ⟨_, fun _ _ => rfl, ?_⟩; go_big_quiet_on))))
        refine seq_load rfl rfl (fun x hx => Blk.ext (hc) hx) rfl Tryd.underlying24 (by kernel_rfl) (by rfl) ?_; intro K hK; simp only [Act.put, List.setIfInBounds_toArray, List.set_cons_zero, List.set_cons_succ]; refine hK _ ?_; clear hK K
        (repeat (first | (refine seq_skip (by rfl) ?_; intro K hK; simp only [Act.put, List.setIfInBounds_toArray, List.set_cons_zero, List.set_cons_succ]; refine hK _ ?_; clear hK K) | (refine seq_skipc (by rfl) ?_; intro K hK; simp only [Act.put, List.setIfInBounds_toArray, List.set_cons_zero, List.set_cons_succ]; refine hK _ ?_; clear hK K) | (refine seq_read (by rfl) (by rfl) ?_; intro K hK; go_big_quiet_op; first | go_big_quiet_on | (refine ⟨_, fun _ _ => rfl, ?_⟩; go_big_quiet_on))))
        refine seq_load rfl rfl (fun x hx => Blk.ext (hb) hx) rfl Tryd.underlying24 (by kernel_rfl) (by rfl) ?_; intro K hK; simp only [Act.put, List.setIfInBounds_toArray, List.set_cons_zero, List.set_cons_succ]; refine hK _ ?_; clear hK K
        (repeat (first | (refine seq_skip (by rfl) ?_; intro K hK; simp only [Act.put, List.setIfInBounds_toArray, List.set_cons_zero, List.set_cons_succ]; refine hK _ ?_; clear hK K) | (refine seq_skipc (by rfl) ?_; intro K hK; simp only [Act.put, List.setIfInBounds_toArray, List.set_cons_zero, List.set_cons_succ]; refine hK _ ?_; clear hK K) | (refine seq_read (by rfl) (by rfl) ?_; intro K hK; go_big_quiet_op; first | go_big_quiet_on | (refine ⟨_, fun _ _ => rfl, ?_⟩; go_big_quiet_on))))
        refine seq_call (hfH _) rfl Tryd.func15 (by kernel_rfl) (by kernel_rfl) (by rfl) (by rfl) ?_; intro K hK; rintro e w' ⟨rfl, hE⟩; refine ⟨_, rfl, hE, ?_⟩; simp only [Act.put, List.setIfInBounds_toArray, List.set_cons_zero, List.set_cons_succ]; refine hK _ _ ?_; clear hK K; replace HE := Lib.hid (HE.out.trans hE)
        clear hE
        refine seq_call (hfF _) rfl Tryd.func15 (by kernel_rfl) (by kernel_rfl) (by rfl) (by rfl) ?_; intro K hK; rintro e w' ⟨rfl, hE⟩; refine ⟨_, rfl, hE, ?_⟩; simp only [Act.put, List.setIfInBounds_toArray, List.set_cons_zero, List.set_cons_succ]; refine hK _ _ ?_; clear hK K; replace HE := Lib.hid (HE.out.trans hE)
        clear hE
        (repeat (first | (refine seq_skip (by rfl) ?_; intro K hK; simp only [Act.put, List.setIfInBounds_toArray, List.set_cons_zero, List.set_cons_succ]; refine hK _ ?_; clear hK K) | (refine seq_skipc (by rfl) ?_; intro K hK; simp only [Act.put, List.setIfInBounds_toArray, List.set_cons_zero, List.set_cons_succ]; refine hK _ ?_; clear hK K) | (refine seq_read (by rfl) (by rfl) ?_; intro K hK; go_big_quiet_op; first | go_big_quiet_on | (refine ⟨_, fun _ _ => rfl, ?_⟩; go_big_quiet_on))))
        refine seq_done ?_
        clear hb hc hdd
        go_wp2
        go_ret
        exact ⟨rfl, HE.out⟩
    ·
      go_enter Tryd.func6, Tryd.ntmps6
      go_wp2_with fail; refine (awake4_c _ HT.out).mono ?_; rintro e w1 ⟨rfl, hE⟩; replace HE := Lib.hid (HE.out.trans hE)
      have HT1 := Lib.hid (HT.out.ext hE)
      replace hb := hb.ext hE
      obtain ⟨b0, b1, b2⟩ := hb.c3
      clear hE HT
      go_wp2_with fail; refine (hrr _).mono ?_; rintro e w2 ⟨rfl, hE⟩; replace HE := Lib.hid (HE.out.trans hE)
      replace HT1 := Lib.hid (HT1.out.ext hE)
      replace hb := hb.ext hE
      clear hE b0 b1 b2 hrr
      obtain ⟨b0, b1, b2⟩ := hb.c3
      go_wp2_with fail; refine (hct _ HT1.out).mono ?_; rintro e w3 ⟨rfl, hE⟩; replace HE := Lib.hid (HE.out.trans hE)
      replace HT1 := Lib.hid ((HT1.out.ext hE).alloc (.cells #[.int .u64 (B : Int), .int .i64 (m : Int), .int .u64 (G : Int)] 24))
      replace hb := hb.ext hE
      have ha := Blk.new w3 24 #[.int .u64 (B : Int), .int .i64 (m : Int), .int .u64 (G : Int)]
      replace hb := hb.alloc (.cells #[.int .u64 (B : Int), .int .i64 (m : Int), .int .u64 (G : Int)] 24)
      replace HE := Lib.hid (HE.out.alloc (.cells #[.int .u64 (B : Int), .int .i64 (m : Int), .int .u64 (G : Int)] 24))
      clear hE b0 b1 b2 hct
      obtain ⟨b0, b1, b2⟩ := hb.c3
      obtain ⟨a0, a1, a2⟩ := (ha).c3
      go_wp2_with fail; refine (hg1 _).mono ?_; rintro e w4 ⟨rfl, hE⟩; replace HE := Lib.hid (HE.out.trans hE)
      replace HT1 := Lib.hid ((HT1.out.ext hE).alloc (.cells #[.int .u64 (B : Int), .int .i64 (m : Int), .int .u64 (F : Int)] 24))
      replace hb := hb.ext hE
      replace ha := ha.ext hE
      have hc := Blk.new w4 24 #[.int .u64 (B : Int), .int .i64 (m : Int), .int .u64 (F : Int)]
      replace hb := hb.alloc (.cells #[.int .u64 (B : Int), .int .i64 (m : Int), .int .u64 (F : Int)] 24)
      replace ha := ha.alloc (.cells #[.int .u64 (B : Int), .int .i64 (m : Int), .int .u64 (F : Int)] 24)
      replace HE := Lib.hid (HE.out.alloc (.cells #[.int .u64 (B : Int), .int .i64 (m : Int), .int .u64 (F : Int)] 24))
      clear hE b0 b1 b2 a0 a1 a2 hg1
      obtain ⟨a0, a1, a2⟩ := (ha).c3
      obtain ⟨b0, b1, b2⟩ := (hb).c3
      obtain ⟨c0, c1, c2⟩ := (hc).c3
      go_wp2_with fail; refine (hi1 _).mono ?_; rintro e w5 ⟨rfl, hE⟩; replace HE := Lib.hid (HE.out.trans hE)
      replace HT1 := Lib.hid (HT1.out.ext hE)
      replace hb := hb.ext hE
      clear hE b0 b1 b2 a0 a1 a2 c0 c1 c2 ha hc hi1
      obtain ⟨b0, b1, b2⟩ := (hb).c3
      go_wp2_with fail; refine (hi2 _).mono ?_; rintro e w6 ⟨rfl, hE⟩; replace HE := Lib.hid (HE.out.trans hE)
      replace HT1 := Lib.hid (HT1.out.ext hE)
      replace hb := hb.ext hE
      clear hE b0 b1 b2 hi2
      obtain ⟨b0, b1, b2⟩ := (hb).c3
      go_wp2_with fail; refine (hgv _).mono ?_; rintro e w7 ⟨rfl, hE⟩; replace HE := Lib.hid (HE.out.trans hE)
      replace HT1 := Lib.hid ((HT1.out.ext hE).alloc (.cells #[.int .u64 (B : Int), .int .i64 (m : Int), .int .u64 (H : Int)] 24))
      replace hb := hb.ext hE
      have hc := Blk.new w7 24 #[.int .u64 (B : Int), .int .i64 (m : Int), .int .u64 (H : Int)]
      replace hb := hb.alloc (.cells #[.int .u64 (B : Int), .int .i64 (m : Int), .int .u64 (H : Int)] 24)
      replace HE := Lib.hid (HE.out.alloc (.cells #[.int .u64 (B : Int), .int .i64 (m : Int), .int .u64 (H : Int)] 24))
      clear hE b0 b1 b2 hgv
      obtain ⟨b0, b1, b2⟩ := (hb).c3
      obtain ⟨c0, c1, c2⟩ := (hc).c3
      go_wp2_with fail; refine (htk _ HT1.out).mono ?_; rintro e w8 ⟨rfl, hE⟩; replace HE := Lib.hid (HE.out.trans hE)
      replace hb := hb.ext hE
      replace hc := hc.ext hE
      have hdd := (Blk.new w8 24 #[.int .u64 (B : Int), .int .i64 (m : Int), .int .u64 (D : Int)]).drew
      replace hb := hb.alloc (.cells #[.int .u64 (B : Int), .int .i64 (m : Int), .int .u64 (D : Int)] 24)
      replace hc := hc.alloc (.cells #[.int .u64 (B : Int), .int .i64 (m : Int), .int .u64 (D : Int)] 24)
      replace hb := hb.drew
      replace hc := hc.drew
      replace HE := Lib.hid (HE.out.alloc (.cells #[.int .u64 (B : Int), .int .i64 (m : Int), .int .u64 (D : Int)] 24)).drew
      clear hE b0 b1 b2 c0 c1 c2 htk HT1
      by_cases hyf : Y = f
      · have hDF := hd hyf
        have y3 : ((Y : Int) != (f : Int)) = false := by simp; omega
        have y4 : (Y != f) = false := by simp; omega
        clear hd hyf
        subst hDF
        go_wp2
        refine wp_region_seq [(0, false), (1, false), (2, false), (3, false), (4, false), (5, false), (6, false), (7, false), (8, false), (9, false), (10, false), (11, false), (12, false), (13, false), (14, false), (15, false), (16, false), (17, false), (18, false), (20, false), (19, true), (21, true), (22, false), (23, false), (24, false), (25, false)] Ext (by kernel_rfl) (by kernel_rfl) Ext.refl (fun _ _ _ => Ext.trans) ?_; simp only [List.map, nth_z, nth_s]
        (repeat (first | (refine seq_skip (by rfl) ?_; intro K hK; simp only [Act.put, List.setIfInBounds_toArray, List.set_cons_zero, List.set_cons_succ]; refine hK _ ?_; clear hK K) | (refine seq_skipc (by rfl) ?_; intro K hK; simp only [Act.put, List.setIfInBounds_toArray, List.set_cons_zero, List.set_cons_succ]; refine hK _ ?_; clear hK K) | (refine seq_read (by rfl) (by rfl) ?_; intro K hK; go_big_quiet_op; first | go_big_quiet_on | (refine ⟨_, fun _ _ => rfl, ?_⟩; go_big_quiet_on))))
        refine seq_load rfl rfl (fun x hx => Blk.ext (hdd) hx) rfl Tryd.underlying24 (by kernel_rfl) (by rfl) ?_; intro K hK; simp only [Act.put, List.setIfInBounds_toArray, List.set_cons_zero, List.set_cons_succ]; refine hK _ ?_; clear hK K
        refine seq_load rfl rfl (fun x hx => Blk.ext (hb) hx) rfl Tryd.underlying24 (by kernel_rfl) (by rfl) ?_; intro K hK; simp only [Act.put, List.setIfInBounds_toArray, List.set_cons_zero, List.set_cons_succ]; refine hK _ ?_; clear hK K
        refine seq_value (.bool true) (by rfl) (fun x hx => by simp [go_sem, execOp, Act.eval, eqlP, neqP, run_eqGuard_agg _ _ _ _ _ _ _ pool_guard]) ?_; intro K hK; simp only [Act.put, List.setIfInBounds_toArray, List.set_cons_zero, List.set_cons_succ]; refine hK _ ?_; clear hK K
        (repeat (first | (refine seq_skip (by rfl) ?_; intro K hK; simp only [Act.put, List.setIfInBounds_toArray, List.set_cons_zero, List.set_cons_succ]; refine hK _ ?_; clear hK K) | (refine seq_skipc (by rfl) ?_; intro K hK; simp only [Act.put, List.setIfInBounds_toArray, List.set_cons_zero, List.set_cons_succ]; refine hK _ ?_; clear hK K) | (refine seq_read (by rfl) (by rfl) ?_; intro K hK; go_big_quiet_op; first | go_big_quiet_on | (refine ⟨_, fun _ _ => rfl, ?_⟩; go_big_quiet_on))))
        refine seq_load rfl rfl (fun x hx => Blk.ext (hc) hx) rfl Tryd.underlying24 (by kernel_rfl) (by rfl) ?_; intro K hK; simp only [Act.put, List.setIfInBounds_toArray, List.set_cons_zero, List.set_cons_succ]; refine hK _ ?_; clear hK K
        (repeat (first | (refine seq_skip (by rfl) ?_; intro K hK; simp only [Act.put, List.setIfInBounds_toArray, List.set_cons_zero, List.set_cons_succ]; refine hK _ ?_; clear hK K) | (refine seq_skipc (by rfl) ?_; intro K hK; simp only [Act.put, List.setIfInBounds_toArray, List.set_cons_zero, List.set_cons_succ]; refine hK _ ?_; clear hK K) | (refine seq_read (by rfl) (by rfl) ?_; intro K hK; go_big_quiet_op; first | go_big_quiet_on | (refine ⟨_, fun _ _ => rfl, ?_⟩; go_big_quiet_on))))
        refine seq_load rfl rfl (fun x hx => Blk.ext (hb) hx) rfl Tryd.underlying24 (by kernel_rfl) (by rfl) ?_; intro K hK; simp only [Act.put, List.setIfInBounds_toArray, List.set_cons_zero, List.set_cons_succ]; refine hK _ ?_; clear hK K
        (repeat (first | (refine seq_skip (by rfl) ?_; intro K hK; simp only [Act.put, List.setIfInBounds_toArray, List.set_cons_zero, List.set_cons_succ]; refine hK _ ?_; clear hK K) | (refine seq_skipc (by rfl) ?_; intro K hK; simp only [Act.put, List.setIfInBounds_toArray, List.set_cons_zero, List.set_cons_succ]; refine hK _ ?_; clear hK K) | (refine seq_read (by rfl) (by rfl) ?_; intro K hK; go_big_quiet_op; first | go_big_quiet_on | (refine ⟨_, fun _ _ => rfl, ?_⟩; go_big_quiet_on))))
        refine seq_call (hfH _) rfl Tryd.func15 (by kernel_rfl) (by kernel_rfl) (by rfl) (by rfl) ?_; intro K hK; rintro e w' ⟨rfl, hE⟩; refine ⟨_, rfl, hE, ?_⟩; simp only [Act.put, List.setIfInBounds_toArray, List.set_cons_zero, List.set_cons_succ]; refine hK _ _ ?_; clear hK K; replace HE := Lib.hid (HE.out.trans hE)
        clear hE
        refine seq_call (hfF _) rfl Tryd.func15 (by kernel_rfl) (by kernel_rfl) (by rfl) (by rfl) ?_; intro K hK; rintro e w' ⟨rfl, hE⟩; refine ⟨_, rfl, hE, ?_⟩; simp only [Act.put, List.setIfInBounds_toArray, List.set_cons_zero, List.set_cons_succ]; refine hK _ _ ?_; clear hK K; replace HE := Lib.hid (HE.out.trans hE)
        clear hE
        (repeat (first | (refine seq_skip (by rfl) ?_; intro K hK; simp only [Act.put, List.setIfInBounds_toArray, List.set_cons_zero, List.set_cons_succ]; refine hK _ ?_; clear hK K) | (refine seq_skipc (by rfl) ?_; intro K hK; simp only [Act.put, List.setIfInBounds_toArray, List.set_cons_zero, List.set_cons_succ]; refine hK _ ?_; clear hK K) | (refine seq_read (by rfl) (by rfl) ?_; intro K hK; go_big_quiet_op; first | go_big_quiet_on | (refine ⟨_, fun _ _ => rfl, ?_⟩; go_big_quiet_on))))
        refine seq_done ?_
        clear hb hc hdd
        go_wp2
        go_ret
        exact ⟨rfl, HE.out⟩
      · have y3 : ((Y : Int) != (f : Int)) = true := by simp; omega
        have y4 : (Y != f) = true := by simp; omega
        clear hd hyf
        go_wp2
        refine wp_region_seq [(0, false), (1, false), (2, false), (3, false), (4, false), (5, false), (6, false), (7, false), (8, false), (9, false), (10, false), (11, false), (12, false), (13, false), (14, false), (15, false), (16, false), (17, false), (18, false), (20, false), (19, true), (21, true), (22, false), (23, false), (24, false), (25, false)] Ext (by kernel_rfl) (by kernel_rfl) Ext.refl (fun _ _ _ => Ext.trans) ?_; simp only [List.map, nth_z, nth_s]
        (repeat (first | (refine seq_skip (by rfl) ?_; intro K hK; simp only [Act.put, List.setIfInBounds_toArray, List.set_cons_zero, List.set_cons_succ]; refine hK _ ?_; clear hK K) | (refine seq_skipc (by rfl) ?_; intro K hK; simp only [Act.put, List.setIfInBounds_toArray, List.set_cons_zero, List.set_cons_succ]; refine hK _ ?_; clear hK K) | (refine seq_read (by rfl) (by rfl) ?_; intro K hK; go_big_quiet_op; first | go_big_quiet_on | (refine ⟨_, fun _ _ => rfl, ?_⟩; go_big_quiet_on))))
        refine seq_load rfl rfl (fun x hx => Blk.ext (hc) hx) rfl Tryd.underlying24 (by kernel_rfl) (by rfl) ?_; intro K hK; simp only [Act.put, List.setIfInBounds_toArray, List.set_cons_zero, List.set_cons_succ]; refine hK _ ?_; clear hK K
        (repeat (first | (refine seq_skip (by rfl) ?_; intro K hK; simp only [Act.put, List.setIfInBounds_toArray, List.set_cons_zero, List.set_cons_succ]; refine hK _ ?_; clear hK K) | (refine seq_skipc (by rfl) ?_; intro K hK; simp only [Act.put, List.setIfInBounds_toArray, List.set_cons_zero, List.set_cons_succ]; refine hK _ ?_; clear hK K) | (refine seq_read (by rfl) (by rfl) ?_; intro K hK; go_big_quiet_op; first | go_big_quiet_on | (refine ⟨_, fun _ _ => rfl, ?_⟩; go_big_quiet_on))))
        refine seq_load rfl rfl (fun x hx => Blk.ext (hb) hx) rfl Tryd.underlying24 (by kernel_rfl) (by rfl) ?_; intro K hK; simp only [Act.put, List.setIfInBounds_toArray, List.set_cons_zero, List.set_cons_succ]; refine hK _ ?_; clear hK K
        (repeat (first | (refine seq_skip (by rfl) ?_; intro K hK; simp only [Act.put, List.setIfInBounds_toArray, List.set_cons_zero, List.set_cons_succ]; refine hK _ ?_; clear hK K) | (refine seq_skipc (by rfl) ?_; intro K hK; simp only [Act.put, List.setIfInBounds_toArray, List.set_cons_zero, List.set_cons_succ]; refine hK _ ?_; clear hK K) | (refine seq_read (by rfl) (by rfl) ?_; intro K hK; go_big_quiet_op; first | go_big_quiet_on | (refine ⟨_, fun _ _ => rfl, ?_⟩; go_big_quiet_on))))
        refine seq_call (hfH _) rfl Tryd.func15 (by kernel_rfl) (by kernel_rfl) (by rfl) (by rfl) ?_; intro K hK; rintro e w' ⟨rfl, hE⟩; refine ⟨_, rfl, hE, ?_⟩; simp only [Act.put, List.setIfInBounds_toArray, List.set_cons_zero, List.set_cons_succ]; refine hK _ _ ?_; clear hK K; replace HE := Lib.hid (HE.out.trans hE)
        clear hE
        refine seq_call (hfF _) rfl Tryd.func15 (by kernel_rfl) (by kernel_rfl) (by rfl) (by rfl) ?_; intro K hK; rintro e w' ⟨rfl, hE⟩; refine ⟨_, rfl, hE, ?_⟩; simp only [Act.put, List.setIfInBounds_toArray, List.set_cons_zero, List.set_cons_succ]; refine hK _ _ ?_; clear hK K; replace HE := Lib.hid (HE.out.trans hE)
        clear hE
        (repeat (first | (refine seq_skip (by rfl) ?_; intro K hK; simp only [Act.put, List.setIfInBounds_toArray, List.set_cons_zero, List.set_cons_succ]; refine hK _ ?_; clear hK K) | (refine seq_skipc (by rfl) ?_; intro K hK; simp only [Act.put, List.setIfInBounds_toArray, List.set_cons_zero, List.set_cons_succ]; refine hK _ ?_; clear hK K) | (refine seq_read (by rfl) (by rfl) ?_; intro K hK; go_big_quiet_op; first | go_big_quiet_on | (refine ⟨_, fun _ _ => rfl, ?_⟩; go_big_quiet_on))))
        refine seq_done ?_
        clear hb hc hdd
        go_wp2
        go_ret
        exact ⟨rfl, HE.out⟩
end Go.Proofs.YtdiffllpoappfaaDoor
