/- SatpModes. -/
import Derived.Test.YtigbgmcdmoinmaaLaw07a
namespace Go.Proofs.Ytigbgmcdmoinmaa
open Go.ChangeShapes Go.WideShapes Go.ChangeAt Go.RowKit
set_option linter.unusedVariables false
set_option linter.unusedSimpArgs false

theorem or_add {a b : Nat} (i : Nat) (h : b < 2 ^ i) : a * 2 ^ i ||| b = a * 2 ^ i + b := by
  rw [Nat.mul_comm, Nat.two_pow_add_eq_or_of_lt h]
theorem modes_word (m a p : Nat) (ha : a < 65536) : bits .or .u64 (bits .or .u64 ((m : Int) % 16 * 1152921504606846976) ((a : Int) * 17592186044416)) ((p : Int) % 17592186044416) = ((m % 16 * 1152921504606846976 + a * 17592186044416 + p % 17592186044416 : Nat) : Int) := by
  have e0 : (m : Int) % 16 * 1152921504606846976 = ((m % 16 * 1152921504606846976 : Nat) : Int) := by omega
  have e1 : (a : Int) * 17592186044416 = ((a * 17592186044416 : Nat) : Int) := by omega
  have e2 : (p : Int) % 17592186044416 = ((p % 17592186044416 : Nat) : Int) := by omega
  rw [e0, e1, e2, or_u64 (by omega) (by omega)]
  have k1 : m % 16 * 2 ^ 60 ||| a * 2 ^ 44 = m % 16 * 2 ^ 60 + a * 2 ^ 44 := or_add 60 (by omega)
  have k2 : (m % 16 * 65536 + a) * 2 ^ 44 ||| p % 17592186044416 = (m % 16 * 65536 + a) * 2 ^ 44 + p % 17592186044416 := or_add 44 (by omega)
  rw [show m % 16 * 1152921504606846976 ||| a * 17592186044416 = (m % 16 * 65536 + a) * 2 ^ 44 by rw [show (1152921504606846976 : Nat) = 2 ^ 60 from rfl, show (17592186044416 : Nat) = 2 ^ 44 from rfl, k1]; omega, or_u64 (by omega) (by omega), k2]
  omega
theorem modes_rd (m a p : Nat) (hm : m < 16) (ha : a < 65536) (hp : p < 17592186044416) : rdP (m * 1152921504606846976 + a * 17592186044416 + p) = ⟨m, a, p⟩ := by
  unfold rdP
  congr 1 <;> omega
theorem eqz (w : World) : (binOp .eql 24 (.agg #[.int .u64 0, .int .u64 0, .int .u64 0]) (.agg #[.int .u64 0, .int .u64 0, .int .u64 0])).run Try.prog w = .ok (.bool true) w := by
  have h := eql_sp w ⟨0, 0, 0⟩ ⟨0, 0, 0⟩
  rwa [spC_def] at h
set_option maxRecDepth 100000 in
set_option maxHeartbeats 4000000 in
theorem SatpModes_w (m : Nat) (hm : m < 256) (a : Nat) (ha : a < 65536) (p : Nat) (hp : p < 18446744073709551616) (w : World) :
    Calls Try.prog 5 #[.int .u8 (m : Int), .int .u16 (a : Int), .int .u64 (p : Int)] w fun e w' => e = .returned (.bool true) ∧ Ext w w' := by
  have hX := modes_word m a p ha
  have hR := modes_rd (m % 16) a (p % 17592186044416) (by omega) ha (by omega)
  have hget := sget_c (m % 16 * 1152921504606846976 + a * 17592186044416 + p % 17592186044416) (by omega)
  rw [← hX, hR] at hget
  have hok : Sp.ok ⟨m % 16, a, p % 17592186044416⟩ := by unfold Sp.ok; simp only; omega
  have hmay := may7_c ⟨m % 16, a, p % 17592186044416⟩ hok
  have hon := on7_c ⟨m % 16, a, p % 17592186044416⟩
  have hs : smB ⟨m % 16, a, p % 17592186044416⟩ = (if m % 16 = 0 then decide (a = 0) && decide (p % 17592186044416 = 0) else decide (m % 16 = 8)) := by
    unfold smB
    simp only [decide_eq_true (show a < 65536 from ha), decide_eq_true (show p % 17592186044416 < 17592186044416 by omega), Bool.and_true]
  have hg1 : smB ⟨m % 16, a, p % 17592186044416⟩ = true → sgP (m % 16 * 1152921504606846976 + a * 17592186044416 + p % 17592186044416) = ⟨m % 16, a, p % 17592186044416⟩ := fun h => by rw [sgP_may (by rw [hR]; exact h), hR]
  have hg0 : smB ⟨m % 16, a, p % 17592186044416⟩ = false → sgP (m % 16 * 1152921504606846976 + a * 17592186044416 + p % 17592186044416) = zSp := fun h => sgP_not (by rw [hR]; exact h)
  have HE := Lib.hid (Ext.refl w)
  clear hX hR hok
  by_cases h8 : m % 16 = 8
  · have hs' : smB ⟨m % 16, a, p % 17592186044416⟩ = true := by rw [hs, if_neg (by omega)]; simp [h8]
    have ec : spC ⟨m % 16, a, p % 17592186044416⟩ = #[.int .u64 8, .int .u64 (a : Int), .int .u64 ((p : Int) % 17592186044416)] := by rw [spC_def, h8]; rfl
    have hd : decide (m % 16 = 8) = true := decide_eq_true h8
    have hx : ((m : Int) % 16 == 8) = true := by rw [beq_iff_eq]; omega
    rw [hg1 hs', hs', ec] at hget
    rw [hs', ec] at hmay
    rw [ec, hd] at hon
    simp only [if_true] at hget
    clear hs hg1 hg0 hs' ec hd h8
    go_enter Try.func5, Try.ntmps5
    go_wp2_with fail; refine (awake7_c _).mono ?_; rintro e w1 ⟨rfl, hE⟩; replace HE := Lib.hid (HE.out.trans hE)
    clear hE
    go_wp2_with fail
    refine (hget _).mono ?_
    rintro e w2 ⟨rfl, hE⟩
    replace HE := Lib.hid ((HE.out.trans hE).alloc (.cells #[.int .u64 8, .int .u64 (a : Int), .int .u64 ((p : Int) % 17592186044416)] 24))
    have hb := Blk.new w2 24 #[.int .u64 8, .int .u64 (a : Int), .int .u64 ((p : Int) % 17592186044416)]
    clear hE hget
    go_wp2_with (refine wpList_load_blk (by rfl) 24 _ rfl rfl (by assumption) Try.underlying24 rfl (by kernel_rfl) ?_)
    refine (hon _).mono ?_
    rintro e w3 ⟨rfl, hE⟩
    replace HE := Lib.hid (HE.out.trans hE)
    replace hb := hb.ext hE
    clear hE hon
    obtain ⟨b0, b1, b2⟩ := hb.c3
    go_wp2_with (refine wpList_load_blk (by rfl) 24 _ rfl rfl (by assumption) Try.underlying24 rfl (by kernel_rfl) ?_)
    refine (hmay _).mono ?_
    rintro e w4 ⟨rfl, hE⟩
    replace HE := Lib.hid (HE.out.trans hE)
    clear hE hmay b0 b1 b2 hb
    go_wp2
    go_ret
    exact ⟨rfl, HE.out⟩
  · have hx : ((m : Int) % 16 == 8) = false := by rw [beq_eq_false_iff_ne]; omega
    by_cases h0 : m % 16 = 0 ∧ a = 0 ∧ p % 17592186044416 = 0
    · have hs' : smB ⟨m % 16, a, p % 17592186044416⟩ = true := by rw [hs, if_pos h0.1]; simp [h0.2]
      have ec : spC ⟨m % 16, a, p % 17592186044416⟩ = #[.int .u64 0, .int .u64 0, .int .u64 0] := by rw [spC_def, h0.1, h0.2.1, h0.2.2]; rfl
      have hd : decide (m % 16 = 8) = false := decide_eq_false h8
      have x0 : ((m : Int) % 16 == 0) = true := by rw [beq_iff_eq]; omega
      have x1 : ((a : Int) == 0) = true := by rw [beq_iff_eq]; omega
      have x2 : ((p : Int) % 17592186044416 == 0) = true := by rw [beq_iff_eq]; omega
      rw [hg1 hs', hs', ec] at hget
      rw [ec, hd] at hon
      simp only [if_true] at hget
      clear hs hg1 hg0 hs' ec hd h8 hmay h0
      have hq := eqz
      have hg := sp_guard
      go_enter Try.func5, Try.ntmps5
      go_wp2_with fail; refine (awake7_c _).mono ?_; rintro e w1 ⟨rfl, hE⟩; replace HE := Lib.hid (HE.out.trans hE)
      clear hE
      go_wp2_with fail
      refine (hget _).mono ?_
      rintro e w2 ⟨rfl, hE⟩
      replace HE := Lib.hid ((HE.out.trans hE).alloc (.cells #[.int .u64 0, .int .u64 0, .int .u64 0] 24))
      have hb := Blk.new w2 24 #[.int .u64 0, .int .u64 0, .int .u64 0]
      clear hE hget
      go_wp2_with (refine wpList_load_blk (by rfl) 24 _ rfl rfl (by assumption) Try.underlying24 rfl (by kernel_rfl) ?_)
      refine (hon _).mono ?_
      rintro e w3 ⟨rfl, hE⟩
      replace HE := Lib.hid (HE.out.trans hE)
      clear hE hon hb
      go_wp2
      go_ret
      exact ⟨rfl, HE.out⟩
    · have hs' : smB ⟨m % 16, a, p % 17592186044416⟩ = false := by
        rw [hs]
        split
        · rename_i h; simp; omega
        · simp [h8]
      rw [hg0 hs', hs', zSp_cells] at hget
      simp only [Bool.false_eq_true, if_false] at hget
      have hx0 : ((m : Int) % 16 == 0) = decide (m % 16 = 0) := by rw [Bool.eq_iff_iff, beq_iff_eq, decide_eq_true_iff]; omega
      have hx1 : ((a : Int) == 0) = decide (a = 0) := by rw [Bool.eq_iff_iff, beq_iff_eq, decide_eq_true_iff]; omega
      have hx2 : ((p : Int) % 17592186044416 == 0) = decide (p % 17592186044416 = 0) := by rw [Bool.eq_iff_iff, beq_iff_eq, decide_eq_true_iff]; omega
      clear hs hg1 hg0 hs' hmay hon
      have hq := eqz
      have hg := sp_guard
      have hn : (decide (m % 16 = 0) && decide (a = 0) && decide (p % 17592186044416 = 0)) = false := by
        rw [Bool.eq_false_iff]; simp; omega
      clear h0 h8
      revert hn hx0 hx1 hx2
      cases decide (m % 16 = 0) <;> cases decide (a = 0) <;> cases decide (p % 17592186044416 = 0) <;> intro hx2 hx1 hx0 hn
      case true.true.true => cases hn
      all_goals
        clear hn
        go_enter Try.func5, Try.ntmps5
        go_wp2_with fail; refine (awake7_c _).mono ?_; rintro e w1 ⟨rfl, hE⟩; replace HE := Lib.hid (HE.out.trans hE)
        clear hE
        go_wp2_with fail
        refine (hget _).mono ?_
        rintro e w2 ⟨rfl, hE⟩
        replace HE := Lib.hid ((HE.out.trans hE).alloc (.cells #[.int .u64 0, .int .u64 0, .int .u64 0] 24))
        have hb := Blk.new w2 24 #[.int .u64 0, .int .u64 0, .int .u64 0]
        clear hE hget
        go_wp2_with (refine wpList_load_blk (by rfl) 24 _ rfl rfl (by assumption) Try.underlying24 rfl (by kernel_rfl) ?_)
        go_ret
        exact ⟨rfl, HE.out⟩
end Go.Proofs.Ytigbgmcdmoinmaa
