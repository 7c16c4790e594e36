/- The laws of layer 1 that speak of package bits alone: awake answers true. -/
import Derived.Test.YtomfollghflmmaaCone
namespace Go.Proofs.Ytomfollghflmmaa
open Go.ChangeShapes Go.WideShapes Go.ChangeAt Go.RowKit
set_option linter.unusedVariables false

theorem awake1_c (w : World) :
    Calls Try.prog 8 #[] w fun e w' => e = .returned (.bool true) ∧ w = w' := by
  have h1 : (getI 43981 4 8 == 188) = true := by decide +kernel
  have h2 : (setI 43981 4 8 18 == 41261) = true := by decide +kernel
  have h3 : (signI 128 8 == 18446744073709551488) = true := by decide +kernel
  have h4 : (signI 127 8 == 127) = true := by decide +kernel
  have h5 : evenB 8 4 = true := by decide +kernel
  have h6 : evenB 9 4 = false := by decide +kernel
  have h7 : evenB 0 0 = true := by decide +kernel
  have h8 : evenB 1 0 = false := by decide +kernel
  have h9 : (getI 7 64 64 == 0) = true := by decide +kernel
  have h10 : (getI 7 0 64 == 7) = true := by decide +kernel
  go_enter Try.func8, Try.ntmps8
  go_wp2_with first | (go_at_call 9; refine (get_c _ _ _ (by first | omega | exact getI_ge _ _ _ | exact setI_ge _ _ _ _ | exact signI_ge _ _) (by first | omega | exact getI_lt _ _ (by first | omega | exact getI_ge _ _ _ | exact setI_ge _ _ _ _ | exact signI_ge _ _) (by omega) | exact setI_lt _ _ _ (by first | omega | exact getI_ge _ _ _ | exact setI_ge _ _ _ _ | exact signI_ge _ _) (by omega) | exact signI_lt (by first | omega | exact getI_ge _ _ _ | exact setI_ge _ _ _ _ | exact signI_ge _ _) (by omega) (by omega) (by omega)) (by omega) (by omega) (by omega) (by omega) _).mono ?_; rintro e w' ⟨rfl, rfl⟩) | (go_at_call 11; refine (set_c _ _ _ _ (by first | omega | exact getI_ge _ _ _ | exact setI_ge _ _ _ _ | exact signI_ge _ _) (by first | omega | exact getI_lt _ _ (by first | omega | exact getI_ge _ _ _ | exact setI_ge _ _ _ _ | exact signI_ge _ _) (by omega) | exact setI_lt _ _ _ (by first | omega | exact getI_ge _ _ _ | exact setI_ge _ _ _ _ | exact signI_ge _ _) (by omega) | exact signI_lt (by first | omega | exact getI_ge _ _ _ | exact setI_ge _ _ _ _ | exact signI_ge _ _) (by omega) (by omega) (by omega)) (by first | omega | exact getI_ge _ _ _ | exact setI_ge _ _ _ _ | exact signI_ge _ _) (by first | omega | exact getI_lt _ _ (by first | omega | exact getI_ge _ _ _ | exact setI_ge _ _ _ _ | exact signI_ge _ _) (by omega) | exact setI_lt _ _ _ (by first | omega | exact getI_ge _ _ _ | exact setI_ge _ _ _ _ | exact signI_ge _ _) (by omega) | exact signI_lt (by first | omega | exact getI_ge _ _ _ | exact setI_ge _ _ _ _ | exact signI_ge _ _) (by omega) (by omega) (by omega)) (by omega) (by omega) (by omega) (by omega) _).mono ?_; rintro e w' ⟨rfl, rfl⟩) | (go_at_call 13; refine (sign_c _ _ (by first | omega | exact getI_ge _ _ _ | exact setI_ge _ _ _ _ | exact signI_ge _ _) (by first | omega | exact getI_lt _ _ (by first | omega | exact getI_ge _ _ _ | exact setI_ge _ _ _ _ | exact signI_ge _ _) (by omega) | exact setI_lt _ _ _ (by first | omega | exact getI_ge _ _ _ | exact setI_ge _ _ _ _ | exact signI_ge _ _) (by omega) | exact signI_lt (by first | omega | exact getI_ge _ _ _ | exact setI_ge _ _ _ _ | exact signI_ge _ _) (by omega) (by omega) (by omega)) (by omega) (by omega) _).mono ?_; rintro e w' ⟨rfl, rfl⟩) | (go_at_call 15; refine (even_c _ _ (by first | omega | exact getI_ge _ _ _ | exact setI_ge _ _ _ _ | exact signI_ge _ _) (by first | omega | exact getI_lt _ _ (by first | omega | exact getI_ge _ _ _ | exact setI_ge _ _ _ _ | exact signI_ge _ _) (by omega) | exact setI_lt _ _ _ (by first | omega | exact getI_ge _ _ _ | exact setI_ge _ _ _ _ | exact signI_ge _ _) (by omega) | exact signI_lt (by first | omega | exact getI_ge _ _ _ | exact setI_ge _ _ _ _ | exact signI_ge _ _) (by omega) (by omega) (by omega)) (by first | omega | exact getI_ge _ _ _ | exact setI_ge _ _ _ _ | exact signI_ge _ _) (by first | omega | exact getI_lt _ _ (by first | omega | exact getI_ge _ _ _ | exact setI_ge _ _ _ _ | exact signI_ge _ _) (by omega) | exact setI_lt _ _ _ (by first | omega | exact getI_ge _ _ _ | exact setI_ge _ _ _ _ | exact signI_ge _ _) (by omega) | exact signI_lt (by first | omega | exact getI_ge _ _ _ | exact setI_ge _ _ _ _ | exact signI_ge _ _) (by omega) (by omega) (by omega)) _).mono ?_; rintro e w' ⟨rfl, rfl⟩) | (go_at_call 16; refine (bool_c _ _).mono ?_; rintro e w' ⟨rfl, rfl⟩)
  go_ret
  exact ⟨rfl, rfl⟩

theorem shift_facts (x l a b : Int) (x0 : 0 ≤ x) (x1 : x < 18446744073709551616) (l0 : 0 ≤ l) (a0 : 0 ≤ a) (b0 : 0 ≤ b) (h : l + a + b ≤ 64) :
    getI (getI x l 64) 0 a = getI x l a ∧ getI x 64 a = 0 ∧ setI (getI x l a) a b (getI x (l + a) b) = getI x l (a + b) := by
  obtain ⟨X, rfl⟩ := Int.eq_ofNat_of_zero_le x0
  obtain ⟨L, rfl⟩ := Int.eq_ofNat_of_zero_le l0
  obtain ⟨A, rfl⟩ := Int.eq_ofNat_of_zero_le a0
  obtain ⟨B, rfl⟩ := Int.eq_ofNat_of_zero_le b0
  have hX : X < 2 ^ 64 := by omega
  simp only [getI, setI, ← Int.natCast_add, Int.toNat_natCast, show (64 : Int).toNat = 64 from rfl, show (0 : Int).toNat = 0 from rfl]
  refine ⟨?_, ?_, ?_⟩
  · rw [get_get, if_pos (by omega)]
  · rw [get_end hX]; rfl
  · rw [get_join hX (by omega)]

theorem BitsShift_w (x lo n m : Int) (x0 : 0 ≤ x) (x1 : x < 18446744073709551616) (l0 : 0 ≤ lo) (n0 : 0 ≤ n) (m0 : 0 ≤ m) (w : World) :
    Calls Try.prog 7 #[.int .u64 x, .int .u8 lo, .int .u8 n, .int .u8 m] w fun e w' => e = .returned (.bool true) ∧ w = w' := by
  have d1 : 0 < 65 - lo % 65 := by omega
  have d2 : 0 ≤ n % 65 % (65 - lo % 65) := Int.emod_nonneg _ (by omega)
  have d3 : n % 65 % (65 - lo % 65) < 65 - lo % 65 := Int.emod_lt_of_pos _ (by omega)
  have d4 : 0 < 65 - lo % 65 - n % 65 % (65 - lo % 65) := by omega
  have d5 : 0 ≤ m % 65 % (65 - lo % 65 - n % 65 % (65 - lo % 65)) := Int.emod_nonneg _ (by omega)
  have d6 : m % 65 % (65 - lo % 65 - n % 65 % (65 - lo % 65)) < 65 - lo % 65 - n % 65 % (65 - lo % 65) := Int.emod_lt_of_pos _ (by omega)
  obtain ⟨e1, e2, e3⟩ := shift_facts x (lo % 65) (n % 65 % (65 - lo % 65)) (m % 65 % (65 - lo % 65 - n % 65 % (65 - lo % 65))) x0 x1 (by omega) (by omega) (by omega) (by omega)
  have b1 := bne_eq_false_iff_eq.2 e1
  have b2 := bne_eq_false_iff_eq.2 e2
  have b3 := Lib.hid (beq_iff_eq.2 e3)
  clear e1 e2 e3
  go_enter Try.func7, Try.ntmps7
  go_wp2_with first | (go_at_call 9; refine (get_c _ _ _ (by first | omega | exact getI_ge _ _ _ | exact setI_ge _ _ _ _ | exact signI_ge _ _) (by first | omega | exact getI_lt _ _ (by first | omega | exact getI_ge _ _ _ | exact setI_ge _ _ _ _ | exact signI_ge _ _) (by omega) | exact setI_lt _ _ _ (by first | omega | exact getI_ge _ _ _ | exact setI_ge _ _ _ _ | exact signI_ge _ _) (by omega) | exact signI_lt (by first | omega | exact getI_ge _ _ _ | exact setI_ge _ _ _ _ | exact signI_ge _ _) (by omega) (by omega) (by omega)) (by omega) (by omega) (by omega) (by omega) _).mono ?_; rintro e w' ⟨rfl, rfl⟩) | (go_at_call 11; refine (set_c _ _ _ _ (by first | omega | exact getI_ge _ _ _ | exact setI_ge _ _ _ _ | exact signI_ge _ _) (by first | omega | exact getI_lt _ _ (by first | omega | exact getI_ge _ _ _ | exact setI_ge _ _ _ _ | exact signI_ge _ _) (by omega) | exact setI_lt _ _ _ (by first | omega | exact getI_ge _ _ _ | exact setI_ge _ _ _ _ | exact signI_ge _ _) (by omega) | exact signI_lt (by first | omega | exact getI_ge _ _ _ | exact setI_ge _ _ _ _ | exact signI_ge _ _) (by omega) (by omega) (by omega)) (by first | omega | exact getI_ge _ _ _ | exact setI_ge _ _ _ _ | exact signI_ge _ _) (by first | omega | exact getI_lt _ _ (by first | omega | exact getI_ge _ _ _ | exact setI_ge _ _ _ _ | exact signI_ge _ _) (by omega) | exact setI_lt _ _ _ (by first | omega | exact getI_ge _ _ _ | exact setI_ge _ _ _ _ | exact signI_ge _ _) (by omega) | exact signI_lt (by first | omega | exact getI_ge _ _ _ | exact setI_ge _ _ _ _ | exact signI_ge _ _) (by omega) (by omega) (by omega)) (by omega) (by omega) (by omega) (by omega) _).mono ?_; rintro e w' ⟨rfl, rfl⟩) | (go_at_call 8; refine (awake1_c _).mono ?_; rintro e w' ⟨rfl, rfl⟩)
  go_ret
  exact ⟨congrArg (fun b => Ending.returned (.bool b)) b3.out, rfl⟩

theorem back_facts (x l m v u : Int) (x0 : 0 ≤ x) (x1 : x < 18446744073709551616) (l0 : 0 ≤ l) (m0 : 0 ≤ m) (h : l + m ≤ 64) :
    getI (setI x l m v) l m = getI v 0 m ∧ setI (setI x l m v) l m (getI x l m) = x ∧ getI (setI x l m v) 0 l = getI x 0 l ∧
    getI (setI x l m v) (l + m) (64 - l - m) = getI x (l + m) (64 - l - m) ∧
    setI (setI x l m v) (l + m) (64 - l - m) u = setI (setI x (l + m) (64 - l - m) u) l m v := by
  obtain ⟨X, rfl⟩ := Int.eq_ofNat_of_zero_le x0
  obtain ⟨L, rfl⟩ := Int.eq_ofNat_of_zero_le l0
  obtain ⟨M, rfl⟩ := Int.eq_ofNat_of_zero_le m0
  have hX : X < 2 ^ 64 := by omega
  obtain ⟨R, hR⟩ : ∃ R : Nat, 64 - (L : Int) - M = R := ⟨64 - L - M, by omega⟩
  rw [hR]
  simp only [getI, setI, ← Int.natCast_add, Int.toNat_natCast, show (0 : Int).toNat = 0 from rfl]
  refine ⟨?_, ?_, ?_, ?_, ?_⟩
  · rw [get_set hX (by omega)]
  · rw [set_back hX]
  · rw [get_below hX (by omega)]
  · rw [get_above hX (by omega)]
  · rw [set_set hX (by omega)]

theorem BitsBack_w (x lo n v u : Int) (x0 : 0 ≤ x) (x1 : x < 18446744073709551616) (v0 : 0 ≤ v) (v1 : v < 18446744073709551616) (u0 : 0 ≤ u) (u1 : u < 18446744073709551616) (l0 : 0 ≤ lo) (n0 : 0 ≤ n) (w : World) :
    Calls Try.prog 5 #[.int .u64 x, .int .u8 lo, .int .u8 n, .int .u64 v, .int .u64 u] w fun e w' => e = .returned (.bool true) ∧ w = w' := by
  have d1 : 0 < 65 - lo % 65 := by omega
  have d2 : 0 ≤ n % 65 % (65 - lo % 65) := Int.emod_nonneg _ (by omega)
  have d3 : n % 65 % (65 - lo % 65) < 65 - lo % 65 := Int.emod_lt_of_pos _ (by omega)
  obtain ⟨e1, e2, e3, e4, e5⟩ := back_facts x (lo % 65) (n % 65 % (65 - lo % 65)) v u x0 x1 (by omega) (by omega) (by omega)
  have b1 := bne_eq_false_iff_eq.2 e1
  have b2 := bne_eq_false_iff_eq.2 e2
  have b3 := bne_eq_false_iff_eq.2 e3
  have b4 := bne_eq_false_iff_eq.2 e4
  have b5 := Lib.hid (beq_iff_eq.2 e5)
  clear e1 e2 e3 e4 e5
  go_enter Try.func5, Try.ntmps5
  go_wp2_with first | (go_at_call 9; refine (get_c _ _ _ (by first | omega | exact getI_ge _ _ _ | exact setI_ge _ _ _ _ | exact signI_ge _ _) (by first | omega | exact getI_lt _ _ (by first | omega | exact getI_ge _ _ _ | exact setI_ge _ _ _ _ | exact signI_ge _ _) (by omega) | exact setI_lt _ _ _ (by first | omega | exact getI_ge _ _ _ | exact setI_ge _ _ _ _ | exact signI_ge _ _) (by omega) | exact signI_lt (by first | omega | exact getI_ge _ _ _ | exact setI_ge _ _ _ _ | exact signI_ge _ _) (by omega) (by omega) (by omega)) (by omega) (by omega) (by omega) (by omega) _).mono ?_; rintro e w' ⟨rfl, rfl⟩) | (go_at_call 11; refine (set_c _ _ _ _ (by first | omega | exact getI_ge _ _ _ | exact setI_ge _ _ _ _ | exact signI_ge _ _) (by first | omega | exact getI_lt _ _ (by first | omega | exact getI_ge _ _ _ | exact setI_ge _ _ _ _ | exact signI_ge _ _) (by omega) | exact setI_lt _ _ _ (by first | omega | exact getI_ge _ _ _ | exact setI_ge _ _ _ _ | exact signI_ge _ _) (by omega) | exact signI_lt (by first | omega | exact getI_ge _ _ _ | exact setI_ge _ _ _ _ | exact signI_ge _ _) (by omega) (by omega) (by omega)) (by first | omega | exact getI_ge _ _ _ | exact setI_ge _ _ _ _ | exact signI_ge _ _) (by first | omega | exact getI_lt _ _ (by first | omega | exact getI_ge _ _ _ | exact setI_ge _ _ _ _ | exact signI_ge _ _) (by omega) | exact setI_lt _ _ _ (by first | omega | exact getI_ge _ _ _ | exact setI_ge _ _ _ _ | exact signI_ge _ _) (by omega) | exact signI_lt (by first | omega | exact getI_ge _ _ _ | exact setI_ge _ _ _ _ | exact signI_ge _ _) (by omega) (by omega) (by omega)) (by omega) (by omega) (by omega) (by omega) _).mono ?_; rintro e w' ⟨rfl, rfl⟩) | (go_at_call 8; refine (awake1_c _).mono ?_; rintro e w' ⟨rfl, rfl⟩)
  go_ret
  exact ⟨congrArg (fun b => Ending.returned (.bool b)) b5.out, rfl⟩

theorem whole_facts (x c m : Int) (x0 : 0 ≤ x) (x1 : x < 18446744073709551616) (c0 : 0 ≤ c) (c1 : c ≤ 64) (m0 : 1 ≤ m) (m1 : m ≤ 64) :
    setI (setI 0 0 c (getI x 0 c)) c (64 - c) (getI x c (64 - c)) = x ∧ getI (signI x m) 0 m = getI x 0 m ∧ signI (signI x m) m = signI x m ∧
    ((signI x m / 9223372036854775808 == 1) == (getI x (m - 1) 1 == 1)) = true := by
  obtain ⟨X, rfl⟩ := Int.eq_ofNat_of_zero_le x0
  obtain ⟨C, rfl⟩ := Int.eq_ofNat_of_zero_le c0
  obtain ⟨M, rfl⟩ : ∃ M : Nat, m = M := ⟨m.toNat, by omega⟩
  have hX : X < 2 ^ 64 := by omega
  have t1 : (64 - (C : Int)).toNat = 64 - C := by omega
  have t2 : ((M : Int) - 1).toNat = M - 1 := by omega
  simp only [getI, setI, signI, Int.toNat_natCast, show (0 : Int).toNat = 0 from rfl, t1, t2, show (1 : Int).toNat = 1 from rfl]
  refine ⟨?_, ?_, ?_, ?_⟩
  · rw [whole hX (by omega)]
  · rw [sign_low hX (by omega) (by omega)]
  · rw [sign_sign hX (by omega) (by omega)]
  · have := sign_top hX (m := M) (by omega) (by omega)
    rw [beq_iff_eq, Bool.eq_iff_iff, beq_iff_eq, beq_iff_eq]
    omega

theorem BitsWhole_w (x c n : Int) (x0 : 0 ≤ x) (x1 : x < 18446744073709551616) (c0 : 0 ≤ c) (n0 : 0 ≤ n) (w : World) :
    Calls Try.prog 6 #[.int .u64 x, .int .u8 c, .int .u8 n] w fun e w' => e = .returned (.bool true) ∧ w = w' := by
  obtain ⟨e1, e2, e3, e4⟩ := whole_facts x (c % 65) (1 + n % 64) x0 x1 (by omega) (by omega) (by omega) (by omega)
  have b1 := beq_iff_eq.2 e1
  have b2 := beq_iff_eq.2 e2
  have b3 := beq_iff_eq.2 e3
  have b4 := Lib.hid e4
  clear e1 e2 e3 e4
  go_enter Try.func6, Try.ntmps6
  go_wp2_with first | (go_at_call 9; refine (get_c _ _ _ (by first | omega | exact getI_ge _ _ _ | exact setI_ge _ _ _ _ | exact signI_ge _ _) (by first | omega | exact getI_lt _ _ (by first | omega | exact getI_ge _ _ _ | exact setI_ge _ _ _ _ | exact signI_ge _ _) (by omega) | exact setI_lt _ _ _ (by first | omega | exact getI_ge _ _ _ | exact setI_ge _ _ _ _ | exact signI_ge _ _) (by omega) | exact signI_lt (by first | omega | exact getI_ge _ _ _ | exact setI_ge _ _ _ _ | exact signI_ge _ _) (by omega) (by omega) (by omega)) (by omega) (by omega) (by omega) (by omega) _).mono ?_; rintro e w' ⟨rfl, rfl⟩) | (go_at_call 11; refine (set_c _ _ _ _ (by first | omega | exact getI_ge _ _ _ | exact setI_ge _ _ _ _ | exact signI_ge _ _) (by first | omega | exact getI_lt _ _ (by first | omega | exact getI_ge _ _ _ | exact setI_ge _ _ _ _ | exact signI_ge _ _) (by omega) | exact setI_lt _ _ _ (by first | omega | exact getI_ge _ _ _ | exact setI_ge _ _ _ _ | exact signI_ge _ _) (by omega) | exact signI_lt (by first | omega | exact getI_ge _ _ _ | exact setI_ge _ _ _ _ | exact signI_ge _ _) (by omega) (by omega) (by omega)) (by first | omega | exact getI_ge _ _ _ | exact setI_ge _ _ _ _ | exact signI_ge _ _) (by first | omega | exact getI_lt _ _ (by first | omega | exact getI_ge _ _ _ | exact setI_ge _ _ _ _ | exact signI_ge _ _) (by omega) | exact setI_lt _ _ _ (by first | omega | exact getI_ge _ _ _ | exact setI_ge _ _ _ _ | exact signI_ge _ _) (by omega) | exact signI_lt (by first | omega | exact getI_ge _ _ _ | exact setI_ge _ _ _ _ | exact signI_ge _ _) (by omega) (by omega) (by omega)) (by omega) (by omega) (by omega) (by omega) _).mono ?_; rintro e w' ⟨rfl, rfl⟩) | (go_at_call 13; refine (sign_c _ _ (by first | omega | exact getI_ge _ _ _ | exact setI_ge _ _ _ _ | exact signI_ge _ _) (by first | omega | exact getI_lt _ _ (by first | omega | exact getI_ge _ _ _ | exact setI_ge _ _ _ _ | exact signI_ge _ _) (by omega) | exact setI_lt _ _ _ (by first | omega | exact getI_ge _ _ _ | exact setI_ge _ _ _ _ | exact signI_ge _ _) (by omega) | exact signI_lt (by first | omega | exact getI_ge _ _ _ | exact setI_ge _ _ _ _ | exact signI_ge _ _) (by omega) (by omega) (by omega)) (by omega) (by omega) _).mono ?_; rintro e w' ⟨rfl, rfl⟩) | (go_at_call 8; refine (awake1_c _).mono ?_; rintro e w' ⟨rfl, rfl⟩)
  go_ret
  exact ⟨congrArg (fun b => Ending.returned (.bool b)) b4.out, rfl⟩
end Go.Proofs.Ytomfollghflmmaa
