/- The contracts of package bits: what each function answers, in whatever world, leaving it as it was. -/
import Derived.Test.YtngioemeplllhaaDoorRows
import Derived.Test.YtngioemeplllhaaDoorMone
import Derived.WalkKit
import Derived.ProofKit
import Derived.OpenShut
import Derived.Lib.Hide
namespace Go.Proofs.YtngioemeplllhaaDoor
open Go.ChangeShapes Go.WideShapes Go.ChangeAt Go.RowKit
set_option linter.unusedVariables false

def lowI (n : Int) : Int := ((2 ^ n.toNat - 1 : Nat) : Int)
def maskI (lo n : Int) : Int := ((maskN lo.toNat n.toNat : Nat) : Int)
def getI (w lo n : Int) : Int := ((getN w.toNat lo.toNat n.toNat : Nat) : Int)
def setI (w lo n v : Int) : Int := ((setN w.toNat lo.toNat n.toNat v.toNat : Nat) : Int)
def signI (w n : Int) : Int := ((signN w.toNat n.toNat : Nat) : Int)
def evenB (w b : Int) : Bool := if b = 0 then w == 0 else w % b == 0

theorem lowN_lt {n : Nat} (h : n ≤ 64) : 2 ^ n - 1 < 18446744073709551616 := by
  have := Nat.pow_le_pow_right (n := 2) (by decide) h
  have := Nat.two_pow_pos n
  omega
theorem pow_cast (k : Nat) : (2 : Int) ^ k = ((2 ^ k : Nat) : Int) := by simp
theorem getI_ge (w lo n : Int) : 0 ≤ getI w lo n := Int.natCast_nonneg _
theorem setI_ge (w lo n v : Int) : 0 ≤ setI w lo n v := Int.natCast_nonneg _
theorem signI_ge (w n : Int) : 0 ≤ signI w n := Int.natCast_nonneg _
theorem getI_lt {w : Int} (lo n : Int) (h0 : 0 ≤ w) (h : w < 18446744073709551616) : getI w lo n < 18446744073709551616 := by
  have := get_le (w := w.toNat) (by omega) lo.toNat n.toNat
  unfold getI; omega
theorem setI_lt {w : Int} (lo n v : Int) (h0 : 0 ≤ w) (h : w < 18446744073709551616) : setI w lo n v < 18446744073709551616 := by
  have := set_lt (w := w.toNat) (by omega) lo.toNat n.toNat v.toNat
  unfold setI; omega
theorem signI_lt {w n : Int} (h0 : 0 ≤ w) (h : w < 18446744073709551616) (h1 : 1 ≤ n) (h2 : n ≤ 64) : signI w n < 18446744073709551616 := by
  have := sign_lt (w := w.toNat) (n := n.toNat) (by omega) (by omega) (by omega)
  unfold signI; omega

theorem low_eq {n : Int} (h0 : 0 ≤ n) (h1 : n ≤ 64) : IntKind.u64.wrap (IntKind.u64.wrap (2 ^ n.toNat) - 1) = lowI n := by
  obtain ⟨k, rfl⟩ := Int.eq_ofNat_of_zero_le h0
  have hl := lowN_lt (n := k) (by omega)
  have hp := Nat.two_pow_pos k
  rw [IntKind.wrap_u64, IntKind.wrap_u64]
  unfold lowI; rw [Int.toNat_natCast, pow_cast]
  omega
theorem shl_eq {x lo : Int} (hx : 0 ≤ x) (l0 : 0 ≤ lo) : IntKind.u64.wrap (x * 2 ^ lo.toNat) = (((x.toNat <<< lo.toNat) % 2 ^ 64 : Nat) : Int) := by
  obtain ⟨k, rfl⟩ := Int.eq_ofNat_of_zero_le l0
  obtain ⟨m, rfl⟩ := Int.eq_ofNat_of_zero_le hx
  rw [IntKind.wrap_u64]
  rw [Int.toNat_natCast, Int.toNat_natCast, pow_cast, Nat.shiftLeft_eq]
  omega
theorem mask_eq {lo n : Int} (l0 : 0 ≤ lo) : IntKind.u64.wrap (lowI n * 2 ^ lo.toNat) = maskI lo n := by
  rw [shl_eq (x := lowI n) (Int.natCast_nonneg _) l0]
  unfold lowI maskI maskN; rw [Int.toNat_natCast]
theorem get_eq {x lo n : Int} (x0 : 0 ≤ x) (x1 : x < 18446744073709551616) (h1 : n ≤ 64) :
    bits .and .u64 (x / 2 ^ lo.toNat) (lowI n) = getI x lo n := by
  obtain ⟨m, rfl⟩ := Int.eq_ofNat_of_zero_le x0
  have hl := lowN_lt (n := n.toNat) (by omega)
  have hd : m / 2 ^ lo.toNat ≤ m := Nat.div_le_self _ _
  unfold lowI getI getN
  rw [pow_cast, ← Int.natCast_ediv, and_u64 (by omega) hl, Nat.and_two_pow_sub_one_eq_mod, Int.toNat_natCast, Nat.shiftRight_eq_div_pow]
theorem set_eq {x lo n v : Int} (x0 : 0 ≤ x) (x1 : x < 18446744073709551616) (v0 : 0 ≤ v) (l0 : 0 ≤ lo) :
    bits .or .u64 (bits .andNot .u64 x (maskI lo n)) (bits .and .u64 (IntKind.u64.wrap (v * 2 ^ lo.toNat)) (maskI lo n)) = setI x lo n v := by
  have hm := mask_lt lo.toNat n.toNat
  have hs : (v.toNat <<< lo.toNat) % 2 ^ 64 < 2 ^ 64 := Nat.mod_lt _ (by decide)
  obtain ⟨m, rfl⟩ := Int.eq_ofNat_of_zero_le x0
  rw [shl_eq v0 l0]
  unfold maskI setI setN
  have h1 : m &&& (2 ^ 64 - 1 - maskN lo.toNat n.toNat) < 2 ^ 64 := Nat.and_lt_two_pow _ (by omega)
  have h2 : (v.toNat <<< lo.toNat) % 2 ^ 64 &&& maskN lo.toNat n.toNat < 2 ^ 64 := Nat.and_lt_two_pow _ hm
  rw [andNot_u64 (by omega) (by omega), and_u64 (by omega) (by omega), or_u64 (by omega) (by omega), Int.toNat_natCast]
theorem sign_no {x n : Int} (x0 : 0 ≤ x) (x1 : x < 18446744073709551616) (h0 : 1 ≤ n) (h1 : n ≤ 64) (h : getI x (n - 1) 1 = 0) :
    bits .and .u64 x (lowI n) = signI x n := by
  have hl := lowN_lt (n := n.toNat) (by omega)
  have ht : x.toNat.testBit (n.toNat - 1) = false := by
    rw [← tb_nil]; unfold getI at h; rw [show (n - 1).toNat = n.toNat - 1 by omega] at h; exact Int.ofNat_eq_zero.1 h
  obtain ⟨m, rfl⟩ := Int.eq_ofNat_of_zero_le x0
  rw [Int.toNat_natCast] at ht
  unfold lowI signI signN
  rw [and_u64 (by omega) hl, Nat.and_two_pow_sub_one_eq_mod, Int.toNat_natCast, ht]; rfl
theorem sign_yes {x n : Int} (x0 : 0 ≤ x) (x1 : x < 18446744073709551616) (h0 : 1 ≤ n) (h1 : n ≤ 64) (h : ¬ getI x (n - 1) 1 = 0) :
    bits .or .u64 x (bits .xor .u64 18446744073709551615 (lowI n)) = signI x n := by
  have hl := lowN_lt (n := n.toNat) (by omega)
  have ht : x.toNat.testBit (n.toNat - 1) = true := by
    rw [← Bool.not_eq_false, ← tb_nil]; intro h'; apply h; unfold getI; rw [show (n - 1).toNat = n.toNat - 1 by omega]; exact Int.ofNat_eq_zero.2 h'
  obtain ⟨m, rfl⟩ := Int.eq_ofNat_of_zero_le x0
  rw [Int.toNat_natCast] at ht
  unfold lowI signI signN
  rw [show (18446744073709551615 : Int) = IntKind.u64.max by decide, xor_max_u64 hl, or_u64 (by omega) (by omega), Int.toNat_natCast, ht]; rfl

attribute [irreducible] getI setI signI maskI lowI

theorem low_c (n : Int) (h0 : 0 ≤ n) (h1 : n ≤ 64) (w : World) :
    Calls Tryd.prog 24 #[.int .i64 n] w fun e w' => e = .returned (.int .u64 (lowI n)) ∧ w = w' := by
  go_enter Tryd.func24, Tryd.ntmps24
  go_wp2
  go_ret
  exact ⟨congrArg (fun i => Ending.returned (.int .u64 i)) (low_eq h0 h1), rfl⟩

theorem mask_c (lo n : Int) (l0 : 0 ≤ lo) (l1 : lo ≤ 64) (h0 : 0 ≤ n) (h1 : n ≤ 64) (w : World) :
    Calls Tryd.prog 28 #[.int .i64 lo, .int .i64 n] w fun e w' => e = .returned (.int .u64 (maskI lo n)) ∧ w = w' := by
  go_enter Tryd.func28, Tryd.ntmps28
  go_wp2_with (go_at_call 24; refine (low_c _ (by omega) (by omega) _).mono ?_; rintro e w' ⟨rfl, rfl⟩)
  go_ret
  exact ⟨congrArg (fun i => Ending.returned (.int .u64 i)) (mask_eq l0), rfl⟩

theorem get_c (x lo n : Int) (x0 : 0 ≤ x) (x1 : x < 18446744073709551616) (l0 : 0 ≤ lo) (l1 : lo ≤ 64) (h0 : 0 ≤ n) (h1 : n ≤ 64) (w : World) :
    Calls Tryd.prog 17 #[.int .u64 x, .int .i64 lo, .int .i64 n] w fun e w' => e = .returned (.int .u64 (getI x lo n)) ∧ w = w' := by
  go_enter Tryd.func17, Tryd.ntmps17
  go_wp2_with (go_at_call 24; refine (low_c _ (by omega) (by omega) _).mono ?_; rintro e w' ⟨rfl, rfl⟩)
  go_ret
  exact ⟨congrArg (fun i => Ending.returned (.int .u64 i)) (get_eq x0 x1 h1), rfl⟩

theorem set_c (x lo n v : Int) (x0 : 0 ≤ x) (x1 : x < 18446744073709551616) (v0 : 0 ≤ v) (v1 : v < 18446744073709551616) (l0 : 0 ≤ lo) (l1 : lo ≤ 64) (h0 : 0 ≤ n) (h1 : n ≤ 64) (w : World) :
    Calls Tryd.prog 26 #[.int .u64 x, .int .i64 lo, .int .i64 n, .int .u64 v] w fun e w' => e = .returned (.int .u64 (setI x lo n v)) ∧ w = w' := by
  go_enter Tryd.func26, Tryd.ntmps26
  go_wp2_with (go_at_call 28; refine (mask_c _ _ (by omega) (by omega) (by omega) (by omega) _).mono ?_; rintro e w' ⟨rfl, rfl⟩)
  go_ret
  exact ⟨congrArg (fun i => Ending.returned (.int .u64 i)) (set_eq x0 x1 v0 l0), rfl⟩

end Go.Proofs.YtngioemeplllhaaDoor
