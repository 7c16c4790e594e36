/- Addresses as numbers: a page's size, canonical addresses, an index, a page number, an address of a page number, the rest and the base by a page's size. -/
import Derived.Test.YticbjiddbjgikaaDoorGone
import Derived.Test.YticbjiddbjgikaaDoorGagg
import Derived.Below
import Derived.Lib.LaidTab
namespace Go.Proofs.YticbjiddbjgikaaDoor
set_option linter.unusedVariables false

def sizI (l : Int) : Int := ((4096 * 512 ^ l.toNat : Nat) : Int)
def vaB (a : Int) : Bool := decide (a < 274877906944) || decide (18446743798831644672 ≤ a)
def idxI (a l : Int) : Int := a / sizI l % 512
def numI (a : Int) : Int := a / 4096 % 134217728
def ofI (n : Int) : Int := if n % 134217728 < 67108864 then n % 134217728 * 4096 else n % 134217728 * 4096 + 18446743523953737728
def offI (a l : Int) : Int := a % sizI l
def fitB (a l : Int) : Bool := vaB a && (offI a l == 0)

theorem siz0 : sizI 0 = 4096 := by decide
theorem siz1 : sizI 1 = 2097152 := by decide
theorem siz2 : sizI 2 = 1073741824 := by decide
theorem level_lt {l : Int} (h0 : 0 ≤ l) (h1 : l ≤ 2) : l = 0 ∨ l = 1 ∨ l = 2 := by omega

theorem get_ar {x : Int} (x0 : 0 ≤ x) (lo n : Nat) : getI x lo n = x / 2 ^ lo % 2 ^ n := by
  obtain ⟨m, rfl⟩ := Int.eq_ofNat_of_zero_le x0
  unfold getI getN
  rw [Int.toNat_natCast, Int.toNat_natCast, Int.toNat_natCast, Nat.shiftRight_eq_div_pow, pow_cast, pow_cast]
  push_cast; rfl
theorem idx_eq {a l : Int} (a0 : 0 ≤ a) (l0 : 0 ≤ l) (l2 : l ≤ 2) : getI a (12 + 9 * l) 9 = idxI a l := by
  unfold idxI
  rcases level_lt l0 l2 with rfl | rfl | rfl
  · rw [siz0]; exact get_ar a0 12 9
  · rw [siz1]; exact get_ar a0 21 9
  · rw [siz2]; exact get_ar a0 30 9
/-- a word with the sign of its 39 lowest bits -/
theorem sign39 {x : Nat} (hx : x < 2 ^ 64) : signN x 39 = if x % 549755813888 < 274877906944 then x % 549755813888 else x % 549755813888 + 18446743523953737728 := by
  have hb : x.testBit 38 = decide (274877906944 ≤ x % 549755813888) := by
    rw [Nat.testBit_eq_decide_div_mod_eq, decide_eq_decide]; omega
  apply Nat.eq_of_testBit_eq; intro i
  rw [tb_sign hx (by decide) (by decide), show (39 - 1 : Nat) = 38 from rfl]
  by_cases h : x % 549755813888 < 274877906944
  · rw [if_pos h, show (549755813888 : Nat) = 2 ^ 39 from rfl, Nat.testBit_mod_two_pow]
    by_cases hi : i < 39
    · rw [show min i 38 = i by omega]; simp [hi, show i < 64 by omega]
    · rw [show min i 38 = 38 by omega, hb]; simp [hi]; omega
  · rw [if_neg h, show x % 549755813888 + 18446743523953737728 = 2 ^ 39 * (2 ^ 25 - 1) + x % 549755813888 by omega, Nat.testBit_two_pow_mul_add _ (by omega), show (549755813888 : Nat) = 2 ^ 39 from rfl, Nat.testBit_mod_two_pow, Nat.testBit_two_pow_sub_one]
    by_cases hi : i < 39
    · rw [if_pos hi, show min i 38 = i by omega]; simp [hi, show i < 64 by omega]
    · rw [if_neg hi, show min i 38 = 38 by omega, hb]; simp [show 274877906944 ≤ x % 549755813888 by omega]; omega
theorem sign_ar {x : Int} (x0 : 0 ≤ x) (x1 : x < 18446744073709551616) : signI x 39 = if x % 549755813888 < 274877906944 then x % 549755813888 else x % 549755813888 + 18446743523953737728 := by
  obtain ⟨m, rfl⟩ := Int.eq_ofNat_of_zero_le x0
  unfold signI
  rw [Int.toNat_natCast, show (39 : Int).toNat = 39 from rfl, sign39 (by omega)]
  split
  · rw [if_pos (by omega)]; omega
  · rw [if_neg (by omega)]; omega
theorem rof_eq {n : Int} (n0 : 0 ≤ n) : signI (n % 134217728 * 4096) 39 = ofI n := by
  rw [sign_ar (by omega) (by omega)]
  unfold ofI
  split
  · rw [if_pos (by omega)]; omega
  · rw [if_neg (by omega)]; omega
/-! bounds -/
theorem idx_lt (a l : Int) : 0 ≤ idxI a l ∧ idxI a l < 512 := by unfold idxI; omega
theorem num_lt (a : Int) : 0 ≤ numI a ∧ numI a < 134217728 := by unfold numI; omega
attribute [irreducible] sizI vaB idxI numI ofI offI fitB

end Go.Proofs.YticbjiddbjgikaaDoor
/- Package va: what each function answers. The sizes lie in the package's variable. -/
namespace Go.Proofs.YticbjiddbjgikaaDoor
open Go.ChangeShapes Go.WideShapes Go.ChangeAt Go.RowKit
set_option linter.unusedVariables false
set_option maxRecDepth 10000
set_option linter.unusedSimpArgs false

/-- a call that leaves the world leaves it as it was, but for what is new -/
theorem calls_ext {P : Program} {f : Nat} {args : Array Value} {w : World} {e0 : Ending} (h : Calls P f args w fun e w' => e = e0 ∧ w = w') : Calls P f args w fun e w' => e = e0 ∧ Ext w w' :=
  h.mono fun _ _ h => ⟨h.1, h.2 ▸ Ext.refl _⟩
/-- the sizes lie in their variable -/
def Siz (w : World) : Prop := w.cell? ⟨0, 0, none⟩ = some (.int .u64 4096) ∧ w.cell? ⟨0, 1, none⟩ = some (.int .u64 2097152) ∧ w.cell? ⟨0, 2, none⟩ = some (.int .u64 1073741824)
theorem Siz.ext {w w' : World} (h : Siz w) (hE : Ext w w') : Siz w' := ⟨ext_cell hE h.1, ext_cell hE h.2.1, ext_cell hE h.2.2⟩
theorem siz_of_laid {W : World} (h : laidMetH Tryd.prog [("atlas/va.sizes", Rows.laid_atlas_va_sizes)] W) : Siz W := by
  have h1 : laidMet Tryd.prog [("atlas/va.sizes", Lib.tabData .u64 [4096, 2097152, 1073741824])] W := by
    have h2 : laidMet Tryd.prog [("atlas/va.sizes", Rows.laid_atlas_va_sizes)] W := h
    exact h2
  have h3 := Lib.tabIs_of_head (g := 0) (t := 93) (e := 22) (n := 3) (by kernel_rfl) (by kernel_rfl) Tryd.underlying93 Tryd.underlying22 (by kernel_rfl) (by kernel_rfl) h1
  exact ⟨h3.cell (g := 0) (by kernel_rfl) 0 (by decide), h3.cell (g := 0) (by kernel_rfl) 1 (by decide), h3.cell (g := 0) (by kernel_rfl) 2 (by decide)⟩

theorem size_0 (w : World) (hT : Siz w) :
    Calls Tryd.prog 34 #[.int .i64 0] w fun e w' => e = .returned (.int .u64 4096) ∧ w = w' := by
  have hc := hT.1
  clear hT
  go_enter Tryd.func34, Tryd.ntmps34
  go_wp2
  go_ret
  exact ⟨rfl, rfl⟩
theorem size_1 (w : World) (hT : Siz w) :
    Calls Tryd.prog 34 #[.int .i64 1] w fun e w' => e = .returned (.int .u64 2097152) ∧ w = w' := by
  have hc := hT.2.1
  clear hT
  go_enter Tryd.func34, Tryd.ntmps34
  go_wp2
  go_ret
  exact ⟨rfl, rfl⟩
theorem size_2 (w : World) (hT : Siz w) :
    Calls Tryd.prog 34 #[.int .i64 2] w fun e w' => e = .returned (.int .u64 1073741824) ∧ w = w' := by
  have hc := hT.2.2
  clear hT
  go_enter Tryd.func34, Tryd.ntmps34
  go_wp2
  go_ret
  exact ⟨rfl, rfl⟩
theorem size5_c (l : Int) (l0 : 0 ≤ l) (l2 : l ≤ 2) (w : World) (hT : Siz w) :
    Calls Tryd.prog 34 #[.int .i64 l] w fun e w' => e = .returned (.int .u64 (sizI l)) ∧ w = w' := by
  rcases level_lt l0 l2 with rfl | rfl | rfl
  · rw [siz0]; exact size_0 w hT
  · rw [siz1]; exact size_1 w hT
  · rw [siz2]; exact size_2 w hT
theorem index5_c (a l : Int) (a0 : 0 ≤ a) (a1 : a < 18446744073709551616) (l0 : 0 ≤ l) (l2 : l ≤ 2) (w : World) :
    Calls Tryd.prog 59 #[.int .u64 a, .int .i64 l] w fun e w' => e = .returned (.int .i64 (idxI a l)) ∧ w = w' := by
  have H := Lib.hid (idx_eq a0 l0 l2)
  have hb := idx_lt a l
  rw [← H.out] at hb
  obtain ⟨hb0, hb1⟩ := hb
  go_enter Tryd.func59, Tryd.ntmps59
  go_wp2_with (go_at_call 75; refine (get_c _ _ _ (by (omega)) (by (omega)) (by omega) (by omega) (by omega) (by omega) _).mono ?_; rintro e w' ⟨rfl, rfl⟩)
  go_ret
  exact ⟨congrArg (fun b => Ending.returned (.int .i64 b)) H.out, rfl⟩
theorem siz_lt {l : Int} (l0 : 0 ≤ l) (l2 : l ≤ 2) : 4096 ≤ sizI l ∧ sizI l ≤ 1073741824 := by
  rcases level_lt l0 l2 with rfl | rfl | rfl
  · rw [siz0]; decide
  · rw [siz1]; decide
  · rw [siz2]; decide
end Go.Proofs.YticbjiddbjgikaaDoor
