/- Registers as numbers: the word of a register, the register of a word. -/
import Derived.Test.YtlhoedpencmikaaDoorGone
import Derived.Test.YtlhoedpencmikaaDoorGst
import Derived.Test.YtlhoedpencmikaaDoorGagg
namespace Go.Proofs.YtlhoedpencmikaaDoor
set_option linter.unusedVariables false
set_option linter.unusedSimpArgs false

theorem set_cut {w lo n v : Nat} (hw : w < 2 ^ 64) : setN w lo n v = setN w lo n (v % 2 ^ n) := by
  apply Nat.eq_of_testBit_eq; intro i
  rw [tb_set hw, tb_set hw]
  split
  · rename_i h; rw [Nat.testBit_mod_two_pow]; simp; omega
  · rfl
/-- a field set above the bits at hand is added -/
theorem set_sum {w lo n v : Nat} (hw : w < 2 ^ lo) (h : lo + n ≤ 64) : setN w lo n v = w + 2 ^ lo * (v % 2 ^ n) := by
  have hw64 : w < 2 ^ 64 := Nat.lt_of_lt_of_le hw (Nat.pow_le_pow_right (by decide) (by omega))
  have hv : v % 2 ^ n < 2 ^ n := Nat.mod_lt _ (Nat.two_pow_pos n)
  rw [set_cut hw64]
  generalize v % 2 ^ n = v at hv ⊢
  apply Nat.eq_of_testBit_eq; intro j
  rw [tb_set hw64, Nat.add_comm w, Nat.testBit_two_pow_mul_add _ hw]
  by_cases h1 : j < lo
  · rw [if_neg (by omega), if_pos h1]
  · rw [if_neg h1]
    by_cases h2 : j < lo + n
    · rw [if_pos (by omega)]
    · rw [if_neg (by omega), Nat.testBit_lt_two_pow (Nat.lt_of_lt_of_le hw (Nat.pow_le_pow_right (by decide) (show lo ≤ j by omega))), Nat.testBit_lt_two_pow (Nat.lt_of_lt_of_le hv (Nat.pow_le_pow_right (by decide) (show n ≤ j - lo by omega)))]

/-- the word of whatever fields, cut off -/
def wdN (p : Sp) : Nat := p.pp % 17592186044416 + 17592186044416 * (p.ai % 65536) + 1152921504606846976 * (p.md % 16)
/-- the fields of a word -/
def rdP (x : Nat) : Sp := ⟨x / 1152921504606846976, x / 17592186044416 % 65536, x % 17592186044416⟩
def smB (p : Sp) : Bool := if p.md = 0 then decide (p.ai = 0) && decide (p.pp = 0) else decide (p.md = 8) && decide (p.ai < 65536) && decide (p.pp < 17592186044416)
def zSp : Sp := ⟨0, 0, 0⟩
/-- what a word is read as -/
def sgP (x : Nat) : Sp := if smB (rdP x) then rdP x else zSp

theorem wd_lt (p : Sp) : wdN p < 18446744073709551616 := by unfold wdN; omega
theorem wd_sets (p : Sp) : setN (setN (setN 0 0 44 p.pp) 44 16 p.ai) 60 4 p.md = wdN p := by
  rw [set_sum (w := 0) (lo := 0) (by decide) (by decide)]
  have h1 : 0 + 2 ^ 0 * (p.pp % 2 ^ 44) < 2 ^ 44 := by omega
  rw [set_sum h1 (by decide)]
  have h2 : 0 + 2 ^ 0 * (p.pp % 2 ^ 44) + 2 ^ 44 * (p.ai % 2 ^ 16) < 2 ^ 60 := by omega
  rw [set_sum h2 (by decide)]
  unfold wdN; omega
theorem get_md {x : Nat} (h : x < 18446744073709551616) : getN x 60 4 = x / 1152921504606846976 := by unfold getN; rw [Nat.shiftRight_eq_div_pow]; omega
theorem get_ai (x : Nat) : getN x 44 16 = x / 17592186044416 % 65536 := by unfold getN; rw [Nat.shiftRight_eq_div_pow]
theorem get_pp (x : Nat) : getN x 0 44 = x % 17592186044416 := by unfold getN; rw [Nat.shiftRight_eq_div_pow, Nat.pow_zero, Nat.div_one]
theorem rd_ok {x : Nat} (h : x < 18446744073709551616) : (rdP x).ok := by unfold Sp.ok rdP; simp only; omega
theorem rd_wd (p : Sp) : rdP (wdN p) = ⟨p.md % 16, p.ai % 65536, p.pp % 17592186044416⟩ := by
  unfold rdP wdN
  congr 1 <;> omega
theorem wd_rd {x : Nat} (h : x < 18446744073709551616) : wdN (rdP x) = x := by unfold rdP wdN; simp only; omega
theorem rd_same (p : Sp) (h : p.md = 8) : decide (rdP (wdN p) = p) = smB p := by
  obtain ⟨m, a, q⟩ := p
  simp only at h
  subst h
  rw [rd_wd, Bool.eq_iff_iff]
  unfold smB
  simp
theorem sm_off (p : Sp) (h : p.md ≠ 8) : decide (p = zSp) = smB p := by
  obtain ⟨m, a, q⟩ := p
  simp only at h
  unfold smB zSp
  rw [Bool.eq_iff_iff]
  by_cases h0 : m = 0
  · simp [h0]
  · simp [h0, h]
theorem sm_zero : smB zSp = true := rfl
theorem sm_fits {p : Sp} (h : smB p = true) : p.md < 16 ∧ p.ai < 65536 ∧ p.pp < 17592186044416 := by
  unfold smB at h
  by_cases h0 : p.md = 0
  · simp [h0] at h; omega
  · simp [h0] at h; omega
theorem wd_may {p : Sp} (h : smB p = true) : wdN p = p.pp + p.ai * 17592186044416 + p.md * 1152921504606846976 := by
  have := sm_fits h
  unfold wdN; omega
theorem rd_may {p : Sp} (h : smB p = true) : rdP (wdN p) = p := by
  obtain ⟨h1, h2, h3⟩ := sm_fits h
  rw [rd_wd]
  obtain ⟨m, a, q⟩ := p
  simp only at h1 h2 h3
  rw [Nat.mod_eq_of_lt h1, Nat.mod_eq_of_lt h2, Nat.mod_eq_of_lt h3]
theorem sg_may {p : Sp} (h : smB p = true) : sgP (wdN p) = p := by unfold sgP; rw [rd_may h, if_pos h]
theorem wd_inj {p q : Sp} (hp : smB p = true) (hq : smB q = true) : decide (wdN p = wdN q) = decide (p = q) := by
  rw [Bool.eq_iff_iff, decide_eq_true_iff, decide_eq_true_iff]
  exact ⟨fun h => by rw [← rd_may hp, ← rd_may hq, h], fun h => by rw [h]⟩
attribute [irreducible] wdN rdP smB sgP zSp
end Go.Proofs.YtlhoedpencmikaaDoor
/- Package satp, and the document's answers (atlasref07). -/
namespace Go.Proofs.YtlhoedpencmikaaDoor
open Go.ChangeShapes Go.WideShapes Go.ChangeAt Go.RowKit
set_option linter.unusedVariables false
set_option linter.unusedSimpArgs false

theorem spC_wd (x : Nat) (hx : x < 18446744073709551616) : spC (rdP x) = #[.int .u64 (getI x 60 4), .int .u64 (getI x 44 16), .int .u64 (getI x 0 44)] := by
  have h0 : getI (x : Int) 60 4 = ((x / 1152921504606846976 : Nat) : Int) := by rw [← get_md hx]; unfold getI; rfl
  have h1 : getI (x : Int) 44 16 = ((x / 17592186044416 % 65536 : Nat) : Int) := by rw [← get_ai]; unfold getI; rfl
  have h2 : getI (x : Int) 0 44 = ((x % 17592186044416 : Nat) : Int) := by rw [← get_pp]; unfold getI; rfl
  rw [h0, h1, h2]
  unfold rdP; rw [spC_def]
theorem wd_setI (p : Sp) : setI (setI (setI 0 0 44 (p.pp : Int)) 44 16 (p.ai : Int)) 60 4 (p.md : Int) = ((wdN p : Nat) : Int) := by
  rw [← wd_sets p]; unfold setI; rfl
theorem on7_c (p : Sp) (w : World) :
    Calls Tryd.prog 24 #[.agg (spC p)] w fun e w' => e = .returned (.bool (decide (p.md = 8))) ∧ Ext w w' := by
  have HE := Lib.hid ((Ext.refl w).alloc (.cells (spC p) 27))
  have H : Hid (((p.md : Int) == 8) = decide (p.md = 8)) := Lib.hid (by rw [Bool.eq_iff_iff, beq_iff_eq, decide_eq_true_iff]; omega)
  rw [spC_eq] at HE ⊢
  go_enter Tryd.func24, Tryd.ntmps24
  go_wp2
  go_ret
  exact ⟨by rw [← H.out]; rfl, HE.out⟩
end Go.Proofs.YtlhoedpencmikaaDoor
/- The document's answers of layer 7 (atlasref07). -/
namespace Go.Proofs.YtlhoedpencmikaaDoor
open Go.ChangeShapes Go.WideShapes Go.ChangeAt Go.RowKit
set_option linter.unusedVariables false
set_option linter.unusedSimpArgs false

theorem sm_if (p : Sp) : smB p = if p.md = 0 then decide (p.ai = 0) && decide (p.pp = 0) else decide (p.md = 8) && decide (p.ai < 65536) && decide (p.pp < 17592186044416) := by unfold smB; rfl
theorem beq_dec (a b : Nat) : ((a : Int) == (b : Int)) = decide (a = b) := by rw [Bool.eq_iff_iff, beq_iff_eq, decide_eq_true_iff]; omega
theorem blt_dec (a b : Nat) : decide ((a : Int) < (b : Int)) = decide (a < b) := by rw [Bool.eq_iff_iff, decide_eq_true_iff, decide_eq_true_iff]; omega
set_option maxRecDepth 100000 in
set_option maxHeartbeats 1000000 in
theorem rmay7_c (p : Sp) (w : World) :
    Calls Tryd.prog 23 #[.agg (spC p)] w fun e w' => e = .returned (.bool (smB p)) ∧ Ext w w' := by
  have H := Lib.hid (sm_if p)
  have HE := Lib.hid ((Ext.refl w).alloc (.cells (spC p) 27))
  rw [spC_eq] at HE ⊢
  have e0 : ((p.md : Int) == 0) = decide (p.md = 0) := beq_dec p.md 0
  have e1 : ((p.ai : Int) == 0) = decide (p.ai = 0) := beq_dec p.ai 0
  have e2 : ((p.pp : Int) == 0) = decide (p.pp = 0) := beq_dec p.pp 0
  have e3 : ((p.md : Int) == 8) = decide (p.md = 8) := beq_dec p.md 8
  have e4 : decide ((p.ai : Int) < 65536) = decide (p.ai < 65536) := blt_dec p.ai 65536
  have e5 : decide ((p.pp : Int) < 17592186044416) = decide (p.pp < 17592186044416) := blt_dec p.pp 17592186044416
  by_cases h0 : p.md = 0
  · rw [decide_eq_true h0] at e0
    replace H := Lib.hid (H.out.trans (if_pos h0))
    clear e3 e4 e5 h0
    cases h1 : decide (p.ai = 0)
    all_goals
      rw [h1] at e1 H
      clear h1
      go_enter Tryd.func23, Tryd.ntmps23
      go_wp2
      go_ret
      (exact ⟨by rw [H.out]; rfl, HE.out⟩)
  · rw [decide_eq_false h0] at e0
    replace H := Lib.hid (H.out.trans (if_neg h0))
    clear e1 e2 h0
    cases h1 : decide (p.md = 8) <;> cases h2 : decide (p.ai < 65536)
    all_goals
      rw [h1] at e3 H
      rw [h2] at e4 H
      clear h1 h2
      go_enter Tryd.func23, Tryd.ntmps23
      go_wp2
      go_ret
      (exact ⟨by rw [H.out]; rfl, HE.out⟩)
end Go.Proofs.YtlhoedpencmikaaDoor
