/- Registers as numbers: the word of a register, the register of a word. -/
import Derived.Test.YtlhoedpencmikaaGreatDoorGone
import Derived.Test.YtlhoedpencmikaaGreatDoorGst
import Derived.Test.YtlhoedpencmikaaGreatDoorGagg
namespace Go.Proofs.YtlhoedpencmikaaGreatDoor
set_option linter.unusedVariables false
set_option linter.unusedSimpArgs false

theorem set_cut {w lo n v : Nat} (hw : w < 2 ^ 64) : setN w lo n v = setN w lo n (v % 2 ^ n) := by
  apply Nat.eq_of_testBit_eq; intro i
  rw [tb_set hw, tb_set hw]
  split
  · rename_i h; rw [Nat.testBit_mod_two_pow]; simp; omega
  · rfl
/-- a field set above the bits at hand is added -/
theorem set_sum {w lo n v : Nat} (hw : w < 2 ^ lo) (h : lo + n ≤ 64) : setN w lo n v = w + 2 ^ lo * (v % 2 ^ n) := by
  have hw64 : w < 2 ^ 64 := Nat.lt_of_lt_of_le hw (Nat.pow_le_pow_right (by decide) (by omega))
  have hv : v % 2 ^ n < 2 ^ n := Nat.mod_lt _ (Nat.two_pow_pos n)
  rw [set_cut hw64]
  generalize v % 2 ^ n = v at hv ⊢
  apply Nat.eq_of_testBit_eq; intro j
  rw [tb_set hw64, Nat.add_comm w, Nat.testBit_two_pow_mul_add _ hw]
  by_cases h1 : j < lo
  · rw [if_neg (by omega), if_pos h1]
  · rw [if_neg h1]
    by_cases h2 : j < lo + n
    · rw [if_pos (by omega)]
    · rw [if_neg (by omega), Nat.testBit_lt_two_pow (Nat.lt_of_lt_of_le hw (Nat.pow_le_pow_right (by decide) (show lo ≤ j by omega))), Nat.testBit_lt_two_pow (Nat.lt_of_lt_of_le hv (Nat.pow_le_pow_right (by decide) (show n ≤ j - lo by omega)))]

/-- the word of whatever fields, cut off -/
def wdN (p : Sp) : Nat := p.pp % 17592186044416 + 17592186044416 * (p.ai % 65536) + 1152921504606846976 * (p.md % 16)
/-- the fields of a word -/
def rdP (x : Nat) : Sp := ⟨x / 1152921504606846976, x / 17592186044416 % 65536, x % 17592186044416⟩
def smB (p : Sp) : Bool := if p.md = 0 then decide (p.ai = 0) && decide (p.pp = 0) else decide (p.md = 8) && decide (p.ai < 65536) && decide (p.pp < 17592186044416)
def zSp : Sp := ⟨0, 0, 0⟩
theorem wd_lt (p : Sp) : wdN p < 18446744073709551616 := by unfold wdN; omega
theorem wd_sets (p : Sp) : setN (setN (setN 0 0 44 p.pp) 44 16 p.ai) 60 4 p.md = wdN p := by
  rw [set_sum (w := 0) (lo := 0) (by decide) (by decide)]
  have h1 : 0 + 2 ^ 0 * (p.pp % 2 ^ 44) < 2 ^ 44 := by omega
  rw [set_sum h1 (by decide)]
  have h2 : 0 + 2 ^ 0 * (p.pp % 2 ^ 44) + 2 ^ 44 * (p.ai % 2 ^ 16) < 2 ^ 60 := by omega
  rw [set_sum h2 (by decide)]
  unfold wdN; omega
theorem get_md {x : Nat} (h : x < 18446744073709551616) : getN x 60 4 = x / 1152921504606846976 := by unfold getN; rw [Nat.shiftRight_eq_div_pow]; omega
theorem get_ai (x : Nat) : getN x 44 16 = x / 17592186044416 % 65536 := by unfold getN; rw [Nat.shiftRight_eq_div_pow]
theorem get_pp (x : Nat) : getN x 0 44 = x % 17592186044416 := by unfold getN; rw [Nat.shiftRight_eq_div_pow, Nat.pow_zero, Nat.div_one]
theorem rd_wd (p : Sp) : rdP (wdN p) = ⟨p.md % 16, p.ai % 65536, p.pp % 17592186044416⟩ := by
  unfold rdP wdN
  congr 1 <;> omega
theorem rd_same (p : Sp) (h : p.md = 8) : decide (rdP (wdN p) = p) = smB p := by
  obtain ⟨m, a, q⟩ := p
  simp only at h
  subst h
  rw [rd_wd, Bool.eq_iff_iff]
  unfold smB
  simp
theorem sm_off (p : Sp) (h : p.md ≠ 8) : decide (p = zSp) = smB p := by
  obtain ⟨m, a, q⟩ := p
  simp only at h
  unfold smB zSp
  rw [Bool.eq_iff_iff]
  by_cases h0 : m = 0
  · simp [h0]
  · simp [h0, h]
theorem sm_fits {p : Sp} (h : smB p = true) : p.md < 16 ∧ p.ai < 65536 ∧ p.pp < 17592186044416 := by
  unfold smB at h
  by_cases h0 : p.md = 0
  · simp [h0] at h; omega
  · simp [h0] at h; omega
attribute [irreducible] wdN rdP smB zSp

end Go.Proofs.YtlhoedpencmikaaGreatDoor
/- Package satp, and the document's answers (atlasref07). -/
namespace Go.Proofs.YtlhoedpencmikaaGreatDoor
open Go.ChangeShapes Go.WideShapes Go.ChangeAt Go.RowKit
set_option linter.unusedVariables false
set_option linter.unusedSimpArgs false

theorem spC_wd (x : Nat) (hx : x < 18446744073709551616) : spC (rdP x) = #[.int .u64 (getI x 60 4), .int .u64 (getI x 44 16), .int .u64 (getI x 0 44)] := by
  have h0 : getI (x : Int) 60 4 = ((x / 1152921504606846976 : Nat) : Int) := by rw [← get_md hx]; unfold getI; rfl
  have h1 : getI (x : Int) 44 16 = ((x / 17592186044416 % 65536 : Nat) : Int) := by rw [← get_ai]; unfold getI; rfl
  have h2 : getI (x : Int) 0 44 = ((x % 17592186044416 : Nat) : Int) := by rw [← get_pp]; unfold getI; rfl
  rw [h0, h1, h2]
  unfold rdP; rw [spC_def]
theorem wd_setI (p : Sp) : setI (setI (setI 0 0 44 (p.pp : Int)) 44 16 (p.ai : Int)) 60 4 (p.md : Int) = ((wdN p : Nat) : Int) := by
  rw [← wd_sets p]; unfold setI; rfl
theorem read7_c (x : Nat) (hx : x < 18446744073709551616) (w : World) :
    Calls Tryz.prog 75 #[.int .u64 (x : Int)] w fun e w' => e = .returned (.agg (spC (rdP x))) ∧ Ext w w' := by
  rw [spC_wd x hx]
  go_enter Tryz.func75, Tryz.ntmps75
  go_wp2_with (go_at_call 94; refine (get_c _ _ _ (by (omega)) (by (omega)) (by omega) (by omega) (by omega) (by omega) _).mono ?_; rintro e w' ⟨rfl, rfl⟩)
  refine bodyPost_ret (results_cell_row rfl _ _ _ _ _ _ _ rfl ((blk_at (by simp))) Tryz.underlying27 rfl (by kernel_rfl)) rfl ?_
  exact ⟨rfl, (Ext.refl w).alloc _⟩
set_option maxRecDepth 100000 in
theorem word7_c (p : Sp) (hp : p.ok) (w : World) :
    Calls Tryz.prog 76 #[.agg (spC p)] w fun e w' => e = .returned (.int .u64 ((wdN p : Nat) : Int)) ∧ Ext w w' := by
  obtain ⟨ok0, ok1, ok2⟩ := hp
  have H := wd_setI p
  have k1 := set_c 0 0 44 (p.pp : Int) (by omega) (by omega) (by omega) (by omega) (by decide) (by decide) (by decide) (by decide)
  have l1 := setI_lt (w := 0) 0 44 (p.pp : Int) (by omega) (by omega)
  have g1 := setI_ge 0 0 44 (p.pp : Int)
  generalize setI 0 0 44 (p.pp : Int) = x1 at H k1 l1 g1
  have k2 := set_c x1 44 16 (p.ai : Int) g1 l1 (by omega) (by omega) (by decide) (by decide) (by decide) (by decide)
  have l2 := setI_lt (w := x1) 44 16 (p.ai : Int) g1 l1
  have g2 := setI_ge x1 44 16 (p.ai : Int)
  generalize setI x1 44 16 (p.ai : Int) = x2 at H k2 l2 g2
  have k3 := set_c x2 60 4 (p.md : Int) g2 l2 (by omega) (by omega) (by decide) (by decide) (by decide) (by decide)
  rw [H] at k3
  clear H g1 g2 l1 l2 ok0 ok1 ok2
  have HE := Lib.hid ((Ext.refl w).alloc (.cells (spC p) 27))
  rw [spC_eq] at HE ⊢
  go_enter Tryz.func76, Tryz.ntmps76
  go_wp2_with fail
  refine (k1 _).mono ?_
  rintro e w3 ⟨rfl, hw3⟩
  subst hw3
  clear k1
  go_wp2_with fail
  refine (k2 _).mono ?_
  rintro e w3 ⟨rfl, hw3⟩
  subst hw3
  clear k2
  go_wp2_with fail
  refine (k3 _).mono ?_
  rintro e w3 ⟨rfl, hw3⟩
  subst hw3
  clear k3
  go_wp2
  go_ret
  exact ⟨rfl, HE.out⟩
theorem on7_c (p : Sp) (w : World) :
    Calls Tryz.prog 48 #[.agg (spC p)] w fun e w' => e = .returned (.bool (decide (p.md = 8))) ∧ Ext w w' := by
  have HE := Lib.hid ((Ext.refl w).alloc (.cells (spC p) 27))
  have H : Hid (((p.md : Int) == 8) = decide (p.md = 8)) := Lib.hid (by rw [Bool.eq_iff_iff, beq_iff_eq, decide_eq_true_iff]; omega)
  rw [spC_eq] at HE ⊢
  go_enter Tryz.func48, Tryz.ntmps48
  go_wp2
  go_ret
  exact ⟨by rw [← H.out]; rfl, HE.out⟩
set_option maxRecDepth 100000 in
set_option maxHeartbeats 1000000 in
theorem may7_c (p : Sp) (hp : p.ok) (w : World) :
    Calls Tryz.prog 40 #[.agg (spC p)] w fun e w' => e = .returned (.bool (smB p)) ∧ Ext w w' := by
  have hon := on7_c p
  have hword := word7_c p hp
  have hread := read7_c (wdN p) (wd_lt p)
  have HE := Lib.hid ((Ext.refl w).alloc (.cells (spC p) 27))
  have hb := Blk.new w 27 (spC p)
  by_cases h8 : p.md = 8
  · rw [decide_eq_true h8] at hon
    have hq : ∀ w, (binOp .eql 27 (.agg (spC (rdP (wdN p)))) (.agg (spC p))).run Tryz.prog w = .ok (.bool (smB p)) w := fun w => by
      rw [eql_sp, rd_same p h8]
    clear h8
    go_enter Tryz.func40, Tryz.ntmps40
    go_wp2_with (refine wpList_load_blk (by rfl) 27 _ rfl rfl (by with_reducible assumption) Tryz.underlying27 rfl (by kernel_rfl) ?_)
    refine (hon _).mono ?_
    rintro e w1 ⟨rfl, hE⟩
    replace HE := Lib.hid (HE.out.trans hE)
    replace hb := (hb.ext hE).drew
    replace HE := Lib.hid HE.out.drew
    clear hE hon
    go_wp2_with fail
    refine wp_region_seq [(0, false), (3, false), (1, true), (2, true), (4, false), (5, false)] Ext (by kernel_rfl) (by kernel_rfl) Ext.refl (fun _ _ _ => Ext.trans) ?_; simp only [List.map, nth_z, nth_s]
    refine seq_load rfl rfl (fun x hx => Blk.ext (hb) hx) rfl Tryz.underlying27 (by kernel_rfl) (by rfl) ?_; intro K hK; simp only [Act.put, List.setIfInBounds_toArray, List.set_cons_zero, List.set_cons_succ]; refine hK _ ?_; clear hK K
    refine seq_load rfl rfl (fun x hx => Blk.ext (hb) hx) rfl Tryz.underlying27 (by kernel_rfl) (by rfl) ?_; intro K hK; simp only [Act.put, List.setIfInBounds_toArray, List.set_cons_zero, List.set_cons_succ]; refine hK _ ?_; clear hK K
    refine seq_call (hword _) rfl Tryz.func76 (by kernel_rfl) (by kernel_rfl) (by rfl) (by rfl) ?_; intro K hK; rintro e w' ⟨rfl, hE⟩; refine ⟨_, rfl, hE, ?_⟩; simp only [Act.put, List.setIfInBounds_toArray, List.set_cons_zero, List.set_cons_succ]; refine hK _ _ ?_; clear hK K; replace HE := Lib.hid (HE.out.trans hE)
    clear hE
    refine seq_call (hread _) rfl Tryz.func75 (by kernel_rfl) (by kernel_rfl) (by rfl) (by rfl) ?_; intro K hK; rintro e w' ⟨rfl, hE⟩; refine ⟨_, rfl, hE, ?_⟩; simp only [Act.put, List.setIfInBounds_toArray, List.set_cons_zero, List.set_cons_succ]; refine hK _ _ ?_; clear hK K; replace HE := Lib.hid (HE.out.trans hE)
    clear hE
    refine seq_value (.bool (smB p)) (by rfl) (fun x hx => by simp [go_sem, execOp, Act.eval, hq, run_eqGuard_agg _ _ _ _ _ _ _ sp_guard]) ?_; intro K hK; simp only [Act.put, List.setIfInBounds_toArray, List.set_cons_zero, List.set_cons_succ]; refine hK _ ?_; clear hK K
    (repeat ((refine seq_read (by rfl) (by rfl) ?_; intro K hK; go_big_quiet_op; (go_big_quiet_on))))
    refine seq_done ?_
    go_wp2
    go_ret
    exact ⟨rfl, HE.out⟩
  · rw [decide_eq_false h8] at hon
    have hq : ∀ w, (binOp .eql 27 (.agg (spC p)) (.agg #[.int .u64 0, .int .u64 0, .int .u64 0])).run Tryz.prog w = .ok (.bool (smB p)) w := fun w => by
      have h := eql_sp w p zSp
      rw [sm_off p h8] at h
      have e : spC zSp = #[.int .u64 0, .int .u64 0, .int .u64 0] := by unfold zSp; rw [spC_def]; rfl
      rwa [e] at h
    clear h8
    have hg := sp_guard
    go_enter Tryz.func40, Tryz.ntmps40
    go_wp2_with (refine wpList_load_blk (by rfl) 27 _ rfl rfl (by with_reducible assumption) Tryz.underlying27 rfl (by kernel_rfl) ?_)
    refine (hon _).mono ?_
    rintro e w1 ⟨rfl, hE⟩
    replace HE := Lib.hid (HE.out.trans hE)
    replace hb := hb.ext hE
    clear hE hon
    go_wp2_with (refine wpList_load_blk (by rfl) 27 _ rfl rfl (by with_reducible assumption) Tryz.underlying27 rfl (by kernel_rfl) ?_)
    go_ret
    exact ⟨rfl, HE.out⟩
end Go.Proofs.YtlhoedpencmikaaGreatDoor
/- The document's answers of layer 7 (atlasref07). -/
namespace Go.Proofs.YtlhoedpencmikaaGreatDoor
open Go.ChangeShapes Go.WideShapes Go.ChangeAt Go.RowKit
set_option linter.unusedVariables false
set_option linter.unusedSimpArgs false

theorem sm_if (p : Sp) : smB p = if p.md = 0 then decide (p.ai = 0) && decide (p.pp = 0) else decide (p.md = 8) && decide (p.ai < 65536) && decide (p.pp < 17592186044416) := by unfold smB; rfl
theorem beq_dec (a b : Nat) : ((a : Int) == (b : Int)) = decide (a = b) := by rw [Bool.eq_iff_iff, beq_iff_eq, decide_eq_true_iff]; omega
theorem blt_dec (a b : Nat) : decide ((a : Int) < (b : Int)) = decide (a < b) := by rw [Bool.eq_iff_iff, decide_eq_true_iff, decide_eq_true_iff]; omega
set_option maxRecDepth 100000 in
set_option maxHeartbeats 1000000 in
theorem rmay7_c (p : Sp) (w : World) :
    Calls Tryz.prog 47 #[.agg (spC p)] w fun e w' => e = .returned (.bool (smB p)) ∧ Ext w w' := by
  have H := Lib.hid (sm_if p)
  have HE := Lib.hid ((Ext.refl w).alloc (.cells (spC p) 27))
  rw [spC_eq] at HE ⊢
  have e0 : ((p.md : Int) == 0) = decide (p.md = 0) := beq_dec p.md 0
  have e1 : ((p.ai : Int) == 0) = decide (p.ai = 0) := beq_dec p.ai 0
  have e2 : ((p.pp : Int) == 0) = decide (p.pp = 0) := beq_dec p.pp 0
  have e3 : ((p.md : Int) == 8) = decide (p.md = 8) := beq_dec p.md 8
  have e4 : decide ((p.ai : Int) < 65536) = decide (p.ai < 65536) := blt_dec p.ai 65536
  have e5 : decide ((p.pp : Int) < 17592186044416) = decide (p.pp < 17592186044416) := blt_dec p.pp 17592186044416
  by_cases h0 : p.md = 0
  · rw [decide_eq_true h0] at e0
    replace H := Lib.hid (H.out.trans (if_pos h0))
    clear e3 e4 e5 h0
    cases h1 : decide (p.ai = 0)
    all_goals
      rw [h1] at e1 H
      clear h1
      go_enter Tryz.func47, Tryz.ntmps47
      go_wp2
      go_ret
      (exact ⟨by rw [H.out]; rfl, HE.out⟩)
  · rw [decide_eq_false h0] at e0
    replace H := Lib.hid (H.out.trans (if_neg h0))
    clear e1 e2 h0
    cases h1 : decide (p.md = 8) <;> cases h2 : decide (p.ai < 65536)
    all_goals
      rw [h1] at e3 H
      rw [h2] at e4 H
      clear h1 h2
      go_enter Tryz.func47, Tryz.ntmps47
      go_wp2
      go_ret
      (exact ⟨by rw [H.out]; rfl, HE.out⟩)
end Go.Proofs.YtlhoedpencmikaaGreatDoor
