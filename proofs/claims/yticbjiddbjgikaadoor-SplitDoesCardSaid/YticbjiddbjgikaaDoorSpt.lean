/- A spot (api.Spot): as values, held against one another, stored and loaded whole and by parts. Written by mkstruct2.py. -/
import Derived.Test.YticbjiddbjgikaaDoorGagg
import Derived.Test.YticbjiddbjgikaaDoorGst
namespace Go.Proofs.YticbjiddbjgikaaDoor
open Go.ChangeShapes Go.WideShapes Go.ChangeAt Go.RowKit Go.Joins Go.Deep
set_option linter.unusedVariables false
set_option linter.unusedSimpArgs false
set_option maxRecDepth 10000

structure Spt where
  tb : Nat
  lv : Int
  pt : Pt
deriving DecidableEq
def Spt.ok (p : Spt) : Prop := p.tb < 18446744073709551616 ∧ (-9223372036854775808 ≤ p.lv ∧ p.lv ≤ 9223372036854775807) ∧ p.pt.ok
def sptC (p : Spt) : Array Value := #[.int .u64 (p.tb : Int), .int .i64 p.lv] ++ ptC p.pt
theorem sptC_eq (p : Spt) : sptC p = #[.int .u64 (p.tb : Int), .int .i64 p.lv] ++ ptC p.pt := rfl
theorem sptC_size (p : Spt) : (sptC p).size = 13 := by simp only [sptC_eq, ptC_eq]; rfl
theorem sptC_one (p : Spt) : (sptC p).all (·.oneCell') = true := by simp only [sptC_eq, ptC_eq]; simp [Value.oneCell']
theorem spt_info (p : Spt) : (Tryd.prog.info? 34).map (·.size) = some (sptC p).size := by rw [sptC_size]; kernel_rfl
theorem sptC_tb (p : Spt) : (sptC p)[0]? = some (.int .u64 (p.tb : Int)) := by simp only [sptC_eq, ptC_eq]; rfl
theorem sptC_set_tb (p : Spt) (x : Nat) : (sptC p).setIfInBounds 0 (.int .u64 (x : Int)) = sptC { p with tb := x } := by simp only [sptC_eq, ptC_eq]; rfl
theorem sptC_lv (p : Spt) : (sptC p)[1]? = some (.int .i64 p.lv) := by simp only [sptC_eq, ptC_eq]; rfl
theorem sptC_set_lv (p : Spt) (x : Int) : (sptC p).setIfInBounds 1 (.int .i64 x) = sptC { p with lv := x } := by simp only [sptC_eq, ptC_eq]; rfl
theorem sptC_pt (p : Spt) : (sptC p).extract 2 (2 + (ptC p.pt).size) = ptC p.pt := by rw [ptC_size]; simp only [sptC_eq, ptC_eq]; kernel_rfl
theorem sptC_set_pt (p : Spt) (q : Pt) : putAt (sptC p) 2 (ptC q).toList = sptC { p with pt := q } := by simp only [sptC_eq, ptC_eq]; kernel_rfl
theorem spt_build (p : Spt) : Tryd.prog.built 34 [(0, .int .u64 (p.tb : Int)), (1, .int .i64 p.lv), (2, .agg (ptC p.pt))] = some (sptC p) := by simp only [sptC_eq, ptC_eq]; kernel_rfl
attribute [irreducible] sptC

theorem eqlIn_spt (D0 : Nat) (w : World) (p q : Spt) : (Op.equalIn (D0 + 1 + 1 + 1) 34 (.agg (sptC p)) (.agg (sptC q))).run Tryd.prog w = .ok (decide (p = q)) w := by
  have hp : Tryd.prog.stoodInHeld 34 = false := by kernel_rfl
  rw [run_equalIn_agg w _ _ _ _ (by simp [Program.fieldsOf, Tryd.underlying34]) hp]
  have hd : decide (p = q) = ((p.tb : Int) == q.tb && (p.lv == q.lv && (decide (p.pt = q.pt) && true))) := by
    obtain ⟨tb, lv, pt⟩ := p
    obtain ⟨tb', lv', pt'⟩ := q
    rw [Bool.eq_iff_iff]
    simp
    try (first | omega | (intros; simp only [Int.natCast_inj]))
  rw [hd]
  have h_u64 : ∀ a b : Int, (Op.equalIn (D0 + 1 + 1) 22 (.int .u64 a) (.int .u64 b)).run Tryd.prog w = .ok (a == b) w := fun a b => run_equalIn_int w (D0 + 1) _ _ _ _ _ Tryd.underlying22
  have h_i64 : ∀ a b : Int, (Op.equalIn (D0 + 1 + 1) 3 (.int .i64 a) (.int .i64 b)).run Tryd.prog w = .ok (a == b) w := fun a b => run_equalIn_int w (D0 + 1) _ _ _ _ _ Tryd.underlying3
  have h_pt : ∀ a b : Pt, (Op.equalIn (D0 + 1 + 1) 32 (.agg (ptC a)) (.agg (ptC b))).run Tryd.prog w = .ok (decide (a = b)) w := fun a b => eqlIn_pt (D0) w a b
  generalize D0 + 1 + 1 = D at h_u64 h_i64 h_pt ⊢
  have key : (Op.eqFields D (sptC p) (sptC q) (Program.fieldsOf Tryd.prog 34).toList).run Tryd.prog w = .ok ((p.tb : Int) == q.tb && (p.lv == q.lv && (decide (p.pt = q.pt) && true))) w := by
    simp only [Program.fieldsOf, Tryd.underlying34]
    refine run_eqF ?_ (part_u64 (sptC_tb p)) (part_u64 (sptC_tb q)) (h_u64 _ _) ?_
    · simp
    refine run_eqF ?_ (part_int Tryd.underlying3 (sptC_lv p)) (part_int Tryd.underlying3 (sptC_lv q)) (h_i64 _ _) ?_
    · simp
    refine run_eqF ?_ (part_agg Tryd.underlying32 rfl (by rw [ptC_size]; kernel_rfl) (sptC_pt p)) (part_agg Tryd.underlying32 rfl (by rw [ptC_size]; kernel_rfl) (sptC_pt q)) (h_pt _ _) ?_
    · simp
    simp [Op.eqFields, Sem.run_pure]
  first
    | exact key
    | (simp only [Program.fieldsOf, Tryd.underlying34] at key ⊢; exact key)
theorem eql_spt (w : World) (p q : Spt) : (binOp .eql 34 (.agg (sptC p)) (.agg (sptC q))).run Tryd.prog w = .ok (.bool (decide (p = q))) w := by
  rw [run_eql_struct, show (10000 : Nat) = 9997 + 1 + 1 + 1 from rfl, eqlIn_spt 9997]; rfl
theorem neq_spt (w : World) (p q : Spt) : (binOp .neq 34 (.agg (sptC p)) (.agg (sptC q))).run Tryd.prog w = .ok (.bool (!decide (p = q))) w := neq_of_eql (eql_spt w p q)
theorem spt_guard : Tryd.prog.eqGuardType Tryd.prog.depth 34 = false := by kernel_rfl
end Go.Proofs.YticbjiddbjgikaaDoor
