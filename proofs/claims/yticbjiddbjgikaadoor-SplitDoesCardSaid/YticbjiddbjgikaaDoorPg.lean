/- A page (api.Page): as values, held against one another, stored and loaded whole and by parts. Written by mkstruct2.py. -/
import Derived.Test.YticbjiddbjgikaaDoorGagg
import Derived.Test.YticbjiddbjgikaaDoorGst
namespace Go.Proofs.YticbjiddbjgikaaDoor
open Go.ChangeShapes Go.WideShapes Go.ChangeAt Go.RowKit Go.Joins Go.Deep
set_option linter.unusedVariables false
set_option linter.unusedSimpArgs false
set_option maxRecDepth 10000

structure Pg where
  va : Nat
  pa : Nat
  lv : Int
  pm : Pm
  st : Bool
deriving DecidableEq
def Pg.ok (p : Pg) : Prop := p.va < 18446744073709551616 ∧ p.pa < 18446744073709551616 ∧ (-9223372036854775808 ≤ p.lv ∧ p.lv ≤ 9223372036854775807) ∧ p.pm.ok
def pgC (p : Pg) : Array Value := #[.int .u64 (p.va : Int), .int .u64 (p.pa : Int), .int .i64 p.lv] ++ pmC p.pm ++ #[.bool p.st]
theorem pgC_eq (p : Pg) : pgC p = #[.int .u64 (p.va : Int), .int .u64 (p.pa : Int), .int .i64 p.lv] ++ pmC p.pm ++ #[.bool p.st] := rfl
theorem pgC_size (p : Pg) : (pgC p).size = 8 := by simp only [pgC_eq, pmC_eq]; rfl
theorem pgC_one (p : Pg) : (pgC p).all (·.oneCell') = true := by simp only [pgC_eq, pmC_eq]; simp [Value.oneCell']
theorem pg_info (p : Pg) : (Tryd.prog.info? 77).map (·.size) = some (pgC p).size := by rw [pgC_size]; kernel_rfl
theorem pgC_va (p : Pg) : (pgC p)[0]? = some (.int .u64 (p.va : Int)) := by simp only [pgC_eq, pmC_eq]; rfl
theorem pgC_pa (p : Pg) : (pgC p)[1]? = some (.int .u64 (p.pa : Int)) := by simp only [pgC_eq, pmC_eq]; rfl
theorem pgC_lv (p : Pg) : (pgC p)[2]? = some (.int .i64 p.lv) := by simp only [pgC_eq, pmC_eq]; rfl
theorem pgC_pm (p : Pg) : (pgC p).extract 3 (3 + (pmC p.pm).size) = pmC p.pm := by rw [pmC_size]; simp only [pgC_eq, pmC_eq]; kernel_rfl
theorem pgC_st (p : Pg) : (pgC p)[7]? = some (.bool p.st) := by simp only [pgC_eq, pmC_eq]; rfl
theorem pg_build (p : Pg) : Tryd.prog.built 77 [(0, .int .u64 (p.va : Int)), (1, .int .u64 (p.pa : Int)), (2, .int .i64 p.lv), (3, .agg (pmC p.pm)), (4, .bool p.st)] = some (pgC p) := by simp only [pgC_eq, pmC_eq]; kernel_rfl
attribute [irreducible] pgC

theorem eqlIn_pg (D0 : Nat) (w : World) (p q : Pg) : (Op.equalIn (D0 + 1 + 1 + 1) 77 (.agg (pgC p)) (.agg (pgC q))).run Tryd.prog w = .ok (decide (p = q)) w := by
  have hp : Tryd.prog.stoodInHeld 77 = false := by kernel_rfl
  rw [run_equalIn_agg w _ _ _ _ (by simp [Program.fieldsOf, Tryd.underlying77]) hp]
  have hd : decide (p = q) = ((p.va : Int) == q.va && ((p.pa : Int) == q.pa && (p.lv == q.lv && (decide (p.pm = q.pm) && (p.st == q.st && true))))) := by
    obtain ⟨va, pa, lv, pm, st⟩ := p
    obtain ⟨va', pa', lv', pm', st'⟩ := q
    rw [Bool.eq_iff_iff]
    simp
    try (first | omega | (intros; simp only [Int.natCast_inj]))
  rw [hd]
  have h_u64 : ∀ a b : Int, (Op.equalIn (D0 + 1 + 1) 22 (.int .u64 a) (.int .u64 b)).run Tryd.prog w = .ok (a == b) w := fun a b => run_equalIn_int w (D0 + 1) _ _ _ _ _ Tryd.underlying22
  have h_i64 : ∀ a b : Int, (Op.equalIn (D0 + 1 + 1) 3 (.int .i64 a) (.int .i64 b)).run Tryd.prog w = .ok (a == b) w := fun a b => run_equalIn_int w (D0 + 1) _ _ _ _ _ Tryd.underlying3
  have h_pm : ∀ a b : Pm, (Op.equalIn (D0 + 1 + 1) 58 (.agg (pmC a)) (.agg (pmC b))).run Tryd.prog w = .ok (decide (a = b)) w := fun a b => eqlIn_pm (D0) w a b
  have h_bool : ∀ a b : Bool, (Op.equalIn (D0 + 1 + 1) 4 (.bool a) (.bool b)).run Tryd.prog w = .ok (a == b) w := fun a b => run_equalIn_bool' w (D0 + 1) _ _ _ Tryd.underlying4
  generalize D0 + 1 + 1 = D at h_u64 h_i64 h_pm h_bool ⊢
  have key : (Op.eqFields D (pgC p) (pgC q) (Program.fieldsOf Tryd.prog 77).toList).run Tryd.prog w = .ok ((p.va : Int) == q.va && ((p.pa : Int) == q.pa && (p.lv == q.lv && (decide (p.pm = q.pm) && (p.st == q.st && true))))) w := by
    simp only [Program.fieldsOf, Tryd.underlying77]
    refine run_eqF ?_ (part_u64 (pgC_va p)) (part_u64 (pgC_va q)) (h_u64 _ _) ?_
    · simp
    refine run_eqF ?_ (part_u64 (pgC_pa p)) (part_u64 (pgC_pa q)) (h_u64 _ _) ?_
    · simp
    refine run_eqF ?_ (part_int Tryd.underlying3 (pgC_lv p)) (part_int Tryd.underlying3 (pgC_lv q)) (h_i64 _ _) ?_
    · simp
    refine run_eqF ?_ (part_agg Tryd.underlying58 rfl (by rw [pmC_size]; kernel_rfl) (pgC_pm p)) (part_agg Tryd.underlying58 rfl (by rw [pmC_size]; kernel_rfl) (pgC_pm q)) (h_pm _ _) ?_
    · simp
    refine run_eqF ?_ (part_bool (pgC_st p)) (part_bool (pgC_st q)) (h_bool _ _) ?_
    · simp
    simp [Op.eqFields, Sem.run_pure]
  first
    | exact key
    | (simp only [Program.fieldsOf, Tryd.underlying77] at key ⊢; exact key)
theorem eql_pg (w : World) (p q : Pg) : (binOp .eql 77 (.agg (pgC p)) (.agg (pgC q))).run Tryd.prog w = .ok (.bool (decide (p = q))) w := by
  rw [run_eql_struct, show (10000 : Nat) = 9997 + 1 + 1 + 1 from rfl, eqlIn_pg 9997]; rfl
theorem neq_pg (w : World) (p q : Pg) : (binOp .neq 77 (.agg (pgC p)) (.agg (pgC q))).run Tryd.prog w = .ok (.bool (!decide (p = q))) w := neq_of_eql (eql_pg w p q)
theorem pg_guard : Tryd.prog.eqGuardType Tryd.prog.depth 77 = false := by kernel_rfl
end Go.Proofs.YticbjiddbjgikaaDoor
