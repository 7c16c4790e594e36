/- Permissions (api.Perm): as values, as they come in, held against one another, stored and loaded whole. Written by mkstruct.py. -/
import Derived.Test.YticbjiddbjgikaaDoorGagg
import Derived.Test.YticbjiddbjgikaaDoorRows
import Derived.Laws.StructEq
import Derived.Laws.Tables
import Derived.Lib.SmallJoins
import Derived.ChangeArms
import Derived.OpenShut
import Derived.BigQuiet
namespace Go.Proofs.YticbjiddbjgikaaDoor
open Go.ChangeShapes Go.WideShapes Go.ChangeAt Go.RowKit Go.Joins Go.Deep
set_option linter.unusedVariables false
set_option linter.unusedSimpArgs false
set_option maxRecDepth 10000

structure Pm where
  r : Bool
  w : Bool
  x : Bool
  u : Bool
deriving DecidableEq
def Pm.ok (p : Pm) : Prop := True
def pmC (p : Pm) : Array Value := #[.bool p.r, .bool p.w, .bool p.x, .bool p.u]
theorem pmC_def (r : Bool) (w : Bool) (x : Bool) (u : Bool) : pmC ⟨r, w, x, u⟩ = #[.bool r, .bool w, .bool x, .bool u] := rfl
theorem pmC_eq (p : Pm) : pmC p = #[.bool p.r, .bool p.w, .bool p.x, .bool p.u] := rfl
theorem pmC_size (p : Pm) : (pmC p).size = 4 := rfl
theorem Blk.pm {w : World} {g : Nat} {t : TypeId} {p : Pm} (h : Blk w g t (pmC p)) : w.cell? ⟨g, 0, none⟩ = some (.bool p.r) ∧ w.cell? ⟨g, 1, none⟩ = some (.bool p.w) ∧ w.cell? ⟨g, 2, none⟩ = some (.bool p.x) ∧ w.cell? ⟨g, 3, none⟩ = some (.bool p.u) := ⟨h.cell 0, h.cell 1, h.cell 2, h.cell 3⟩
attribute [irreducible] pmC

theorem eqlIn_pm (D0 : Nat) (w : World) (p q : Pm) : (Op.equalIn (D0 + 1 + 1) 58 (.agg (pmC p)) (.agg (pmC q))).run Tryd.prog w = .ok (decide (p = q)) w := by
  have hp : Tryd.prog.stoodInHeld 58 = false := by kernel_rfl
  rw [run_equalIn_agg w _ _ _ _ (by simp [Program.fieldsOf, Tryd.underlying58]) hp, pmC_eq p, pmC_eq q]
  have hd : decide (p = q) = (p.r == q.r && (p.w == q.w && (p.x == q.x && (p.u == q.u && true)))) := by
    obtain ⟨r, w, x, u⟩ := p
    obtain ⟨r', w', x', u'⟩ := q
    rw [Bool.eq_iff_iff]
    simp
  rw [hd]
  have h_bool : ∀ a b : Bool, (Op.equalIn (D0 + 1) 4 (.bool a) (.bool b)).run Tryd.prog w = .ok (a == b) w := fun a b => run_equalIn_bool' w D0 _ _ _ Tryd.underlying4
  generalize D0 + 1 = D at h_bool ⊢
  have key : (Op.eqFields D #[.bool p.r, .bool p.w, .bool p.x, .bool p.u] #[.bool q.r, .bool q.w, .bool q.x, .bool q.u] (Program.fieldsOf Tryd.prog 58).toList).run Tryd.prog w = .ok (p.r == q.r && (p.w == q.w && (p.x == q.x && (p.u == q.u && true)))) w := by
    simp only [Program.fieldsOf, Tryd.underlying58]
    refine run_eqF ?_ (part_bool (by simp)) (part_bool (by simp)) (h_bool _ _) ?_
    · simp
    refine run_eqF ?_ (part_bool (by simp)) (part_bool (by simp)) (h_bool _ _) ?_
    · simp
    refine run_eqF ?_ (part_bool (by simp)) (part_bool (by simp)) (h_bool _ _) ?_
    · simp
    refine run_eqF ?_ (part_bool (by simp)) (part_bool (by simp)) (h_bool _ _) ?_
    · simp
    simp [Op.eqFields, Sem.run_pure]
  first
    | exact key
    | (simp only [Program.fieldsOf, Tryd.underlying58] at key ⊢; exact key)
end Go.Proofs.YticbjiddbjgikaaDoor
/- Entries and permissions (api.Pte, api.Perm): as values, as they come in, held against one another, stored and loaded whole. -/
namespace Go.Proofs.YticbjiddbjgikaaDoor
open Go.ChangeShapes Go.WideShapes Go.ChangeAt Go.RowKit Go.Joins Go.Deep
set_option linter.unusedVariables false
set_option linter.unusedSimpArgs false
set_option maxRecDepth 10000

/-- an entry -/
structure Pt where
  v : Bool
  r : Bool
  w : Bool
  x : Bool
  u : Bool
  g : Bool
  a : Bool
  d : Bool
  rs : Nat
  pp : Nat
  hi : Nat
deriving DecidableEq
def Pt.ok (p : Pt) : Prop := p.rs < 18446744073709551616 ∧ p.pp < 18446744073709551616 ∧ p.hi < 18446744073709551616
def ptC (p : Pt) : Array Value := #[.bool p.v, .bool p.r, .bool p.w, .bool p.x, .bool p.u, .bool p.g, .bool p.a, .bool p.d, .int .u64 (p.rs : Int), .int .u64 (p.pp : Int), .int .u64 (p.hi : Int)]
theorem ptC_def (v r w x u g a d : Bool) (rs pp hi : Nat) : ptC ⟨v, r, w, x, u, g, a, d, rs, pp, hi⟩ = #[.bool v, .bool r, .bool w, .bool x, .bool u, .bool g, .bool a, .bool d, .int .u64 (rs : Int), .int .u64 (pp : Int), .int .u64 (hi : Int)] := rfl
theorem ptC_eq (p : Pt) : ptC p = #[.bool p.v, .bool p.r, .bool p.w, .bool p.x, .bool p.u, .bool p.g, .bool p.a, .bool p.d, .int .u64 (p.rs : Int), .int .u64 (p.pp : Int), .int .u64 (p.hi : Int)] := rfl
theorem ptC_size (p : Pt) : (ptC p).size = 11 := rfl
theorem ptC_one (p : Pt) : (ptC p).all (·.oneCell') = true := by simp [ptC, Value.oneCell']
theorem pt_info (p : Pt) : (Tryd.prog.info? 32).map (·.size) = some (ptC p).size := by rw [ptC_size]; kernel_rfl
attribute [irreducible] ptC

section
variable {H : Type} {enc : TypeId × Value → H}
end

/-! structs held against one another -/
theorem eqlIn_pt (D0 : Nat) (w : World) (p q : Pt) : (Op.equalIn (D0 + 1 + 1) 32 (.agg (ptC p)) (.agg (ptC q))).run Tryd.prog w = .ok (decide (p = q)) w := by
  have hp : Tryd.prog.stoodInHeld 32 = false := by kernel_rfl
  rw [run_equalIn_agg w _ _ _ _ (by simp [Program.fieldsOf, Tryd.underlying32]) hp, ptC_eq p, ptC_eq q]
  simp only [Program.fieldsOf, Tryd.underlying32]
  have hd : decide (p = q) = (p.v == q.v && (p.r == q.r && (p.w == q.w && (p.x == q.x && (p.u == q.u && (p.g == q.g && (p.a == q.a && (p.d == q.d && ((p.rs : Int) == q.rs && ((p.pp : Int) == q.pp && ((p.hi : Int) == q.hi && true))))))))))) := by
    obtain ⟨v, r, w, x, u, g, a, d, rs, pp, hi⟩ := p
    obtain ⟨v', r', w', x', u', g', a', d', rs', pp', hi'⟩ := q
    rw [Bool.eq_iff_iff]
    simp
    omega
  rw [hd]
  have hi : ∀ a b : Int, (Op.equalIn (D0 + 1) 22 (.int .u64 a) (.int .u64 b)).run Tryd.prog w = .ok (a == b) w := fun a b => run_equalIn_int w D0 _ _ _ _ _ Tryd.underlying22
  have hb : ∀ a b : Bool, (Op.equalIn (D0 + 1) 4 (.bool a) (.bool b)).run Tryd.prog w = .ok (a == b) w := fun a b => run_equalIn_bool' w D0 _ _ _ Tryd.underlying4
  generalize D0 + 1 = D at hi hb ⊢
  have key : (Op.eqFields D #[.bool p.v, .bool p.r, .bool p.w, .bool p.x, .bool p.u, .bool p.g, .bool p.a, .bool p.d, .int .u64 (p.rs : Int), .int .u64 (p.pp : Int), .int .u64 (p.hi : Int)] #[.bool q.v, .bool q.r, .bool q.w, .bool q.x, .bool q.u, .bool q.g, .bool q.a, .bool q.d, .int .u64 (q.rs : Int), .int .u64 (q.pp : Int), .int .u64 (q.hi : Int)] (Program.fieldsOf Tryd.prog 32).toList).run Tryd.prog w = .ok (p.v == q.v && (p.r == q.r && (p.w == q.w && (p.x == q.x && (p.u == q.u && (p.g == q.g && (p.a == q.a && (p.d == q.d && ((p.rs : Int) == q.rs && ((p.pp : Int) == q.pp && ((p.hi : Int) == q.hi && true))))))))))) w := by
    simp only [Program.fieldsOf, Tryd.underlying32]
    refine run_eqF ?_ (part_bool (by simp)) (part_bool (by simp)) (hb _ _) ?_
    · simp
    refine run_eqF ?_ (part_bool (by simp)) (part_bool (by simp)) (hb _ _) ?_
    · simp
    refine run_eqF ?_ (part_bool (by simp)) (part_bool (by simp)) (hb _ _) ?_
    · simp
    refine run_eqF ?_ (part_bool (by simp)) (part_bool (by simp)) (hb _ _) ?_
    · simp
    refine run_eqF ?_ (part_bool (by simp)) (part_bool (by simp)) (hb _ _) ?_
    · simp
    refine run_eqF ?_ (part_bool (by simp)) (part_bool (by simp)) (hb _ _) ?_
    · simp
    refine run_eqF ?_ (part_bool (by simp)) (part_bool (by simp)) (hb _ _) ?_
    · simp
    refine run_eqF ?_ (part_bool (by simp)) (part_bool (by simp)) (hb _ _) ?_
    · simp
    refine run_eqF ?_ (part_u64 (by simp)) (part_u64 (by simp)) (hi _ _) ?_
    · simp
    refine run_eqF ?_ (part_u64 (by simp)) (part_u64 (by simp)) (hi _ _) ?_
    · simp
    refine run_eqF ?_ (part_u64 (by simp)) (part_u64 (by simp)) (hi _ _) ?_
    · simp
    simp [Op.eqFields, Sem.run_pure]
  simp only [Program.fieldsOf, Tryd.underlying32] at key
  exact key
theorem eql_pte (w : World) (p q : Pt) : (binOp .eql 32 (.agg (ptC p)) (.agg (ptC q))).run Tryd.prog w = .ok (.bool (decide (p = q))) w := by
  rw [run_eql_struct, show (10000 : Nat) = 9998 + 1 + 1 from rfl, eqlIn_pt 9998]; rfl
theorem pte_guard : Tryd.prog.eqGuardType Tryd.prog.depth 32 = false := by kernel_rfl
end Go.Proofs.YticbjiddbjgikaaDoor
/- A fault (api.Fault): as values, as they come in, held against one another, stored and loaded whole. Written by mkstruct.py. -/
namespace Go.Proofs.YticbjiddbjgikaaDoor
open Go.ChangeShapes Go.WideShapes Go.ChangeAt Go.RowKit Go.Joins Go.Deep
set_option linter.unusedVariables false
set_option linter.unusedSimpArgs false
set_option maxRecDepth 10000

structure Ft where
  b : Bool
  c : Int
  a : Nat
deriving DecidableEq
def Ft.ok (p : Ft) : Prop := (-9223372036854775808 ≤ p.c ∧ p.c ≤ 9223372036854775807) ∧ p.a < 18446744073709551616
end Go.Proofs.YticbjiddbjgikaaDoor
/- A leaf (api.Leaf): as values, held against one another, stored and loaded whole and by parts. Written by mkstruct2.py. -/
namespace Go.Proofs.YticbjiddbjgikaaDoor
open Go.ChangeShapes Go.WideShapes Go.ChangeAt Go.RowKit Go.Joins Go.Deep
set_option linter.unusedVariables false
set_option linter.unusedSimpArgs false
set_option maxRecDepth 10000

structure Lf where
  lv : Int
  at' : Nat
  pt : Pt
deriving DecidableEq
def Lf.ok (p : Lf) : Prop := (-9223372036854775808 ≤ p.lv ∧ p.lv ≤ 9223372036854775807) ∧ p.at' < 18446744073709551616 ∧ p.pt.ok
end Go.Proofs.YticbjiddbjgikaaDoor
/- Ways of access (api.Way): as values, as they come in, held against one another, stored and loaded whole. Written by mkstruct.py. -/
namespace Go.Proofs.YticbjiddbjgikaaDoor
open Go.ChangeShapes Go.WideShapes Go.ChangeAt Go.RowKit Go.Joins Go.Deep
set_option linter.unusedVariables false
set_option linter.unusedSimpArgs false
set_option maxRecDepth 10000

structure Wy where
  kd : Int
  pv : Int
  su : Bool
  mx : Bool
deriving DecidableEq
def Wy.ok (p : Wy) : Prop := (-9223372036854775808 ≤ p.kd ∧ p.kd ≤ 9223372036854775807) ∧ (-9223372036854775808 ≤ p.pv ∧ p.pv ≤ 9223372036854775807)
end Go.Proofs.YticbjiddbjgikaaDoor
