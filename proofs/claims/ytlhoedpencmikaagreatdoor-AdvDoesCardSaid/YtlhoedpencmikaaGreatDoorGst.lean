/- Permissions (api.Perm): as values, as they come in, held against one another, stored and loaded whole. Written by mkstruct.py. -/
import Derived.Test.YtlhoedpencmikaaGreatDoorGagg
import Derived.Test.YtlhoedpencmikaaGreatDoorRows
import Derived.Laws.StructEq
import Derived.Laws.Tables
import Derived.Lib.SmallJoins
import Derived.ChangeArms
import Derived.OpenShut
import Derived.BigQuiet
namespace Go.Proofs.YtlhoedpencmikaaGreatDoor
open Go.ChangeShapes Go.WideShapes Go.ChangeAt Go.RowKit Go.Joins Go.Deep
set_option linter.unusedVariables false
set_option linter.unusedSimpArgs false
set_option maxRecDepth 10000

structure Pm where
  r : Bool
  w : Bool
  x : Bool
  u : Bool
deriving DecidableEq
def Pm.ok (p : Pm) : Prop := True
def pmC (p : Pm) : Array Value := #[.bool p.r, .bool p.w, .bool p.x, .bool p.u]
theorem pmC_def (r : Bool) (w : Bool) (x : Bool) (u : Bool) : pmC ⟨r, w, x, u⟩ = #[.bool r, .bool w, .bool x, .bool u] := rfl
theorem pmC_eq (p : Pm) : pmC p = #[.bool p.r, .bool p.w, .bool p.x, .bool p.u] := rfl
theorem pmC_size (p : Pm) : (pmC p).size = 4 := rfl
theorem pmC_one (p : Pm) : (pmC p).all (·.oneCell') = true := by simp [pmC, Value.oneCell']
theorem pm_info (p : Pm) : (Tryz.prog.info? 64).map (·.size) = some (pmC p).size := by rw [pmC_size]; kernel_rfl
theorem Blk.pm {w : World} {g : Nat} {t : TypeId} {p : Pm} (h : Blk w g t (pmC p)) : w.cell? ⟨g, 0, none⟩ = some (.bool p.r) ∧ w.cell? ⟨g, 1, none⟩ = some (.bool p.w) ∧ w.cell? ⟨g, 2, none⟩ = some (.bool p.x) ∧ w.cell? ⟨g, 3, none⟩ = some (.bool p.u) := ⟨h.cell 0, h.cell 1, h.cell 2, h.cell 3⟩
attribute [irreducible] pmC

theorem eqlIn_pm (D0 : Nat) (w : World) (p q : Pm) : (Op.equalIn (D0 + 1 + 1) 64 (.agg (pmC p)) (.agg (pmC q))).run Tryz.prog w = .ok (decide (p = q)) w := by
  have hp : Tryz.prog.stoodInHeld 64 = false := by kernel_rfl
  rw [run_equalIn_agg w _ _ _ _ (by simp [Program.fieldsOf, Tryz.underlying64]) hp, pmC_eq p, pmC_eq q]
  have hd : decide (p = q) = (p.r == q.r && (p.w == q.w && (p.x == q.x && (p.u == q.u && true)))) := by
    obtain ⟨r, w, x, u⟩ := p
    obtain ⟨r', w', x', u'⟩ := q
    rw [Bool.eq_iff_iff]
    simp
  rw [hd]
  have h_bool : ∀ a b : Bool, (Op.equalIn (D0 + 1) 4 (.bool a) (.bool b)).run Tryz.prog w = .ok (a == b) w := fun a b => run_equalIn_bool' w D0 _ _ _ Tryz.underlying4
  generalize D0 + 1 = D at h_bool ⊢
  have key : (Op.eqFields D #[.bool p.r, .bool p.w, .bool p.x, .bool p.u] #[.bool q.r, .bool q.w, .bool q.x, .bool q.u] (Program.fieldsOf Tryz.prog 64).toList).run Tryz.prog w = .ok (p.r == q.r && (p.w == q.w && (p.x == q.x && (p.u == q.u && true)))) w := by
    simp only [Program.fieldsOf, Tryz.underlying64]
    refine run_eqF ?_ (part_bool (by simp)) (part_bool (by simp)) (h_bool _ _) ?_
    · simp
    refine run_eqF ?_ (part_bool (by simp)) (part_bool (by simp)) (h_bool _ _) ?_
    · simp
    refine run_eqF ?_ (part_bool (by simp)) (part_bool (by simp)) (h_bool _ _) ?_
    · simp
    refine run_eqF ?_ (part_bool (by simp)) (part_bool (by simp)) (h_bool _ _) ?_
    · simp
    simp [Op.eqFields, Sem.run_pure]
  first
    | exact key
    | (simp only [Program.fieldsOf, Tryz.underlying64] at key ⊢; exact key)
end Go.Proofs.YtlhoedpencmikaaGreatDoor
/- Entries and permissions (api.Pte, api.Perm): as values, as they come in, held against one another, stored and loaded whole. -/
namespace Go.Proofs.YtlhoedpencmikaaGreatDoor
open Go.ChangeShapes Go.WideShapes Go.ChangeAt Go.RowKit Go.Joins Go.Deep
set_option linter.unusedVariables false
set_option linter.unusedSimpArgs false
set_option maxRecDepth 10000

/-- an entry -/
structure Pt where
  v : Bool
  r : Bool
  w : Bool
  x : Bool
  u : Bool
  g : Bool
  a : Bool
  d : Bool
  rs : Nat
  pp : Nat
  hi : Nat
deriving DecidableEq
def Pt.ok (p : Pt) : Prop := p.rs < 18446744073709551616 ∧ p.pp < 18446744073709551616 ∧ p.hi < 18446744073709551616
def ptC (p : Pt) : Array Value := #[.bool p.v, .bool p.r, .bool p.w, .bool p.x, .bool p.u, .bool p.g, .bool p.a, .bool p.d, .int .u64 (p.rs : Int), .int .u64 (p.pp : Int), .int .u64 (p.hi : Int)]
theorem ptC_def (v r w x u g a d : Bool) (rs pp hi : Nat) : ptC ⟨v, r, w, x, u, g, a, d, rs, pp, hi⟩ = #[.bool v, .bool r, .bool w, .bool x, .bool u, .bool g, .bool a, .bool d, .int .u64 (rs : Int), .int .u64 (pp : Int), .int .u64 (hi : Int)] := rfl
theorem ptC_eq (p : Pt) : ptC p = #[.bool p.v, .bool p.r, .bool p.w, .bool p.x, .bool p.u, .bool p.g, .bool p.a, .bool p.d, .int .u64 (p.rs : Int), .int .u64 (p.pp : Int), .int .u64 (p.hi : Int)] := rfl
theorem ptC_size (p : Pt) : (ptC p).size = 11 := rfl
theorem ptC_one (p : Pt) : (ptC p).all (·.oneCell') = true := by simp [ptC, Value.oneCell']
theorem pt_info (p : Pt) : (Tryz.prog.info? 73).map (·.size) = some (ptC p).size := by rw [ptC_size]; kernel_rfl
attribute [irreducible] ptC

section
variable {H : Type} {enc : TypeId × Value → H}
end

/-! structs held against one another -/
theorem eqlIn_pt (D0 : Nat) (w : World) (p q : Pt) : (Op.equalIn (D0 + 1 + 1) 73 (.agg (ptC p)) (.agg (ptC q))).run Tryz.prog w = .ok (decide (p = q)) w := by
  have hp : Tryz.prog.stoodInHeld 73 = false := by kernel_rfl
  rw [run_equalIn_agg w _ _ _ _ (by simp [Program.fieldsOf, Tryz.underlying73]) hp, ptC_eq p, ptC_eq q]
  simp only [Program.fieldsOf, Tryz.underlying73]
  have hd : decide (p = q) = (p.v == q.v && (p.r == q.r && (p.w == q.w && (p.x == q.x && (p.u == q.u && (p.g == q.g && (p.a == q.a && (p.d == q.d && ((p.rs : Int) == q.rs && ((p.pp : Int) == q.pp && ((p.hi : Int) == q.hi && true))))))))))) := by
    obtain ⟨v, r, w, x, u, g, a, d, rs, pp, hi⟩ := p
    obtain ⟨v', r', w', x', u', g', a', d', rs', pp', hi'⟩ := q
    rw [Bool.eq_iff_iff]
    simp
    omega
  rw [hd]
  have hi : ∀ a b : Int, (Op.equalIn (D0 + 1) 25 (.int .u64 a) (.int .u64 b)).run Tryz.prog w = .ok (a == b) w := fun a b => run_equalIn_int w D0 _ _ _ _ _ Tryz.underlying25
  have hb : ∀ a b : Bool, (Op.equalIn (D0 + 1) 4 (.bool a) (.bool b)).run Tryz.prog w = .ok (a == b) w := fun a b => run_equalIn_bool' w D0 _ _ _ Tryz.underlying4
  generalize D0 + 1 = D at hi hb ⊢
  have key : (Op.eqFields D #[.bool p.v, .bool p.r, .bool p.w, .bool p.x, .bool p.u, .bool p.g, .bool p.a, .bool p.d, .int .u64 (p.rs : Int), .int .u64 (p.pp : Int), .int .u64 (p.hi : Int)] #[.bool q.v, .bool q.r, .bool q.w, .bool q.x, .bool q.u, .bool q.g, .bool q.a, .bool q.d, .int .u64 (q.rs : Int), .int .u64 (q.pp : Int), .int .u64 (q.hi : Int)] (Program.fieldsOf Tryz.prog 73).toList).run Tryz.prog w = .ok (p.v == q.v && (p.r == q.r && (p.w == q.w && (p.x == q.x && (p.u == q.u && (p.g == q.g && (p.a == q.a && (p.d == q.d && ((p.rs : Int) == q.rs && ((p.pp : Int) == q.pp && ((p.hi : Int) == q.hi && true))))))))))) w := by
    simp only [Program.fieldsOf, Tryz.underlying73]
    refine run_eqF ?_ (part_bool (by simp)) (part_bool (by simp)) (hb _ _) ?_
    · simp
    refine run_eqF ?_ (part_bool (by simp)) (part_bool (by simp)) (hb _ _) ?_
    · simp
    refine run_eqF ?_ (part_bool (by simp)) (part_bool (by simp)) (hb _ _) ?_
    · simp
    refine run_eqF ?_ (part_bool (by simp)) (part_bool (by simp)) (hb _ _) ?_
    · simp
    refine run_eqF ?_ (part_bool (by simp)) (part_bool (by simp)) (hb _ _) ?_
    · simp
    refine run_eqF ?_ (part_bool (by simp)) (part_bool (by simp)) (hb _ _) ?_
    · simp
    refine run_eqF ?_ (part_bool (by simp)) (part_bool (by simp)) (hb _ _) ?_
    · simp
    refine run_eqF ?_ (part_bool (by simp)) (part_bool (by simp)) (hb _ _) ?_
    · simp
    refine run_eqF ?_ (part_u64 (by simp)) (part_u64 (by simp)) (hi _ _) ?_
    · simp
    refine run_eqF ?_ (part_u64 (by simp)) (part_u64 (by simp)) (hi _ _) ?_
    · simp
    refine run_eqF ?_ (part_u64 (by simp)) (part_u64 (by simp)) (hi _ _) ?_
    · simp
    simp [Op.eqFields, Sem.run_pure]
  simp only [Program.fieldsOf, Tryz.underlying73] at key
  exact key
end Go.Proofs.YtlhoedpencmikaaGreatDoor
/- A fault (api.Fault): as values, as they come in, held against one another, stored and loaded whole. Written by mkstruct.py. -/
namespace Go.Proofs.YtlhoedpencmikaaGreatDoor
open Go.ChangeShapes Go.WideShapes Go.ChangeAt Go.RowKit Go.Joins Go.Deep
set_option linter.unusedVariables false
set_option linter.unusedSimpArgs false
set_option maxRecDepth 10000

structure Ft where
  b : Bool
  c : Int
  a : Nat
deriving DecidableEq
def Ft.ok (p : Ft) : Prop := (-9223372036854775808 ≤ p.c ∧ p.c ≤ 9223372036854775807) ∧ p.a < 18446744073709551616
def ftC (p : Ft) : Array Value := #[.bool p.b, .int .i64 p.c, .int .u64 (p.a : Int)]
theorem ftC_def (b : Bool) (c : Int) (a : Nat) : ftC ⟨b, c, a⟩ = #[.bool b, .int .i64 c, .int .u64 (a : Int)] := rfl
theorem ftC_eq (p : Ft) : ftC p = #[.bool p.b, .int .i64 p.c, .int .u64 (p.a : Int)] := rfl
theorem ftC_size (p : Ft) : (ftC p).size = 3 := rfl
theorem ftC_one (p : Ft) : (ftC p).all (·.oneCell') = true := by simp [ftC, Value.oneCell']
theorem ft_info (p : Ft) : (Tryz.prog.info? 54).map (·.size) = some (ftC p).size := by rw [ftC_size]; kernel_rfl
theorem Blk.ft {w : World} {g : Nat} {t : TypeId} {p : Ft} (h : Blk w g t (ftC p)) : w.cell? ⟨g, 0, none⟩ = some (.bool p.b) ∧ w.cell? ⟨g, 1, none⟩ = some (.int .i64 p.c) ∧ w.cell? ⟨g, 2, none⟩ = some (.int .u64 (p.a : Int)) := ⟨h.cell 0, h.cell 1, h.cell 2⟩
attribute [irreducible] ftC

theorem eql_ft (w : World) (p q : Ft) : (binOp .eql 54 (.agg (ftC p)) (.agg (ftC q))).run Tryz.prog w = .ok (.bool (decide (p = q))) w := by
  have hp : Tryz.prog.stoodInHeld 54 = false := by kernel_rfl
  rw [run_eql_struct, show (10000 : Nat) = 9998 + 1 + 1 from rfl, run_equalIn_agg w _ _ _ _ (by simp [Program.fieldsOf, Tryz.underlying54]) hp, ftC_eq p, ftC_eq q]
  have hd : decide (p = q) = (p.b == q.b && (p.c == q.c && ((p.a : Int) == q.a && true))) := by
    obtain ⟨b, c, a⟩ := p
    obtain ⟨b', c', a'⟩ := q
    rw [Bool.eq_iff_iff]
    simp
    omega
  rw [hd]
  have h_bool : ∀ a b : Bool, (Op.equalIn (9998 + 1) 4 (.bool a) (.bool b)).run Tryz.prog w = .ok (a == b) w := fun a b => run_equalIn_bool' w 9998 _ _ _ Tryz.underlying4
  have h_i64 : ∀ a b : Int, (Op.equalIn (9998 + 1) 3 (.int .i64 a) (.int .i64 b)).run Tryz.prog w = .ok (a == b) w := fun a b => run_equalIn_int w 9998 _ _ _ _ _ Tryz.underlying3
  have h_u64 : ∀ a b : Int, (Op.equalIn (9998 + 1) 25 (.int .u64 a) (.int .u64 b)).run Tryz.prog w = .ok (a == b) w := fun a b => run_equalIn_int w 9998 _ _ _ _ _ Tryz.underlying25
  generalize 9998 + 1 = D at h_bool h_i64 h_u64 ⊢
  have key : (Op.eqFields D #[.bool p.b, .int .i64 p.c, .int .u64 (p.a : Int)] #[.bool q.b, .int .i64 q.c, .int .u64 (q.a : Int)] (Program.fieldsOf Tryz.prog 54).toList).run Tryz.prog w = .ok (p.b == q.b && (p.c == q.c && ((p.a : Int) == q.a && true))) w := by
    simp only [Program.fieldsOf, Tryz.underlying54]
    refine run_eqF ?_ (part_bool (by simp)) (part_bool (by simp)) (h_bool _ _) ?_
    · simp
    refine run_eqF ?_ (part_int Tryz.underlying3 (by simp)) (part_int Tryz.underlying3 (by simp)) (h_i64 _ _) ?_
    · simp
    refine run_eqF ?_ (part_u64 (by simp)) (part_u64 (by simp)) (h_u64 _ _) ?_
    · simp
    simp [Op.eqFields, Sem.run_pure]
  first
    | (rw [key]; rfl)
    | (simp only [Program.fieldsOf, Tryz.underlying54] at key ⊢; rw [key]; rfl)
theorem neq_ft (w : World) (p q : Ft) : (binOp .neq 54 (.agg (ftC p)) (.agg (ftC q))).run Tryz.prog w = .ok (.bool (!decide (p = q))) w := neq_of_eql (eql_ft w p q)
theorem ft_guard : Tryz.prog.eqGuardType Tryz.prog.depth 54 = false := by kernel_rfl
end Go.Proofs.YtlhoedpencmikaaGreatDoor
/- A leaf (api.Leaf): as values, held against one another, stored and loaded whole and by parts. Written by mkstruct2.py. -/
namespace Go.Proofs.YtlhoedpencmikaaGreatDoor
open Go.ChangeShapes Go.WideShapes Go.ChangeAt Go.RowKit Go.Joins Go.Deep
set_option linter.unusedVariables false
set_option linter.unusedSimpArgs false
set_option maxRecDepth 10000

structure Lf where
  lv : Int
  at' : Nat
  pt : Pt
deriving DecidableEq
def Lf.ok (p : Lf) : Prop := (-9223372036854775808 ≤ p.lv ∧ p.lv ≤ 9223372036854775807) ∧ p.at' < 18446744073709551616 ∧ p.pt.ok
def lfC (p : Lf) : Array Value := #[.int .i64 p.lv, .int .u64 (p.at' : Int)] ++ ptC p.pt
theorem lfC_def (lv : Int) (at' : Nat) (pt : Pt) : lfC ⟨lv, at', pt⟩ = #[.int .i64 lv, .int .u64 (at' : Int)] ++ ptC pt := rfl
theorem lfC_eq (p : Lf) : lfC p = #[.int .i64 p.lv, .int .u64 (p.at' : Int)] ++ ptC p.pt := rfl
theorem lfC_size (p : Lf) : (lfC p).size = 13 := by simp only [lfC_eq, ptC_eq]; rfl
theorem lfC_one (p : Lf) : (lfC p).all (·.oneCell') = true := by simp only [lfC_eq, ptC_eq]; simp [Value.oneCell']
theorem lf_info (p : Lf) : (Tryz.prog.info? 75).map (·.size) = some (lfC p).size := by rw [lfC_size]; kernel_rfl
theorem lfC_lv (p : Lf) : (lfC p)[0]? = some (.int .i64 p.lv) := by simp only [lfC_eq, ptC_eq]; rfl
theorem lfC_at' (p : Lf) : (lfC p)[1]? = some (.int .u64 (p.at' : Int)) := by simp only [lfC_eq, ptC_eq]; rfl
theorem lfC_pt (p : Lf) : (lfC p).extract 2 (2 + (ptC p.pt).size) = ptC p.pt := by rw [ptC_size]; simp only [lfC_eq, ptC_eq]; kernel_rfl
theorem lfC_set_pt (p : Lf) (q : Pt) : putAt (lfC p) 2 (ptC q).toList = lfC { p with pt := q } := by simp only [lfC_eq, ptC_eq]; kernel_rfl
theorem Blk.lf_lv {w : World} {g : Nat} {t : TypeId} {p : Lf} (h : Blk w g t (lfC p)) : w.cell? ⟨g, 0, none⟩ = some (.int .i64 p.lv) := (h.cell 0).trans (lfC_lv p)
theorem Blk.lf_pt {w : World} {g : Nat} {t : TypeId} {p : Lf} (h : Blk w g t (lfC p)) : w.rangeAt g 2 (ptC p.pt).toList := h.part 2 (lfC_pt p)
theorem lf_build (p : Lf) : Tryz.prog.built 75 [(0, .int .i64 p.lv), (1, .int .u64 (p.at' : Int)), (2, .agg (ptC p.pt))] = some (lfC p) := by simp only [lfC_eq, ptC_eq]; kernel_rfl
attribute [irreducible] lfC

theorem eqlIn_lf (D0 : Nat) (w : World) (p q : Lf) : (Op.equalIn (D0 + 1 + 1 + 1) 75 (.agg (lfC p)) (.agg (lfC q))).run Tryz.prog w = .ok (decide (p = q)) w := by
  have hp : Tryz.prog.stoodInHeld 75 = false := by kernel_rfl
  rw [run_equalIn_agg w _ _ _ _ (by simp [Program.fieldsOf, Tryz.underlying75]) hp]
  have hd : decide (p = q) = (p.lv == q.lv && ((p.at' : Int) == q.at' && (decide (p.pt = q.pt) && true))) := by
    obtain ⟨lv, at', pt⟩ := p
    obtain ⟨lv', at'', pt'⟩ := q
    rw [Bool.eq_iff_iff]
    simp
    omega
  rw [hd]
  have h_i64 : ∀ a b : Int, (Op.equalIn (D0 + 1 + 1) 3 (.int .i64 a) (.int .i64 b)).run Tryz.prog w = .ok (a == b) w := fun a b => run_equalIn_int w (D0 + 1) _ _ _ _ _ Tryz.underlying3
  have h_u64 : ∀ a b : Int, (Op.equalIn (D0 + 1 + 1) 25 (.int .u64 a) (.int .u64 b)).run Tryz.prog w = .ok (a == b) w := fun a b => run_equalIn_int w (D0 + 1) _ _ _ _ _ Tryz.underlying25
  have h_pt : ∀ a b : Pt, (Op.equalIn (D0 + 1 + 1) 73 (.agg (ptC a)) (.agg (ptC b))).run Tryz.prog w = .ok (decide (a = b)) w := fun a b => eqlIn_pt (D0) w a b
  generalize D0 + 1 + 1 = D at h_i64 h_u64 h_pt ⊢
  have key : (Op.eqFields D (lfC p) (lfC q) (Program.fieldsOf Tryz.prog 75).toList).run Tryz.prog w = .ok (p.lv == q.lv && ((p.at' : Int) == q.at' && (decide (p.pt = q.pt) && true))) w := by
    simp only [Program.fieldsOf, Tryz.underlying75]
    refine run_eqF ?_ (part_int Tryz.underlying3 (lfC_lv p)) (part_int Tryz.underlying3 (lfC_lv q)) (h_i64 _ _) ?_
    · simp
    refine run_eqF ?_ (part_u64 (lfC_at' p)) (part_u64 (lfC_at' q)) (h_u64 _ _) ?_
    · simp
    refine run_eqF ?_ (part_agg Tryz.underlying73 rfl (by rw [ptC_size]; kernel_rfl) (lfC_pt p)) (part_agg Tryz.underlying73 rfl (by rw [ptC_size]; kernel_rfl) (lfC_pt q)) (h_pt _ _) ?_
    · simp
    simp [Op.eqFields, Sem.run_pure]
  first
    | exact key
    | (simp only [Program.fieldsOf, Tryz.underlying75] at key ⊢; exact key)
theorem eql_lf (w : World) (p q : Lf) : (binOp .eql 75 (.agg (lfC p)) (.agg (lfC q))).run Tryz.prog w = .ok (.bool (decide (p = q))) w := by
  rw [run_eql_struct, show (10000 : Nat) = 9997 + 1 + 1 + 1 from rfl, eqlIn_lf 9997]; rfl
theorem neq_lf (w : World) (p q : Lf) : (binOp .neq 75 (.agg (lfC p)) (.agg (lfC q))).run Tryz.prog w = .ok (.bool (!decide (p = q))) w := neq_of_eql (eql_lf w p q)
theorem lf_guard : Tryz.prog.eqGuardType Tryz.prog.depth 75 = false := by kernel_rfl
end Go.Proofs.YtlhoedpencmikaaGreatDoor
/- Ways of access (api.Way): as values, as they come in, held against one another, stored and loaded whole. Written by mkstruct.py. -/
namespace Go.Proofs.YtlhoedpencmikaaGreatDoor
open Go.ChangeShapes Go.WideShapes Go.ChangeAt Go.RowKit Go.Joins Go.Deep
set_option linter.unusedVariables false
set_option linter.unusedSimpArgs false
set_option maxRecDepth 10000

structure Wy where
  kd : Int
  pv : Int
  su : Bool
  mx : Bool
deriving DecidableEq
def Wy.ok (p : Wy) : Prop := (-9223372036854775808 ≤ p.kd ∧ p.kd ≤ 9223372036854775807) ∧ (-9223372036854775808 ≤ p.pv ∧ p.pv ≤ 9223372036854775807)
def wyC (p : Wy) : Array Value := #[.int .i64 p.kd, .int .i64 p.pv, .bool p.su, .bool p.mx]
theorem wyC_def (kd : Int) (pv : Int) (su : Bool) (mx : Bool) : wyC ⟨kd, pv, su, mx⟩ = #[.int .i64 kd, .int .i64 pv, .bool su, .bool mx] := rfl
theorem wyC_eq (p : Wy) : wyC p = #[.int .i64 p.kd, .int .i64 p.pv, .bool p.su, .bool p.mx] := rfl
theorem wyC_size (p : Wy) : (wyC p).size = 4 := rfl
theorem wy_info (p : Wy) : (Tryz.prog.info? 95).map (·.size) = some (wyC p).size := by rw [wyC_size]; kernel_rfl
theorem Blk.wy {w : World} {g : Nat} {t : TypeId} {p : Wy} (h : Blk w g t (wyC p)) : w.cell? ⟨g, 0, none⟩ = some (.int .i64 p.kd) ∧ w.cell? ⟨g, 1, none⟩ = some (.int .i64 p.pv) ∧ w.cell? ⟨g, 2, none⟩ = some (.bool p.su) ∧ w.cell? ⟨g, 3, none⟩ = some (.bool p.mx) := ⟨h.cell 0, h.cell 1, h.cell 2, h.cell 3⟩
attribute [irreducible] wyC

end Go.Proofs.YtlhoedpencmikaaGreatDoor
/- Registers (api.Satp): as values, as they come in, held against one another, stored and loaded whole. Written by mkstruct.py. -/
namespace Go.Proofs.YtlhoedpencmikaaGreatDoor
open Go.ChangeShapes Go.WideShapes Go.ChangeAt Go.RowKit Go.Joins Go.Deep
set_option linter.unusedVariables false
set_option linter.unusedSimpArgs false
set_option maxRecDepth 10000

structure Sp where
  md : Nat
  ai : Nat
  pp : Nat
deriving DecidableEq
def Sp.ok (p : Sp) : Prop := p.md < 18446744073709551616 ∧ p.ai < 18446744073709551616 ∧ p.pp < 18446744073709551616
def spC (p : Sp) : Array Value := #[.int .u64 (p.md : Int), .int .u64 (p.ai : Int), .int .u64 (p.pp : Int)]
theorem spC_def (md : Nat) (ai : Nat) (pp : Nat) : spC ⟨md, ai, pp⟩ = #[.int .u64 (md : Int), .int .u64 (ai : Int), .int .u64 (pp : Int)] := rfl
theorem spC_eq (p : Sp) : spC p = #[.int .u64 (p.md : Int), .int .u64 (p.ai : Int), .int .u64 (p.pp : Int)] := rfl
theorem spC_size (p : Sp) : (spC p).size = 3 := rfl
theorem sp_info (p : Sp) : (Tryz.prog.info? 27).map (·.size) = some (spC p).size := by rw [spC_size]; kernel_rfl
theorem Blk.sp {w : World} {g : Nat} {t : TypeId} {p : Sp} (h : Blk w g t (spC p)) : w.cell? ⟨g, 0, none⟩ = some (.int .u64 (p.md : Int)) ∧ w.cell? ⟨g, 1, none⟩ = some (.int .u64 (p.ai : Int)) ∧ w.cell? ⟨g, 2, none⟩ = some (.int .u64 (p.pp : Int)) := ⟨h.cell 0, h.cell 1, h.cell 2⟩
attribute [irreducible] spC

theorem eql_sp (w : World) (p q : Sp) : (binOp .eql 27 (.agg (spC p)) (.agg (spC q))).run Tryz.prog w = .ok (.bool (decide (p = q))) w := by
  have hp : Tryz.prog.stoodInHeld 27 = false := by kernel_rfl
  rw [run_eql_struct, show (10000 : Nat) = 9998 + 1 + 1 from rfl, run_equalIn_agg w _ _ _ _ (by simp [Program.fieldsOf, Tryz.underlying27]) hp, spC_eq p, spC_eq q]
  have hd : decide (p = q) = ((p.md : Int) == q.md && ((p.ai : Int) == q.ai && ((p.pp : Int) == q.pp && true))) := by
    obtain ⟨md, ai, pp⟩ := p
    obtain ⟨md', ai', pp'⟩ := q
    rw [Bool.eq_iff_iff]
    simp
    omega
  rw [hd]
  have h_u64 : ∀ a b : Int, (Op.equalIn (9998 + 1) 25 (.int .u64 a) (.int .u64 b)).run Tryz.prog w = .ok (a == b) w := fun a b => run_equalIn_int w 9998 _ _ _ _ _ Tryz.underlying25
  generalize 9998 + 1 = D at h_u64 ⊢
  have key : (Op.eqFields D #[.int .u64 (p.md : Int), .int .u64 (p.ai : Int), .int .u64 (p.pp : Int)] #[.int .u64 (q.md : Int), .int .u64 (q.ai : Int), .int .u64 (q.pp : Int)] (Program.fieldsOf Tryz.prog 27).toList).run Tryz.prog w = .ok ((p.md : Int) == q.md && ((p.ai : Int) == q.ai && ((p.pp : Int) == q.pp && true))) w := by
    simp only [Program.fieldsOf, Tryz.underlying27]
    refine run_eqF ?_ (part_u64 (by simp)) (part_u64 (by simp)) (h_u64 _ _) ?_
    · simp
    refine run_eqF ?_ (part_u64 (by simp)) (part_u64 (by simp)) (h_u64 _ _) ?_
    · simp
    refine run_eqF ?_ (part_u64 (by simp)) (part_u64 (by simp)) (h_u64 _ _) ?_
    · simp
    simp [Op.eqFields, Sem.run_pure]
  first
    | (rw [key]; rfl)
    | (simp only [Program.fieldsOf, Tryz.underlying27] at key ⊢; rw [key]; rfl)
theorem sp_guard : Tryz.prog.eqGuardType Tryz.prog.depth 27 = false := by kernel_rfl
end Go.Proofs.YtlhoedpencmikaaGreatDoor
/- An entry of the buffer (api.Entry): as values, held against one another, stored and loaded whole and by parts. Written by mkstruct2.py. -/
namespace Go.Proofs.YtlhoedpencmikaaGreatDoor
open Go.ChangeShapes Go.WideShapes Go.ChangeAt Go.RowKit Go.Joins Go.Deep
set_option linter.unusedVariables false
set_option linter.unusedSimpArgs false
set_option maxRecDepth 10000

structure En where
  v : Bool
  n : Nat
  g : Bool
  l : Int
  vp : Nat
  pp : Nat
  pm : Pm
  d : Bool
deriving DecidableEq
def En.ok (p : En) : Prop := p.n < 18446744073709551616 ∧ (-9223372036854775808 ≤ p.l ∧ p.l ≤ 9223372036854775807) ∧ p.vp < 18446744073709551616 ∧ p.pp < 18446744073709551616 ∧ p.pm.ok
def enC (p : En) : Array Value := #[.bool p.v, .int .u64 (p.n : Int), .bool p.g, .int .i64 p.l, .int .u64 (p.vp : Int), .int .u64 (p.pp : Int)] ++ pmC p.pm ++ #[.bool p.d]
theorem enC_def (v : Bool) (n : Nat) (g : Bool) (l : Int) (vp : Nat) (pp : Nat) (pm : Pm) (d : Bool) : enC ⟨v, n, g, l, vp, pp, pm, d⟩ = #[.bool v, .int .u64 (n : Int), .bool g, .int .i64 l, .int .u64 (vp : Int), .int .u64 (pp : Int)] ++ pmC pm ++ #[.bool d] := rfl
theorem enC_eq (p : En) : enC p = #[.bool p.v, .int .u64 (p.n : Int), .bool p.g, .int .i64 p.l, .int .u64 (p.vp : Int), .int .u64 (p.pp : Int)] ++ pmC p.pm ++ #[.bool p.d] := rfl
theorem enC_size (p : En) : (enC p).size = 11 := by simp only [enC_eq, pmC_eq]; rfl
theorem enC_one (p : En) : (enC p).all (·.oneCell') = true := by simp only [enC_eq, pmC_eq]; simp [Value.oneCell']
theorem en_info (p : En) : (Tryz.prog.info? 66).map (·.size) = some (enC p).size := by rw [enC_size]; kernel_rfl
theorem enC_v (p : En) : (enC p)[0]? = some (.bool p.v) := by simp only [enC_eq, pmC_eq]; rfl
theorem enC_n (p : En) : (enC p)[1]? = some (.int .u64 (p.n : Int)) := by simp only [enC_eq, pmC_eq]; rfl
theorem enC_set_n (p : En) (x : Nat) : (enC p).setIfInBounds 1 (.int .u64 (x : Int)) = enC { p with n := x } := by simp only [enC_eq, pmC_eq]; rfl
theorem enC_g (p : En) : (enC p)[2]? = some (.bool p.g) := by simp only [enC_eq, pmC_eq]; rfl
theorem enC_l (p : En) : (enC p)[3]? = some (.int .i64 p.l) := by simp only [enC_eq, pmC_eq]; rfl
theorem enC_vp (p : En) : (enC p)[4]? = some (.int .u64 (p.vp : Int)) := by simp only [enC_eq, pmC_eq]; rfl
theorem enC_set_vp (p : En) (x : Nat) : (enC p).setIfInBounds 4 (.int .u64 (x : Int)) = enC { p with vp := x } := by simp only [enC_eq, pmC_eq]; rfl
theorem enC_pp (p : En) : (enC p)[5]? = some (.int .u64 (p.pp : Int)) := by simp only [enC_eq, pmC_eq]; rfl
theorem enC_set_pp (p : En) (x : Nat) : (enC p).setIfInBounds 5 (.int .u64 (x : Int)) = enC { p with pp := x } := by simp only [enC_eq, pmC_eq]; rfl
theorem enC_pm (p : En) : (enC p).extract 6 (6 + (pmC p.pm).size) = pmC p.pm := by rw [pmC_size]; simp only [enC_eq, pmC_eq]; kernel_rfl
theorem enC_d (p : En) : (enC p)[10]? = some (.bool p.d) := by simp only [enC_eq, pmC_eq]; rfl
theorem Blk.en_v {w : World} {g : Nat} {t : TypeId} {p : En} (h : Blk w g t (enC p)) : w.cell? ⟨g, 0, none⟩ = some (.bool p.v) := (h.cell 0).trans (enC_v p)
theorem Blk.en_n {w : World} {g : Nat} {t : TypeId} {p : En} (h : Blk w g t (enC p)) : w.cell? ⟨g, 1, none⟩ = some (.int .u64 (p.n : Int)) := (h.cell 1).trans (enC_n p)
theorem Blk.en_g {w : World} {g : Nat} {t : TypeId} {p : En} (h : Blk w g t (enC p)) : w.cell? ⟨g, 2, none⟩ = some (.bool p.g) := (h.cell 2).trans (enC_g p)
theorem Blk.en_l {w : World} {g : Nat} {t : TypeId} {p : En} (h : Blk w g t (enC p)) : w.cell? ⟨g, 3, none⟩ = some (.int .i64 p.l) := (h.cell 3).trans (enC_l p)
theorem Blk.en_vp {w : World} {g : Nat} {t : TypeId} {p : En} (h : Blk w g t (enC p)) : w.cell? ⟨g, 4, none⟩ = some (.int .u64 (p.vp : Int)) := (h.cell 4).trans (enC_vp p)
theorem Blk.en_pp {w : World} {g : Nat} {t : TypeId} {p : En} (h : Blk w g t (enC p)) : w.cell? ⟨g, 5, none⟩ = some (.int .u64 (p.pp : Int)) := (h.cell 5).trans (enC_pp p)
theorem Blk.en_pm {w : World} {g : Nat} {t : TypeId} {p : En} (h : Blk w g t (enC p)) : w.rangeAt g 6 (pmC p.pm).toList := h.part 6 (enC_pm p)
theorem Blk.en_d {w : World} {g : Nat} {t : TypeId} {p : En} (h : Blk w g t (enC p)) : w.cell? ⟨g, 10, none⟩ = some (.bool p.d) := (h.cell 10).trans (enC_d p)
theorem en_build (p : En) : Tryz.prog.built 66 [(0, .bool p.v), (1, .int .u64 (p.n : Int)), (2, .bool p.g), (3, .int .i64 p.l), (4, .int .u64 (p.vp : Int)), (5, .int .u64 (p.pp : Int)), (6, .agg (pmC p.pm)), (7, .bool p.d)] = some (enC p) := by simp only [enC_eq, pmC_eq]; kernel_rfl
attribute [irreducible] enC

theorem eqlIn_en (D0 : Nat) (w : World) (p q : En) : (Op.equalIn (D0 + 1 + 1 + 1) 66 (.agg (enC p)) (.agg (enC q))).run Tryz.prog w = .ok (decide (p = q)) w := by
  have hp : Tryz.prog.stoodInHeld 66 = false := by kernel_rfl
  rw [run_equalIn_agg w _ _ _ _ (by simp [Program.fieldsOf, Tryz.underlying66]) hp]
  have hd : decide (p = q) = (p.v == q.v && ((p.n : Int) == q.n && (p.g == q.g && (p.l == q.l && ((p.vp : Int) == q.vp && ((p.pp : Int) == q.pp && (decide (p.pm = q.pm) && (p.d == q.d && true)))))))) := by
    obtain ⟨v, n, g, l, vp, pp, pm, d⟩ := p
    obtain ⟨v', n', g', l', vp', pp', pm', d'⟩ := q
    rw [Bool.eq_iff_iff]
    simp
    ((intros; simp only [Int.natCast_inj]))
  rw [hd]
  have h_bool : ∀ a b : Bool, (Op.equalIn (D0 + 1 + 1) 4 (.bool a) (.bool b)).run Tryz.prog w = .ok (a == b) w := fun a b => run_equalIn_bool' w (D0 + 1) _ _ _ Tryz.underlying4
  have h_u64 : ∀ a b : Int, (Op.equalIn (D0 + 1 + 1) 25 (.int .u64 a) (.int .u64 b)).run Tryz.prog w = .ok (a == b) w := fun a b => run_equalIn_int w (D0 + 1) _ _ _ _ _ Tryz.underlying25
  have h_i64 : ∀ a b : Int, (Op.equalIn (D0 + 1 + 1) 3 (.int .i64 a) (.int .i64 b)).run Tryz.prog w = .ok (a == b) w := fun a b => run_equalIn_int w (D0 + 1) _ _ _ _ _ Tryz.underlying3
  have h_pm : ∀ a b : Pm, (Op.equalIn (D0 + 1 + 1) 64 (.agg (pmC a)) (.agg (pmC b))).run Tryz.prog w = .ok (decide (a = b)) w := fun a b => eqlIn_pm (D0) w a b
  generalize D0 + 1 + 1 = D at h_bool h_u64 h_i64 h_pm ⊢
  have key : (Op.eqFields D (enC p) (enC q) (Program.fieldsOf Tryz.prog 66).toList).run Tryz.prog w = .ok (p.v == q.v && ((p.n : Int) == q.n && (p.g == q.g && (p.l == q.l && ((p.vp : Int) == q.vp && ((p.pp : Int) == q.pp && (decide (p.pm = q.pm) && (p.d == q.d && true)))))))) w := by
    simp only [Program.fieldsOf, Tryz.underlying66]
    refine run_eqF ?_ (part_bool (enC_v p)) (part_bool (enC_v q)) (h_bool _ _) ?_
    · simp
    refine run_eqF ?_ (part_u64 (enC_n p)) (part_u64 (enC_n q)) (h_u64 _ _) ?_
    · simp
    refine run_eqF ?_ (part_bool (enC_g p)) (part_bool (enC_g q)) (h_bool _ _) ?_
    · simp
    refine run_eqF ?_ (part_int Tryz.underlying3 (enC_l p)) (part_int Tryz.underlying3 (enC_l q)) (h_i64 _ _) ?_
    · simp
    refine run_eqF ?_ (part_u64 (enC_vp p)) (part_u64 (enC_vp q)) (h_u64 _ _) ?_
    · simp
    refine run_eqF ?_ (part_u64 (enC_pp p)) (part_u64 (enC_pp q)) (h_u64 _ _) ?_
    · simp
    refine run_eqF ?_ (part_agg Tryz.underlying64 rfl (by rw [pmC_size]; kernel_rfl) (enC_pm p)) (part_agg Tryz.underlying64 rfl (by rw [pmC_size]; kernel_rfl) (enC_pm q)) (h_pm _ _) ?_
    · simp
    refine run_eqF ?_ (part_bool (enC_d p)) (part_bool (enC_d q)) (h_bool _ _) ?_
    · simp
    simp [Op.eqFields, Sem.run_pure]
  first
    | exact key
    | (simp only [Program.fieldsOf, Tryz.underlying66] at key ⊢; exact key)
theorem eql_en (w : World) (p q : En) : (binOp .eql 66 (.agg (enC p)) (.agg (enC q))).run Tryz.prog w = .ok (.bool (decide (p = q))) w := by
  rw [run_eql_struct, show (10000 : Nat) = 9997 + 1 + 1 + 1 from rfl, eqlIn_en 9997]; rfl
theorem en_guard : Tryz.prog.eqGuardType Tryz.prog.depth 66 = false := by kernel_rfl
end Go.Proofs.YtlhoedpencmikaaGreatDoor
