/- An entry of the buffer (api.Entry): as values, held against one another, stored and loaded whole and by parts. Written by mkstruct2.py. -/
import Derived.Test.YtlimipjfdecbfaaDoorMid
import Derived.Test.YtlimipjfdecbfaaDoorPm
namespace Go.Proofs.YtlimipjfdecbfaaDoor
open Go.ChangeShapes Go.WideShapes Go.ChangeAt Go.RowKit Go.Joins Go.Deep
set_option linter.unusedVariables false
set_option linter.unusedSimpArgs false
set_option maxRecDepth 10000

structure En where
  v : Bool
  n : Nat
  g : Bool
  l : Int
  vp : Nat
  pp : Nat
  pm : Pm
  d : Bool
deriving DecidableEq
def En.ok (p : En) : Prop := p.n < 18446744073709551616 ∧ (-9223372036854775808 ≤ p.l ∧ p.l ≤ 9223372036854775807) ∧ p.vp < 18446744073709551616 ∧ p.pp < 18446744073709551616 ∧ p.pm.ok
def enC (p : En) : Array Value := #[.bool p.v, .int .u64 (p.n : Int), .bool p.g, .int .i64 p.l, .int .u64 (p.vp : Int), .int .u64 (p.pp : Int)] ++ pmC p.pm ++ #[.bool p.d]
theorem enC_def (v : Bool) (n : Nat) (g : Bool) (l : Int) (vp : Nat) (pp : Nat) (pm : Pm) (d : Bool) : enC ⟨v, n, g, l, vp, pp, pm, d⟩ = #[.bool v, .int .u64 (n : Int), .bool g, .int .i64 l, .int .u64 (vp : Int), .int .u64 (pp : Int)] ++ pmC pm ++ #[.bool d] := rfl
theorem enC_eq (p : En) : enC p = #[.bool p.v, .int .u64 (p.n : Int), .bool p.g, .int .i64 p.l, .int .u64 (p.vp : Int), .int .u64 (p.pp : Int)] ++ pmC p.pm ++ #[.bool p.d] := rfl
theorem enC_size (p : En) : (enC p).size = 11 := by simp only [enC_eq, pmC_eq]; rfl
theorem enC_one (p : En) : (enC p).all (·.oneCell') = true := by simp only [enC_eq, pmC_eq]; simp [Value.oneCell']
theorem en_info (p : En) : (Tryd.prog.info? 28).map (·.size) = some (enC p).size := by rw [enC_size]; kernel_rfl
theorem enC_v (p : En) : (enC p)[0]? = some (.bool p.v) := by simp only [enC_eq, pmC_eq]; rfl
theorem enC_set_v (p : En) (x : Bool) : (enC p).setIfInBounds 0 (.bool x) = enC { p with v := x } := by simp only [enC_eq, pmC_eq]; rfl
theorem enC_n (p : En) : (enC p)[1]? = some (.int .u64 (p.n : Int)) := by simp only [enC_eq, pmC_eq]; rfl
theorem enC_set_n (p : En) (x : Nat) : (enC p).setIfInBounds 1 (.int .u64 (x : Int)) = enC { p with n := x } := by simp only [enC_eq, pmC_eq]; rfl
theorem enC_g (p : En) : (enC p)[2]? = some (.bool p.g) := by simp only [enC_eq, pmC_eq]; rfl
theorem enC_set_g (p : En) (x : Bool) : (enC p).setIfInBounds 2 (.bool x) = enC { p with g := x } := by simp only [enC_eq, pmC_eq]; rfl
theorem enC_l (p : En) : (enC p)[3]? = some (.int .i64 p.l) := by simp only [enC_eq, pmC_eq]; rfl
theorem enC_set_l (p : En) (x : Int) : (enC p).setIfInBounds 3 (.int .i64 x) = enC { p with l := x } := by simp only [enC_eq, pmC_eq]; rfl
theorem enC_vp (p : En) : (enC p)[4]? = some (.int .u64 (p.vp : Int)) := by simp only [enC_eq, pmC_eq]; rfl
theorem enC_set_vp (p : En) (x : Nat) : (enC p).setIfInBounds 4 (.int .u64 (x : Int)) = enC { p with vp := x } := by simp only [enC_eq, pmC_eq]; rfl
theorem enC_pp (p : En) : (enC p)[5]? = some (.int .u64 (p.pp : Int)) := by simp only [enC_eq, pmC_eq]; rfl
theorem enC_set_pp (p : En) (x : Nat) : (enC p).setIfInBounds 5 (.int .u64 (x : Int)) = enC { p with pp := x } := by simp only [enC_eq, pmC_eq]; rfl
theorem enC_pm (p : En) : (enC p).extract 6 (6 + (pmC p.pm).size) = pmC p.pm := by rw [pmC_size]; simp only [enC_eq, pmC_eq]; kernel_rfl
theorem enC_set_pm (p : En) (q : Pm) : putAt (enC p) 6 (pmC q).toList = enC { p with pm := q } := by simp only [enC_eq, pmC_eq]; kernel_rfl
theorem enC_d (p : En) : (enC p)[10]? = some (.bool p.d) := by simp only [enC_eq, pmC_eq]; rfl
theorem enC_set_d (p : En) (x : Bool) : (enC p).setIfInBounds 10 (.bool x) = enC { p with d := x } := by simp only [enC_eq, pmC_eq]; rfl
theorem Blk.en_v {w : World} {g : Nat} {t : TypeId} {p : En} (h : Blk w g t (enC p)) : w.cell? ⟨g, 0, none⟩ = some (.bool p.v) := (h.cell 0).trans (enC_v p)
theorem Blk.en_n {w : World} {g : Nat} {t : TypeId} {p : En} (h : Blk w g t (enC p)) : w.cell? ⟨g, 1, none⟩ = some (.int .u64 (p.n : Int)) := (h.cell 1).trans (enC_n p)
theorem Blk.en_g {w : World} {g : Nat} {t : TypeId} {p : En} (h : Blk w g t (enC p)) : w.cell? ⟨g, 2, none⟩ = some (.bool p.g) := (h.cell 2).trans (enC_g p)
theorem Blk.en_l {w : World} {g : Nat} {t : TypeId} {p : En} (h : Blk w g t (enC p)) : w.cell? ⟨g, 3, none⟩ = some (.int .i64 p.l) := (h.cell 3).trans (enC_l p)
theorem Blk.en_vp {w : World} {g : Nat} {t : TypeId} {p : En} (h : Blk w g t (enC p)) : w.cell? ⟨g, 4, none⟩ = some (.int .u64 (p.vp : Int)) := (h.cell 4).trans (enC_vp p)
theorem Blk.en_pp {w : World} {g : Nat} {t : TypeId} {p : En} (h : Blk w g t (enC p)) : w.cell? ⟨g, 5, none⟩ = some (.int .u64 (p.pp : Int)) := (h.cell 5).trans (enC_pp p)
theorem Blk.en_pm {w : World} {g : Nat} {t : TypeId} {p : En} (h : Blk w g t (enC p)) : w.rangeAt g 6 (pmC p.pm).toList := h.part 6 (enC_pm p)
theorem Blk.en_d {w : World} {g : Nat} {t : TypeId} {p : En} (h : Blk w g t (enC p)) : w.cell? ⟨g, 10, none⟩ = some (.bool p.d) := (h.cell 10).trans (enC_d p)
theorem en_build (p : En) : Tryd.prog.built 28 [(0, .bool p.v), (1, .int .u64 (p.n : Int)), (2, .bool p.g), (3, .int .i64 p.l), (4, .int .u64 (p.vp : Int)), (5, .int .u64 (p.pp : Int)), (6, .agg (pmC p.pm)), (7, .bool p.d)] = some (enC p) := by simp only [enC_eq, pmC_eq]; kernel_rfl
attribute [irreducible] enC

theorem eqlIn_en (D0 : Nat) (w : World) (p q : En) : (Op.equalIn (D0 + 1 + 1 + 1) 28 (.agg (enC p)) (.agg (enC q))).run Tryd.prog w = .ok (decide (p = q)) w := by
  have hp : Tryd.prog.stoodInHeld 28 = false := by kernel_rfl
  rw [run_equalIn_agg w _ _ _ _ (by simp [Program.fieldsOf, Tryd.underlying28]) hp]
  have hd : decide (p = q) = (p.v == q.v && ((p.n : Int) == q.n && (p.g == q.g && (p.l == q.l && ((p.vp : Int) == q.vp && ((p.pp : Int) == q.pp && (decide (p.pm = q.pm) && (p.d == q.d && true)))))))) := by
    obtain ⟨v, n, g, l, vp, pp, pm, d⟩ := p
    obtain ⟨v', n', g', l', vp', pp', pm', d'⟩ := q
    rw [Bool.eq_iff_iff]
    simp
    try (first | omega | (intros; simp only [Int.natCast_inj]))
  rw [hd]
  have h_bool : ∀ a b : Bool, (Op.equalIn (D0 + 1 + 1) 4 (.bool a) (.bool b)).run Tryd.prog w = .ok (a == b) w := fun a b => run_equalIn_bool' w (D0 + 1) _ _ _ Tryd.underlying4
  have h_u64 : ∀ a b : Int, (Op.equalIn (D0 + 1 + 1) 22 (.int .u64 a) (.int .u64 b)).run Tryd.prog w = .ok (a == b) w := fun a b => run_equalIn_int w (D0 + 1) _ _ _ _ _ Tryd.underlying22
  have h_i64 : ∀ a b : Int, (Op.equalIn (D0 + 1 + 1) 3 (.int .i64 a) (.int .i64 b)).run Tryd.prog w = .ok (a == b) w := fun a b => run_equalIn_int w (D0 + 1) _ _ _ _ _ Tryd.underlying3
  have h_pm : ∀ a b : Pm, (Op.equalIn (D0 + 1 + 1) 26 (.agg (pmC a)) (.agg (pmC b))).run Tryd.prog w = .ok (decide (a = b)) w := fun a b => eqlIn_pm (D0) w a b
  generalize D0 + 1 + 1 = D at h_bool h_u64 h_i64 h_pm ⊢
  have key : (Op.eqFields D (enC p) (enC q) (Program.fieldsOf Tryd.prog 28).toList).run Tryd.prog w = .ok (p.v == q.v && ((p.n : Int) == q.n && (p.g == q.g && (p.l == q.l && ((p.vp : Int) == q.vp && ((p.pp : Int) == q.pp && (decide (p.pm = q.pm) && (p.d == q.d && true)))))))) w := by
    simp only [Program.fieldsOf, Tryd.underlying28]
    refine run_eqF ?_ (part_bool (enC_v p)) (part_bool (enC_v q)) (h_bool _ _) ?_
    · simp
    refine run_eqF ?_ (part_u64 (enC_n p)) (part_u64 (enC_n q)) (h_u64 _ _) ?_
    · simp
    refine run_eqF ?_ (part_bool (enC_g p)) (part_bool (enC_g q)) (h_bool _ _) ?_
    · simp
    refine run_eqF ?_ (part_int Tryd.underlying3 (enC_l p)) (part_int Tryd.underlying3 (enC_l q)) (h_i64 _ _) ?_
    · simp
    refine run_eqF ?_ (part_u64 (enC_vp p)) (part_u64 (enC_vp q)) (h_u64 _ _) ?_
    · simp
    refine run_eqF ?_ (part_u64 (enC_pp p)) (part_u64 (enC_pp q)) (h_u64 _ _) ?_
    · simp
    refine run_eqF ?_ (part_agg Tryd.underlying26 rfl (by rw [pmC_size]; kernel_rfl) (enC_pm p)) (part_agg Tryd.underlying26 rfl (by rw [pmC_size]; kernel_rfl) (enC_pm q)) (h_pm _ _) ?_
    · simp
    refine run_eqF ?_ (part_bool (enC_d p)) (part_bool (enC_d q)) (h_bool _ _) ?_
    · simp
    simp [Op.eqFields, Sem.run_pure]
  first
    | exact key
    | (simp only [Program.fieldsOf, Tryd.underlying28] at key ⊢; exact key)
theorem eql_en (w : World) (p q : En) : (binOp .eql 28 (.agg (enC p)) (.agg (enC q))).run Tryd.prog w = .ok (.bool (decide (p = q))) w := by
  rw [run_eql_struct, show (10000 : Nat) = 9997 + 1 + 1 + 1 from rfl, eqlIn_en 9997]; rfl
theorem neq_en (w : World) (p q : En) : (binOp .neq 28 (.agg (enC p)) (.agg (enC q))).run Tryd.prog w = .ok (.bool (!decide (p = q))) w := neq_of_eql (eql_en w p q)
theorem en_guard : Tryd.prog.eqGuardType Tryd.prog.depth 28 = false := by kernel_rfl
end Go.Proofs.YtlimipjfdecbfaaDoor
