/- Permissions (api.Perm): as values, as they come in, held against one another, stored and loaded whole. Written by mkstruct.py. -/
import Derived.Test.YtlimipjfdecbfaaDoorAgg
namespace Go.Proofs.YtlimipjfdecbfaaDoor
open Go.ChangeShapes Go.WideShapes Go.ChangeAt Go.RowKit Go.Joins Go.Deep
set_option linter.unusedVariables false
set_option linter.unusedSimpArgs false
set_option maxRecDepth 10000

structure Pm where
  r : Bool
  w : Bool
  x : Bool
  u : Bool
deriving DecidableEq
def Pm.ok (p : Pm) : Prop := True
def pmC (p : Pm) : Array Value := #[.bool p.r, .bool p.w, .bool p.x, .bool p.u]
theorem pmC_def (r : Bool) (w : Bool) (x : Bool) (u : Bool) : pmC ⟨r, w, x, u⟩ = #[.bool r, .bool w, .bool x, .bool u] := rfl
theorem pmC_eq (p : Pm) : pmC p = #[.bool p.r, .bool p.w, .bool p.x, .bool p.u] := rfl
theorem pmC_size (p : Pm) : (pmC p).size = 4 := rfl
theorem pmC_one (p : Pm) : (pmC p).all (·.oneCell') = true := by simp [pmC, Value.oneCell']
theorem pm_info (p : Pm) : (Tryd.prog.info? 26).map (·.size) = some (pmC p).size := by rw [pmC_size]; kernel_rfl
theorem Blk.pm {w : World} {g : Nat} {t : TypeId} {p : Pm} (h : Blk w g t (pmC p)) : w.cell? ⟨g, 0, none⟩ = some (.bool p.r) ∧ w.cell? ⟨g, 1, none⟩ = some (.bool p.w) ∧ w.cell? ⟨g, 2, none⟩ = some (.bool p.x) ∧ w.cell? ⟨g, 3, none⟩ = some (.bool p.u) := ⟨h.cell 0, h.cell 1, h.cell 2, h.cell 3⟩
attribute [irreducible] pmC

theorem pm_array {α : Type} {cs : Array α} (h : cs.size = 4) : ∃ c0 c1 c2 c3, cs = #[c0, c1, c2, c3] := by
  obtain ⟨l⟩ := cs
  match l, h with
  | [c0, c1, c2, c3], _ => exact ⟨c0, c1, c2, c3, rfl⟩
theorem open_pm {H : Type} {enc : TypeId × Value → H} {W : World} {b0 : Nat} {v : Value} {d : DataW H} {p : List MemPlace} (hv : Value.okWide Tryd.prog W .any b0 26 v) (h : DataW.Trod enc Tryd.prog W 0 (fun _ => true) true 26 v d p) :
    ∃ P : Pm, v = .agg (pmC P) ∧ P.ok := by
  obtain ⟨cs, rfl, hsz, n, hf⟩ := open_aggs Tryd.underlying26 (by kernel_rfl) (by kernel_rfl) hv h
  obtain ⟨c0, c1, c2, c3, rfl⟩ := pm_array hsz
  obtain ⟨_, h0⟩ := hf 0 _ _ rfl rfl
  obtain ⟨_, h1⟩ := hf 1 _ _ rfl rfl
  obtain ⟨_, h2⟩ := hf 2 _ _ rfl rfl
  obtain ⟨_, h3⟩ := hf 3 _ _ rfl rfl
  obtain ⟨z0, rfl⟩ := open_boolf Tryd.underlying4 h0
  obtain ⟨z1, rfl⟩ := open_boolf Tryd.underlying4 h1
  obtain ⟨z2, rfl⟩ := open_boolf Tryd.underlying4 h2
  obtain ⟨z3, rfl⟩ := open_boolf Tryd.underlying4 h3
  exact ⟨⟨z0, z1, z2, z3⟩, by rw [pmC_def], trivial⟩

theorem eqlIn_pm (D0 : Nat) (w : World) (p q : Pm) : (Op.equalIn (D0 + 1 + 1) 26 (.agg (pmC p)) (.agg (pmC q))).run Tryd.prog w = .ok (decide (p = q)) w := by
  have hp : Tryd.prog.stoodInHeld 26 = false := by kernel_rfl
  rw [run_equalIn_agg w _ _ _ _ (by simp [Program.fieldsOf, Tryd.underlying26]) hp, pmC_eq p, pmC_eq q]
  have hd : decide (p = q) = (p.r == q.r && (p.w == q.w && (p.x == q.x && (p.u == q.u && true)))) := by
    obtain ⟨r, w, x, u⟩ := p
    obtain ⟨r', w', x', u'⟩ := q
    rw [Bool.eq_iff_iff]
    simp
  rw [hd]
  have h_bool : ∀ a b : Bool, (Op.equalIn (D0 + 1) 4 (.bool a) (.bool b)).run Tryd.prog w = .ok (a == b) w := fun a b => run_equalIn_bool' w D0 _ _ _ Tryd.underlying4
  generalize D0 + 1 = D at h_bool ⊢
  have key : (Op.eqFields D #[.bool p.r, .bool p.w, .bool p.x, .bool p.u] #[.bool q.r, .bool q.w, .bool q.x, .bool q.u] (Program.fieldsOf Tryd.prog 26).toList).run Tryd.prog w = .ok (p.r == q.r && (p.w == q.w && (p.x == q.x && (p.u == q.u && true)))) w := by
    simp only [Program.fieldsOf, Tryd.underlying26]
    refine run_eqF ?_ (part_bool (by simp)) (part_bool (by simp)) (h_bool _ _) ?_
    · simp
    refine run_eqF ?_ (part_bool (by simp)) (part_bool (by simp)) (h_bool _ _) ?_
    · simp
    refine run_eqF ?_ (part_bool (by simp)) (part_bool (by simp)) (h_bool _ _) ?_
    · simp
    refine run_eqF ?_ (part_bool (by simp)) (part_bool (by simp)) (h_bool _ _) ?_
    · simp
    simp [Op.eqFields, Sem.run_pure]
  first
    | exact key
    | (simp only [Program.fieldsOf, Tryd.underlying26] at key ⊢; exact key)
theorem eql_pm (w : World) (p q : Pm) : (binOp .eql 26 (.agg (pmC p)) (.agg (pmC q))).run Tryd.prog w = .ok (.bool (decide (p = q))) w := by
  rw [run_eql_struct, show (10000 : Nat) = 9998 + 1 + 1 from rfl, eqlIn_pm 9998]; rfl
theorem neq_pm (w : World) (p q : Pm) : (binOp .neq 26 (.agg (pmC p)) (.agg (pmC q))).run Tryd.prog w = .ok (.bool (!decide (p = q))) w := neq_of_eql (eql_pm w p q)
theorem pm_guard : Tryd.prog.eqGuardType Tryd.prog.depth 26 = false := by kernel_rfl
end Go.Proofs.YtlimipjfdecbfaaDoor
