/- Ways of access (api.Way): as values, as they come in, held against one another, stored and loaded whole. Written by mkstruct.py. -/
import Derived.Test.YthmfgiodidaofaaAgg
namespace Go.Proofs.Ythmfgiodidaofaa
open Go.ChangeShapes Go.WideShapes Go.ChangeAt Go.RowKit Go.Joins Go.Deep
set_option linter.unusedVariables false
set_option linter.unusedSimpArgs false

structure Wy where
  kd : Int
  pv : Int
  su : Bool
  mx : Bool
deriving DecidableEq
def Wy.ok (p : Wy) : Prop := (-9223372036854775808 ≤ p.kd ∧ p.kd ≤ 9223372036854775807) ∧ (-9223372036854775808 ≤ p.pv ∧ p.pv ≤ 9223372036854775807)
def wyC (p : Wy) : Array Value := #[.int .i64 p.kd, .int .i64 p.pv, .bool p.su, .bool p.mx]
theorem wyC_def (kd : Int) (pv : Int) (su : Bool) (mx : Bool) : wyC ⟨kd, pv, su, mx⟩ = #[.int .i64 kd, .int .i64 pv, .bool su, .bool mx] := rfl
theorem wyC_eq (p : Wy) : wyC p = #[.int .i64 p.kd, .int .i64 p.pv, .bool p.su, .bool p.mx] := rfl
theorem wyC_size (p : Wy) : (wyC p).size = 4 := rfl
theorem wyC_one (p : Wy) : (wyC p).all (·.oneCell') = true := by simp [wyC, Value.oneCell']
theorem wy_info (p : Wy) : (Try.prog.info? 25).map (·.size) = some (wyC p).size := by rw [wyC_size]; kernel_rfl
theorem Blk.wy {w : World} {g : Nat} {t : TypeId} {p : Wy} (h : Blk w g t (wyC p)) : w.cell? ⟨g, 0, none⟩ = some (.int .i64 p.kd) ∧ w.cell? ⟨g, 1, none⟩ = some (.int .i64 p.pv) ∧ w.cell? ⟨g, 2, none⟩ = some (.bool p.su) ∧ w.cell? ⟨g, 3, none⟩ = some (.bool p.mx) := ⟨h.cell 0, h.cell 1, h.cell 2, h.cell 3⟩
attribute [irreducible] wyC

theorem wy_array {α : Type} {cs : Array α} (h : cs.size = 4) : ∃ c0 c1 c2 c3, cs = #[c0, c1, c2, c3] := by
  obtain ⟨l⟩ := cs
  match l, h with
  | [c0, c1, c2, c3], _ => exact ⟨c0, c1, c2, c3, rfl⟩
theorem open_wy {H : Type} {enc : TypeId × Value → H} {W : World} {b0 : Nat} {v : Value} {d : DataW H} {p : List MemPlace} (hv : Value.okWide Try.prog W .any b0 25 v) (h : DataW.Trod enc Try.prog W 0 (fun _ => true) true 25 v d p) :
    ∃ P : Wy, v = .agg (wyC P) ∧ P.ok := by
  obtain ⟨cs, rfl, hsz, n, hf⟩ := open_aggs Try.underlying25 (by kernel_rfl) (by kernel_rfl) hv h
  obtain ⟨c0, c1, c2, c3, rfl⟩ := wy_array hsz
  obtain ⟨_, h0⟩ := hf 0 _ _ rfl rfl
  obtain ⟨_, h1⟩ := hf 1 _ _ rfl rfl
  obtain ⟨_, h2⟩ := hf 2 _ _ rfl rfl
  obtain ⟨_, h3⟩ := hf 3 _ _ rfl rfl
  obtain ⟨z0, rfl, w0⟩ := open_intf Try.underlying3 h0
  obtain ⟨z1, rfl, w1⟩ := open_intf Try.underlying3 h1
  obtain ⟨z2, rfl⟩ := open_boolf Try.underlying4 h2
  obtain ⟨z3, rfl⟩ := open_boolf Try.underlying4 h3
  exact ⟨⟨z0, z1, z2, z3⟩, by rw [wyC_def], bounds_i64 w0, bounds_i64 w1⟩

theorem eql_wy (w : World) (p q : Wy) : (binOp .eql 25 (.agg (wyC p)) (.agg (wyC q))).run Try.prog w = .ok (.bool (decide (p = q))) w := by
  have hp : Try.prog.stoodInHeld 25 = false := by kernel_rfl
  rw [run_eql_struct, show (10000 : Nat) = 9998 + 1 + 1 from rfl, run_equalIn_agg w _ _ _ _ (by simp [Program.fieldsOf, Try.underlying25]) hp, wyC_eq p, wyC_eq q]
  have hd : decide (p = q) = (p.kd == q.kd && (p.pv == q.pv && (p.su == q.su && (p.mx == q.mx && true)))) := by
    obtain ⟨kd, pv, su, mx⟩ := p
    obtain ⟨kd', pv', su', mx'⟩ := q
    rw [Bool.eq_iff_iff]
    simp
    try omega
  rw [hd]
  have h_i64 : ∀ a b : Int, (Op.equalIn (9998 + 1) 3 (.int .i64 a) (.int .i64 b)).run Try.prog w = .ok (a == b) w := fun a b => run_equalIn_int w 9998 _ _ _ _ _ Try.underlying3
  have h_bool : ∀ a b : Bool, (Op.equalIn (9998 + 1) 4 (.bool a) (.bool b)).run Try.prog w = .ok (a == b) w := fun a b => run_equalIn_bool' w 9998 _ _ _ Try.underlying4
  generalize 9998 + 1 = D at h_i64 h_bool ⊢
  have key : (Op.eqFields D #[.int .i64 p.kd, .int .i64 p.pv, .bool p.su, .bool p.mx] #[.int .i64 q.kd, .int .i64 q.pv, .bool q.su, .bool q.mx] (Program.fieldsOf Try.prog 25).toList).run Try.prog w = .ok (p.kd == q.kd && (p.pv == q.pv && (p.su == q.su && (p.mx == q.mx && true)))) w := by
    simp only [Program.fieldsOf, Try.underlying25]
    refine run_eqF ?_ (part_int Try.underlying3 (by simp)) (part_int Try.underlying3 (by simp)) (h_i64 _ _) ?_
    · simp
    refine run_eqF ?_ (part_int Try.underlying3 (by simp)) (part_int Try.underlying3 (by simp)) (h_i64 _ _) ?_
    · simp
    refine run_eqF ?_ (part_bool (by simp)) (part_bool (by simp)) (h_bool _ _) ?_
    · simp
    refine run_eqF ?_ (part_bool (by simp)) (part_bool (by simp)) (h_bool _ _) ?_
    · simp
    simp [Op.eqFields, Sem.run_pure]
  first
    | (rw [key]; rfl)
    | (simp only [Program.fieldsOf, Try.underlying25] at key ⊢; rw [key]; rfl)
theorem neq_wy (w : World) (p q : Wy) : (binOp .neq 25 (.agg (wyC p)) (.agg (wyC q))).run Try.prog w = .ok (.bool (!decide (p = q))) w := neq_of_eql (eql_wy w p q)
theorem wy_guard : Try.prog.eqGuardType Try.prog.depth 25 = false := by kernel_rfl
end Go.Proofs.Ythmfgiodidaofaa
