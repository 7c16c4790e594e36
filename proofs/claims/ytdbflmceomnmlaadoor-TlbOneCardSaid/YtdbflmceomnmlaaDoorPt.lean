/- Entries and permissions (api.Pte, api.Perm): as values, as they come in, held against one another, stored and loaded whole. -/
import Derived.Test.YtdbflmceomnmlaaDoorRows
import Derived.Test.YtdbflmceomnmlaaDoorBox
import Derived.Test.YtdbflmceomnmlaaDoorAgg
import Derived.Test.YtdbflmceomnmlaaDoorPm
import Derived.Laws.StructEq
import Derived.Laws.Tables
import Derived.Lib.SmallJoins
import Derived.ChangeArms
import Derived.OpenShut
import Derived.BigQuiet
namespace Go.Proofs.YtdbflmceomnmlaaDoor
open Go.ChangeShapes Go.WideShapes Go.ChangeAt Go.RowKit Go.Joins Go.Deep
set_option linter.unusedVariables false
set_option linter.unusedSimpArgs false
set_option maxRecDepth 10000

theorem array11 {α : Type} {cs : Array α} (h : cs.size = 11) : ∃ c0 c1 c2 c3 c4 c5 c6 c7 c8 c9 c10, cs = #[c0, c1, c2, c3, c4, c5, c6, c7, c8, c9, c10] := by
  obtain ⟨l⟩ := cs
  match l, h with
  | [c0, c1, c2, c3, c4, c5, c6, c7, c8, c9, c10], _ => exact ⟨c0, c1, c2, c3, c4, c5, c6, c7, c8, c9, c10, rfl⟩

/-- an entry -/
structure Pt where
  v : Bool
  r : Bool
  w : Bool
  x : Bool
  u : Bool
  g : Bool
  a : Bool
  d : Bool
  rs : Nat
  pp : Nat
  hi : Nat
deriving DecidableEq
def Pt.ok (p : Pt) : Prop := p.rs < 18446744073709551616 ∧ p.pp < 18446744073709551616 ∧ p.hi < 18446744073709551616
def ptC (p : Pt) : Array Value := #[.bool p.v, .bool p.r, .bool p.w, .bool p.x, .bool p.u, .bool p.g, .bool p.a, .bool p.d, .int .u64 (p.rs : Int), .int .u64 (p.pp : Int), .int .u64 (p.hi : Int)]
theorem ptC_def (v r w x u g a d : Bool) (rs pp hi : Nat) : ptC ⟨v, r, w, x, u, g, a, d, rs, pp, hi⟩ = #[.bool v, .bool r, .bool w, .bool x, .bool u, .bool g, .bool a, .bool d, .int .u64 (rs : Int), .int .u64 (pp : Int), .int .u64 (hi : Int)] := rfl
theorem ptC_eq (p : Pt) : ptC p = #[.bool p.v, .bool p.r, .bool p.w, .bool p.x, .bool p.u, .bool p.g, .bool p.a, .bool p.d, .int .u64 (p.rs : Int), .int .u64 (p.pp : Int), .int .u64 (p.hi : Int)] := rfl
theorem ptC_size (p : Pt) : (ptC p).size = 11 := rfl
theorem ptC_one (p : Pt) : (ptC p).all (·.oneCell') = true := by simp [ptC, Value.oneCell']
theorem pt_info (p : Pt) : (Tryd.prog.info? 69).map (·.size) = some (ptC p).size := by rw [ptC_size]; kernel_rfl
attribute [irreducible] ptC

section
variable {H : Type} {enc : TypeId × Value → H}
theorem open_pte {W : World} {b0 : Nat} {v : Value} {d : DataW H} {p : List MemPlace} (hv : Value.okWide Tryd.prog W .any b0 69 v) (h : DataW.Trod enc Tryd.prog W 0 (fun _ => true) true 69 v d p) :
    ∃ P : Pt, v = .agg (ptC P) ∧ P.ok := by
  obtain ⟨cs, rfl, hsz, n, hf⟩ := open_aggs Tryd.underlying69 (by kernel_rfl) (by kernel_rfl) hv h
  obtain ⟨c0, c1, c2, c3, c4, c5, c6, c7, c8, c9, c10, rfl⟩ := array11 hsz
  obtain ⟨_, h0⟩ := hf 0 _ _ rfl rfl
  obtain ⟨_, h1⟩ := hf 1 _ _ rfl rfl
  obtain ⟨_, h2⟩ := hf 2 _ _ rfl rfl
  obtain ⟨_, h3⟩ := hf 3 _ _ rfl rfl
  obtain ⟨_, h4⟩ := hf 4 _ _ rfl rfl
  obtain ⟨_, h5⟩ := hf 5 _ _ rfl rfl
  obtain ⟨_, h6⟩ := hf 6 _ _ rfl rfl
  obtain ⟨_, h7⟩ := hf 7 _ _ rfl rfl
  obtain ⟨_, h8⟩ := hf 8 _ _ rfl rfl
  obtain ⟨_, h9⟩ := hf 9 _ _ rfl rfl
  obtain ⟨_, h10⟩ := hf 10 _ _ rfl rfl
  obtain ⟨b0, rfl⟩ := open_boolf Tryd.underlying4 h0
  obtain ⟨b1, rfl⟩ := open_boolf Tryd.underlying4 h1
  obtain ⟨b2, rfl⟩ := open_boolf Tryd.underlying4 h2
  obtain ⟨b3, rfl⟩ := open_boolf Tryd.underlying4 h3
  obtain ⟨b4, rfl⟩ := open_boolf Tryd.underlying4 h4
  obtain ⟨b5, rfl⟩ := open_boolf Tryd.underlying4 h5
  obtain ⟨b6, rfl⟩ := open_boolf Tryd.underlying4 h6
  obtain ⟨b7, rfl⟩ := open_boolf Tryd.underlying4 h7
  obtain ⟨z8, rfl, w8⟩ := open_u64f Tryd.underlying25 h8
  obtain ⟨z9, rfl, w9⟩ := open_u64f Tryd.underlying25 h9
  obtain ⟨z10, rfl, w10⟩ := open_u64f Tryd.underlying25 h10
  exact ⟨⟨b0, b1, b2, b3, b4, b5, b6, b7, z8, z9, z10⟩, by rw [ptC_def], w8, w9, w10⟩
theorem open_perm {W : World} {b0 : Nat} {v : Value} {d : DataW H} {p : List MemPlace} (hv : Value.okWide Tryd.prog W .any b0 27 v) (h : DataW.Trod enc Tryd.prog W 0 (fun _ => true) true 27 v d p) :
    ∃ P : Pm, v = .agg (pmC P) := by
  obtain ⟨P, h, _⟩ := open_pm hv h
  exact ⟨P, h⟩
end

/-! structs held against one another -/
theorem eqlIn_pt (D0 : Nat) (w : World) (p q : Pt) : (Op.equalIn (D0 + 1 + 1) 69 (.agg (ptC p)) (.agg (ptC q))).run Tryd.prog w = .ok (decide (p = q)) w := by
  have hp : Tryd.prog.stoodInHeld 69 = false := by kernel_rfl
  rw [run_equalIn_agg w _ _ _ _ (by simp [Program.fieldsOf, Tryd.underlying69]) hp, ptC_eq p, ptC_eq q]
  simp only [Program.fieldsOf, Tryd.underlying69]
  have hd : decide (p = q) = (p.v == q.v && (p.r == q.r && (p.w == q.w && (p.x == q.x && (p.u == q.u && (p.g == q.g && (p.a == q.a && (p.d == q.d && ((p.rs : Int) == q.rs && ((p.pp : Int) == q.pp && ((p.hi : Int) == q.hi && true))))))))))) := by
    obtain ⟨v, r, w, x, u, g, a, d, rs, pp, hi⟩ := p
    obtain ⟨v', r', w', x', u', g', a', d', rs', pp', hi'⟩ := q
    rw [Bool.eq_iff_iff]
    simp
    omega
  rw [hd]
  have hi : ∀ a b : Int, (Op.equalIn (D0 + 1) 25 (.int .u64 a) (.int .u64 b)).run Tryd.prog w = .ok (a == b) w := fun a b => run_equalIn_int w D0 _ _ _ _ _ Tryd.underlying25
  have hb : ∀ a b : Bool, (Op.equalIn (D0 + 1) 4 (.bool a) (.bool b)).run Tryd.prog w = .ok (a == b) w := fun a b => run_equalIn_bool' w D0 _ _ _ Tryd.underlying4
  generalize D0 + 1 = D at hi hb ⊢
  have key : (Op.eqFields D #[.bool p.v, .bool p.r, .bool p.w, .bool p.x, .bool p.u, .bool p.g, .bool p.a, .bool p.d, .int .u64 (p.rs : Int), .int .u64 (p.pp : Int), .int .u64 (p.hi : Int)] #[.bool q.v, .bool q.r, .bool q.w, .bool q.x, .bool q.u, .bool q.g, .bool q.a, .bool q.d, .int .u64 (q.rs : Int), .int .u64 (q.pp : Int), .int .u64 (q.hi : Int)] (Program.fieldsOf Tryd.prog 69).toList).run Tryd.prog w = .ok (p.v == q.v && (p.r == q.r && (p.w == q.w && (p.x == q.x && (p.u == q.u && (p.g == q.g && (p.a == q.a && (p.d == q.d && ((p.rs : Int) == q.rs && ((p.pp : Int) == q.pp && ((p.hi : Int) == q.hi && true))))))))))) w := by
    simp only [Program.fieldsOf, Tryd.underlying69]
    refine run_eqF ?_ (part_bool (by simp)) (part_bool (by simp)) (hb _ _) ?_
    · simp
    refine run_eqF ?_ (part_bool (by simp)) (part_bool (by simp)) (hb _ _) ?_
    · simp
    refine run_eqF ?_ (part_bool (by simp)) (part_bool (by simp)) (hb _ _) ?_
    · simp
    refine run_eqF ?_ (part_bool (by simp)) (part_bool (by simp)) (hb _ _) ?_
    · simp
    refine run_eqF ?_ (part_bool (by simp)) (part_bool (by simp)) (hb _ _) ?_
    · simp
    refine run_eqF ?_ (part_bool (by simp)) (part_bool (by simp)) (hb _ _) ?_
    · simp
    refine run_eqF ?_ (part_bool (by simp)) (part_bool (by simp)) (hb _ _) ?_
    · simp
    refine run_eqF ?_ (part_bool (by simp)) (part_bool (by simp)) (hb _ _) ?_
    · simp
    refine run_eqF ?_ (part_u64 (by simp)) (part_u64 (by simp)) (hi _ _) ?_
    · simp
    refine run_eqF ?_ (part_u64 (by simp)) (part_u64 (by simp)) (hi _ _) ?_
    · simp
    refine run_eqF ?_ (part_u64 (by simp)) (part_u64 (by simp)) (hi _ _) ?_
    · simp
    simp [Op.eqFields, Sem.run_pure]
  simp only [Program.fieldsOf, Tryd.underlying69] at key
  exact key
theorem eql_pte (w : World) (p q : Pt) : (binOp .eql 69 (.agg (ptC p)) (.agg (ptC q))).run Tryd.prog w = .ok (.bool (decide (p = q))) w := by
  rw [run_eql_struct, show (10000 : Nat) = 9998 + 1 + 1 from rfl, eqlIn_pt 9998]; rfl
theorem neq_pte (w : World) (p q : Pt) : (binOp .neq 69 (.agg (ptC p)) (.agg (ptC q))).run Tryd.prog w = .ok (.bool (!decide (p = q))) w := neq_of_eql (eql_pte w p q)
theorem eql_perm (w : World) (p q : Pm) : (binOp .eql 27 (.agg (pmC p)) (.agg (pmC q))).run Tryd.prog w = .ok (.bool (decide (p = q))) w := eql_pm w p q
theorem pte_guard : Tryd.prog.eqGuardType Tryd.prog.depth 69 = false := by kernel_rfl
theorem perm_guard : Tryd.prog.eqGuardType Tryd.prog.depth 27 = false := pm_guard

end Go.Proofs.YtdbflmceomnmlaaDoor
