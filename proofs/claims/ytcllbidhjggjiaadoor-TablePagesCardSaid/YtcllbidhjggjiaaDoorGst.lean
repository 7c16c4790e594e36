/- Permissions (api.Perm): as values, as they come in, held against one another, stored and loaded whole. Written by mkstruct.py. -/
import Derived.Test.YtcllbidhjggjiaaDoorGagg
import Derived.Test.YtcllbidhjggjiaaDoorRows
import Derived.Laws.StructEq
import Derived.Laws.Tables
import Derived.Lib.SmallJoins
import Derived.ChangeArms
import Derived.OpenShut
import Derived.BigQuiet
namespace Go.Proofs.YtcllbidhjggjiaaDoor
open Go.ChangeShapes Go.WideShapes Go.ChangeAt Go.RowKit Go.Joins Go.Deep
set_option linter.unusedVariables false
set_option linter.unusedSimpArgs false
set_option maxRecDepth 10000

structure Pm where
  r : Bool
  w : Bool
  x : Bool
  u : Bool
deriving DecidableEq
def Pm.ok (p : Pm) : Prop := True
def pmC (p : Pm) : Array Value := #[.bool p.r, .bool p.w, .bool p.x, .bool p.u]
theorem pmC_def (r : Bool) (w : Bool) (x : Bool) (u : Bool) : pmC ⟨r, w, x, u⟩ = #[.bool r, .bool w, .bool x, .bool u] := rfl
theorem pmC_eq (p : Pm) : pmC p = #[.bool p.r, .bool p.w, .bool p.x, .bool p.u] := rfl
theorem pmC_size (p : Pm) : (pmC p).size = 4 := rfl
theorem pmC_one (p : Pm) : (pmC p).all (·.oneCell') = true := by simp [pmC, Value.oneCell']
theorem pm_info (p : Pm) : (Tryd.prog.info? 47).map (·.size) = some (pmC p).size := by rw [pmC_size]; kernel_rfl
theorem Blk.pm {w : World} {g : Nat} {t : TypeId} {p : Pm} (h : Blk w g t (pmC p)) : w.cell? ⟨g, 0, none⟩ = some (.bool p.r) ∧ w.cell? ⟨g, 1, none⟩ = some (.bool p.w) ∧ w.cell? ⟨g, 2, none⟩ = some (.bool p.x) ∧ w.cell? ⟨g, 3, none⟩ = some (.bool p.u) := ⟨h.cell 0, h.cell 1, h.cell 2, h.cell 3⟩
attribute [irreducible] pmC

theorem pm_array {α : Type} {cs : Array α} (h : cs.size = 4) : ∃ c0 c1 c2 c3, cs = #[c0, c1, c2, c3] := by
  obtain ⟨l⟩ := cs
  match l, h with
  | [c0, c1, c2, c3], _ => exact ⟨c0, c1, c2, c3, rfl⟩
theorem open_pm {H : Type} {enc : TypeId × Value → H} {W : World} {b0 : Nat} {v : Value} {d : DataW H} {p : List MemPlace} (hv : Value.okWide Tryd.prog W .any b0 47 v) (h : DataW.Trod enc Tryd.prog W 0 (fun _ => true) true 47 v d p) :
    ∃ P : Pm, v = .agg (pmC P) ∧ P.ok := by
  obtain ⟨cs, rfl, hsz, n, hf⟩ := open_aggs Tryd.underlying47 (by kernel_rfl) (by kernel_rfl) hv h
  obtain ⟨c0, c1, c2, c3, rfl⟩ := pm_array hsz
  obtain ⟨_, h0⟩ := hf 0 _ _ rfl rfl
  obtain ⟨_, h1⟩ := hf 1 _ _ rfl rfl
  obtain ⟨_, h2⟩ := hf 2 _ _ rfl rfl
  obtain ⟨_, h3⟩ := hf 3 _ _ rfl rfl
  obtain ⟨z0, rfl⟩ := open_boolf Tryd.underlying4 h0
  obtain ⟨z1, rfl⟩ := open_boolf Tryd.underlying4 h1
  obtain ⟨z2, rfl⟩ := open_boolf Tryd.underlying4 h2
  obtain ⟨z3, rfl⟩ := open_boolf Tryd.underlying4 h3
  exact ⟨⟨z0, z1, z2, z3⟩, by rw [pmC_def], trivial⟩

theorem eqlIn_pm (D0 : Nat) (w : World) (p q : Pm) : (Op.equalIn (D0 + 1 + 1) 47 (.agg (pmC p)) (.agg (pmC q))).run Tryd.prog w = .ok (decide (p = q)) w := by
  have hp : Tryd.prog.stoodInHeld 47 = false := by kernel_rfl
  rw [run_equalIn_agg w _ _ _ _ (by simp [Program.fieldsOf, Tryd.underlying47]) hp, pmC_eq p, pmC_eq q]
  have hd : decide (p = q) = (p.r == q.r && (p.w == q.w && (p.x == q.x && (p.u == q.u && true)))) := by
    obtain ⟨r, w, x, u⟩ := p
    obtain ⟨r', w', x', u'⟩ := q
    rw [Bool.eq_iff_iff]
    simp
  rw [hd]
  have h_bool : ∀ a b : Bool, (Op.equalIn (D0 + 1) 4 (.bool a) (.bool b)).run Tryd.prog w = .ok (a == b) w := fun a b => run_equalIn_bool' w D0 _ _ _ Tryd.underlying4
  generalize D0 + 1 = D at h_bool ⊢
  have key : (Op.eqFields D #[.bool p.r, .bool p.w, .bool p.x, .bool p.u] #[.bool q.r, .bool q.w, .bool q.x, .bool q.u] (Program.fieldsOf Tryd.prog 47).toList).run Tryd.prog w = .ok (p.r == q.r && (p.w == q.w && (p.x == q.x && (p.u == q.u && true)))) w := by
    simp only [Program.fieldsOf, Tryd.underlying47]
    refine run_eqF ?_ (part_bool (by simp)) (part_bool (by simp)) (h_bool _ _) ?_
    · simp
    refine run_eqF ?_ (part_bool (by simp)) (part_bool (by simp)) (h_bool _ _) ?_
    · simp
    refine run_eqF ?_ (part_bool (by simp)) (part_bool (by simp)) (h_bool _ _) ?_
    · simp
    refine run_eqF ?_ (part_bool (by simp)) (part_bool (by simp)) (h_bool _ _) ?_
    · simp
    simp [Op.eqFields, Sem.run_pure]
  first
    | exact key
    | (simp only [Program.fieldsOf, Tryd.underlying47] at key ⊢; exact key)
theorem eql_pm (w : World) (p q : Pm) : (binOp .eql 47 (.agg (pmC p)) (.agg (pmC q))).run Tryd.prog w = .ok (.bool (decide (p = q))) w := by
  rw [run_eql_struct, show (10000 : Nat) = 9998 + 1 + 1 from rfl, eqlIn_pm 9998]; rfl
theorem neq_pm (w : World) (p q : Pm) : (binOp .neq 47 (.agg (pmC p)) (.agg (pmC q))).run Tryd.prog w = .ok (.bool (!decide (p = q))) w := neq_of_eql (eql_pm w p q)
theorem pm_guard : Tryd.prog.eqGuardType Tryd.prog.depth 47 = false := by kernel_rfl
end Go.Proofs.YtcllbidhjggjiaaDoor
/- Entries and permissions (api.Pte, api.Perm): as values, as they come in, held against one another, stored and loaded whole. -/
namespace Go.Proofs.YtcllbidhjggjiaaDoor
open Go.ChangeShapes Go.WideShapes Go.ChangeAt Go.RowKit Go.Joins Go.Deep
set_option linter.unusedVariables false
set_option linter.unusedSimpArgs false
set_option maxRecDepth 10000

theorem array11 {α : Type} {cs : Array α} (h : cs.size = 11) : ∃ c0 c1 c2 c3 c4 c5 c6 c7 c8 c9 c10, cs = #[c0, c1, c2, c3, c4, c5, c6, c7, c8, c9, c10] := by
  obtain ⟨l⟩ := cs
  match l, h with
  | [c0, c1, c2, c3, c4, c5, c6, c7, c8, c9, c10], _ => exact ⟨c0, c1, c2, c3, c4, c5, c6, c7, c8, c9, c10, rfl⟩

/-- an entry -/
structure Pt where
  v : Bool
  r : Bool
  w : Bool
  x : Bool
  u : Bool
  g : Bool
  a : Bool
  d : Bool
  rs : Nat
  pp : Nat
  hi : Nat
deriving DecidableEq
def Pt.ok (p : Pt) : Prop := p.rs < 18446744073709551616 ∧ p.pp < 18446744073709551616 ∧ p.hi < 18446744073709551616
def ptC (p : Pt) : Array Value := #[.bool p.v, .bool p.r, .bool p.w, .bool p.x, .bool p.u, .bool p.g, .bool p.a, .bool p.d, .int .u64 (p.rs : Int), .int .u64 (p.pp : Int), .int .u64 (p.hi : Int)]
theorem ptC_def (v r w x u g a d : Bool) (rs pp hi : Nat) : ptC ⟨v, r, w, x, u, g, a, d, rs, pp, hi⟩ = #[.bool v, .bool r, .bool w, .bool x, .bool u, .bool g, .bool a, .bool d, .int .u64 (rs : Int), .int .u64 (pp : Int), .int .u64 (hi : Int)] := rfl
theorem ptC_eq (p : Pt) : ptC p = #[.bool p.v, .bool p.r, .bool p.w, .bool p.x, .bool p.u, .bool p.g, .bool p.a, .bool p.d, .int .u64 (p.rs : Int), .int .u64 (p.pp : Int), .int .u64 (p.hi : Int)] := rfl
theorem ptC_size (p : Pt) : (ptC p).size = 11 := rfl
theorem ptC_one (p : Pt) : (ptC p).all (·.oneCell') = true := by simp [ptC, Value.oneCell']
theorem pt_info (p : Pt) : (Tryd.prog.info? 53).map (·.size) = some (ptC p).size := by rw [ptC_size]; kernel_rfl
attribute [irreducible] ptC

section
variable {H : Type} {enc : TypeId × Value → H}
theorem open_pte {W : World} {b0 : Nat} {v : Value} {d : DataW H} {p : List MemPlace} (hv : Value.okWide Tryd.prog W .any b0 53 v) (h : DataW.Trod enc Tryd.prog W 0 (fun _ => true) true 53 v d p) :
    ∃ P : Pt, v = .agg (ptC P) ∧ P.ok := by
  obtain ⟨cs, rfl, hsz, n, hf⟩ := open_aggs Tryd.underlying53 (by kernel_rfl) (by kernel_rfl) hv h
  obtain ⟨c0, c1, c2, c3, c4, c5, c6, c7, c8, c9, c10, rfl⟩ := array11 hsz
  obtain ⟨_, h0⟩ := hf 0 _ _ rfl rfl
  obtain ⟨_, h1⟩ := hf 1 _ _ rfl rfl
  obtain ⟨_, h2⟩ := hf 2 _ _ rfl rfl
  obtain ⟨_, h3⟩ := hf 3 _ _ rfl rfl
  obtain ⟨_, h4⟩ := hf 4 _ _ rfl rfl
  obtain ⟨_, h5⟩ := hf 5 _ _ rfl rfl
  obtain ⟨_, h6⟩ := hf 6 _ _ rfl rfl
  obtain ⟨_, h7⟩ := hf 7 _ _ rfl rfl
  obtain ⟨_, h8⟩ := hf 8 _ _ rfl rfl
  obtain ⟨_, h9⟩ := hf 9 _ _ rfl rfl
  obtain ⟨_, h10⟩ := hf 10 _ _ rfl rfl
  obtain ⟨b0, rfl⟩ := open_boolf Tryd.underlying4 h0
  obtain ⟨b1, rfl⟩ := open_boolf Tryd.underlying4 h1
  obtain ⟨b2, rfl⟩ := open_boolf Tryd.underlying4 h2
  obtain ⟨b3, rfl⟩ := open_boolf Tryd.underlying4 h3
  obtain ⟨b4, rfl⟩ := open_boolf Tryd.underlying4 h4
  obtain ⟨b5, rfl⟩ := open_boolf Tryd.underlying4 h5
  obtain ⟨b6, rfl⟩ := open_boolf Tryd.underlying4 h6
  obtain ⟨b7, rfl⟩ := open_boolf Tryd.underlying4 h7
  obtain ⟨z8, rfl, w8⟩ := open_u64f Tryd.underlying22 h8
  obtain ⟨z9, rfl, w9⟩ := open_u64f Tryd.underlying22 h9
  obtain ⟨z10, rfl, w10⟩ := open_u64f Tryd.underlying22 h10
  exact ⟨⟨b0, b1, b2, b3, b4, b5, b6, b7, z8, z9, z10⟩, by rw [ptC_def], w8, w9, w10⟩
theorem open_perm {W : World} {b0 : Nat} {v : Value} {d : DataW H} {p : List MemPlace} (hv : Value.okWide Tryd.prog W .any b0 47 v) (h : DataW.Trod enc Tryd.prog W 0 (fun _ => true) true 47 v d p) :
    ∃ P : Pm, v = .agg (pmC P) := by
  obtain ⟨P, h, _⟩ := open_pm hv h
  exact ⟨P, h⟩
end

/-! structs held against one another -/
theorem eqlIn_pt (D0 : Nat) (w : World) (p q : Pt) : (Op.equalIn (D0 + 1 + 1) 53 (.agg (ptC p)) (.agg (ptC q))).run Tryd.prog w = .ok (decide (p = q)) w := by
  have hp : Tryd.prog.stoodInHeld 53 = false := by kernel_rfl
  rw [run_equalIn_agg w _ _ _ _ (by simp [Program.fieldsOf, Tryd.underlying53]) hp, ptC_eq p, ptC_eq q]
  simp only [Program.fieldsOf, Tryd.underlying53]
  have hd : decide (p = q) = (p.v == q.v && (p.r == q.r && (p.w == q.w && (p.x == q.x && (p.u == q.u && (p.g == q.g && (p.a == q.a && (p.d == q.d && ((p.rs : Int) == q.rs && ((p.pp : Int) == q.pp && ((p.hi : Int) == q.hi && true))))))))))) := by
    obtain ⟨v, r, w, x, u, g, a, d, rs, pp, hi⟩ := p
    obtain ⟨v', r', w', x', u', g', a', d', rs', pp', hi'⟩ := q
    rw [Bool.eq_iff_iff]
    simp
    omega
  rw [hd]
  have hi : ∀ a b : Int, (Op.equalIn (D0 + 1) 22 (.int .u64 a) (.int .u64 b)).run Tryd.prog w = .ok (a == b) w := fun a b => run_equalIn_int w D0 _ _ _ _ _ Tryd.underlying22
  have hb : ∀ a b : Bool, (Op.equalIn (D0 + 1) 4 (.bool a) (.bool b)).run Tryd.prog w = .ok (a == b) w := fun a b => run_equalIn_bool' w D0 _ _ _ Tryd.underlying4
  generalize D0 + 1 = D at hi hb ⊢
  have key : (Op.eqFields D #[.bool p.v, .bool p.r, .bool p.w, .bool p.x, .bool p.u, .bool p.g, .bool p.a, .bool p.d, .int .u64 (p.rs : Int), .int .u64 (p.pp : Int), .int .u64 (p.hi : Int)] #[.bool q.v, .bool q.r, .bool q.w, .bool q.x, .bool q.u, .bool q.g, .bool q.a, .bool q.d, .int .u64 (q.rs : Int), .int .u64 (q.pp : Int), .int .u64 (q.hi : Int)] (Program.fieldsOf Tryd.prog 53).toList).run Tryd.prog w = .ok (p.v == q.v && (p.r == q.r && (p.w == q.w && (p.x == q.x && (p.u == q.u && (p.g == q.g && (p.a == q.a && (p.d == q.d && ((p.rs : Int) == q.rs && ((p.pp : Int) == q.pp && ((p.hi : Int) == q.hi && true))))))))))) w := by
    simp only [Program.fieldsOf, Tryd.underlying53]
    refine run_eqF ?_ (part_bool (by simp)) (part_bool (by simp)) (hb _ _) ?_
    · simp
    refine run_eqF ?_ (part_bool (by simp)) (part_bool (by simp)) (hb _ _) ?_
    · simp
    refine run_eqF ?_ (part_bool (by simp)) (part_bool (by simp)) (hb _ _) ?_
    · simp
    refine run_eqF ?_ (part_bool (by simp)) (part_bool (by simp)) (hb _ _) ?_
    · simp
    refine run_eqF ?_ (part_bool (by simp)) (part_bool (by simp)) (hb _ _) ?_
    · simp
    refine run_eqF ?_ (part_bool (by simp)) (part_bool (by simp)) (hb _ _) ?_
    · simp
    refine run_eqF ?_ (part_bool (by simp)) (part_bool (by simp)) (hb _ _) ?_
    · simp
    refine run_eqF ?_ (part_bool (by simp)) (part_bool (by simp)) (hb _ _) ?_
    · simp
    refine run_eqF ?_ (part_u64 (by simp)) (part_u64 (by simp)) (hi _ _) ?_
    · simp
    refine run_eqF ?_ (part_u64 (by simp)) (part_u64 (by simp)) (hi _ _) ?_
    · simp
    refine run_eqF ?_ (part_u64 (by simp)) (part_u64 (by simp)) (hi _ _) ?_
    · simp
    simp [Op.eqFields, Sem.run_pure]
  simp only [Program.fieldsOf, Tryd.underlying53] at key
  exact key
theorem eql_pte (w : World) (p q : Pt) : (binOp .eql 53 (.agg (ptC p)) (.agg (ptC q))).run Tryd.prog w = .ok (.bool (decide (p = q))) w := by
  rw [run_eql_struct, show (10000 : Nat) = 9998 + 1 + 1 from rfl, eqlIn_pt 9998]; rfl
theorem neq_pte (w : World) (p q : Pt) : (binOp .neq 53 (.agg (ptC p)) (.agg (ptC q))).run Tryd.prog w = .ok (.bool (!decide (p = q))) w := neq_of_eql (eql_pte w p q)
theorem eql_perm (w : World) (p q : Pm) : (binOp .eql 47 (.agg (pmC p)) (.agg (pmC q))).run Tryd.prog w = .ok (.bool (decide (p = q))) w := eql_pm w p q
theorem pte_guard : Tryd.prog.eqGuardType Tryd.prog.depth 53 = false := by kernel_rfl
theorem perm_guard : Tryd.prog.eqGuardType Tryd.prog.depth 47 = false := pm_guard

end Go.Proofs.YtcllbidhjggjiaaDoor
/- A fault (api.Fault): as values, as they come in, held against one another, stored and loaded whole. Written by mkstruct.py. -/
namespace Go.Proofs.YtcllbidhjggjiaaDoor
open Go.ChangeShapes Go.WideShapes Go.ChangeAt Go.RowKit Go.Joins Go.Deep
set_option linter.unusedVariables false
set_option linter.unusedSimpArgs false
set_option maxRecDepth 10000

structure Ft where
  b : Bool
  c : Int
  a : Nat
deriving DecidableEq
def Ft.ok (p : Ft) : Prop := (-9223372036854775808 ≤ p.c ∧ p.c ≤ 9223372036854775807) ∧ p.a < 18446744073709551616
def ftC (p : Ft) : Array Value := #[.bool p.b, .int .i64 p.c, .int .u64 (p.a : Int)]
theorem ftC_def (b : Bool) (c : Int) (a : Nat) : ftC ⟨b, c, a⟩ = #[.bool b, .int .i64 c, .int .u64 (a : Int)] := rfl
theorem ftC_eq (p : Ft) : ftC p = #[.bool p.b, .int .i64 p.c, .int .u64 (p.a : Int)] := rfl
theorem ftC_size (p : Ft) : (ftC p).size = 3 := rfl
theorem ftC_one (p : Ft) : (ftC p).all (·.oneCell') = true := by simp [ftC, Value.oneCell']
theorem ft_info (p : Ft) : (Tryd.prog.info? 57).map (·.size) = some (ftC p).size := by rw [ftC_size]; kernel_rfl
theorem Blk.ft {w : World} {g : Nat} {t : TypeId} {p : Ft} (h : Blk w g t (ftC p)) : w.cell? ⟨g, 0, none⟩ = some (.bool p.b) ∧ w.cell? ⟨g, 1, none⟩ = some (.int .i64 p.c) ∧ w.cell? ⟨g, 2, none⟩ = some (.int .u64 (p.a : Int)) := ⟨h.cell 0, h.cell 1, h.cell 2⟩
attribute [irreducible] ftC

theorem ft_array {α : Type} {cs : Array α} (h : cs.size = 3) : ∃ c0 c1 c2, cs = #[c0, c1, c2] := by
  obtain ⟨l⟩ := cs
  match l, h with
  | [c0, c1, c2], _ => exact ⟨c0, c1, c2, rfl⟩
theorem open_ft {H : Type} {enc : TypeId × Value → H} {W : World} {b0 : Nat} {v : Value} {d : DataW H} {p : List MemPlace} (hv : Value.okWide Tryd.prog W .any b0 57 v) (h : DataW.Trod enc Tryd.prog W 0 (fun _ => true) true 57 v d p) :
    ∃ P : Ft, v = .agg (ftC P) ∧ P.ok := by
  obtain ⟨cs, rfl, hsz, n, hf⟩ := open_aggs Tryd.underlying57 (by kernel_rfl) (by kernel_rfl) hv h
  obtain ⟨c0, c1, c2, rfl⟩ := ft_array hsz
  obtain ⟨_, h0⟩ := hf 0 _ _ rfl rfl
  obtain ⟨_, h1⟩ := hf 1 _ _ rfl rfl
  obtain ⟨_, h2⟩ := hf 2 _ _ rfl rfl
  obtain ⟨z0, rfl⟩ := open_boolf Tryd.underlying4 h0
  obtain ⟨z1, rfl, w1⟩ := open_intf Tryd.underlying3 h1
  obtain ⟨z2, rfl, w2⟩ := open_u64f Tryd.underlying22 h2
  exact ⟨⟨z0, z1, z2⟩, by rw [ftC_def], bounds_i64 w1, w2⟩

theorem eql_ft (w : World) (p q : Ft) : (binOp .eql 57 (.agg (ftC p)) (.agg (ftC q))).run Tryd.prog w = .ok (.bool (decide (p = q))) w := by
  have hp : Tryd.prog.stoodInHeld 57 = false := by kernel_rfl
  rw [run_eql_struct, show (10000 : Nat) = 9998 + 1 + 1 from rfl, run_equalIn_agg w _ _ _ _ (by simp [Program.fieldsOf, Tryd.underlying57]) hp, ftC_eq p, ftC_eq q]
  have hd : decide (p = q) = (p.b == q.b && (p.c == q.c && ((p.a : Int) == q.a && true))) := by
    obtain ⟨b, c, a⟩ := p
    obtain ⟨b', c', a'⟩ := q
    rw [Bool.eq_iff_iff]
    simp
    omega
  rw [hd]
  have h_bool : ∀ a b : Bool, (Op.equalIn (9998 + 1) 4 (.bool a) (.bool b)).run Tryd.prog w = .ok (a == b) w := fun a b => run_equalIn_bool' w 9998 _ _ _ Tryd.underlying4
  have h_i64 : ∀ a b : Int, (Op.equalIn (9998 + 1) 3 (.int .i64 a) (.int .i64 b)).run Tryd.prog w = .ok (a == b) w := fun a b => run_equalIn_int w 9998 _ _ _ _ _ Tryd.underlying3
  have h_u64 : ∀ a b : Int, (Op.equalIn (9998 + 1) 22 (.int .u64 a) (.int .u64 b)).run Tryd.prog w = .ok (a == b) w := fun a b => run_equalIn_int w 9998 _ _ _ _ _ Tryd.underlying22
  generalize 9998 + 1 = D at h_bool h_i64 h_u64 ⊢
  have key : (Op.eqFields D #[.bool p.b, .int .i64 p.c, .int .u64 (p.a : Int)] #[.bool q.b, .int .i64 q.c, .int .u64 (q.a : Int)] (Program.fieldsOf Tryd.prog 57).toList).run Tryd.prog w = .ok (p.b == q.b && (p.c == q.c && ((p.a : Int) == q.a && true))) w := by
    simp only [Program.fieldsOf, Tryd.underlying57]
    refine run_eqF ?_ (part_bool (by simp)) (part_bool (by simp)) (h_bool _ _) ?_
    · simp
    refine run_eqF ?_ (part_int Tryd.underlying3 (by simp)) (part_int Tryd.underlying3 (by simp)) (h_i64 _ _) ?_
    · simp
    refine run_eqF ?_ (part_u64 (by simp)) (part_u64 (by simp)) (h_u64 _ _) ?_
    · simp
    simp [Op.eqFields, Sem.run_pure]
  first
    | (rw [key]; rfl)
    | (simp only [Program.fieldsOf, Tryd.underlying57] at key ⊢; rw [key]; rfl)
theorem neq_ft (w : World) (p q : Ft) : (binOp .neq 57 (.agg (ftC p)) (.agg (ftC q))).run Tryd.prog w = .ok (.bool (!decide (p = q))) w := neq_of_eql (eql_ft w p q)
theorem ft_guard : Tryd.prog.eqGuardType Tryd.prog.depth 57 = false := by kernel_rfl
end Go.Proofs.YtcllbidhjggjiaaDoor
/- A leaf (api.Leaf): as values, held against one another, stored and loaded whole and by parts. Written by mkstruct2.py. -/
namespace Go.Proofs.YtcllbidhjggjiaaDoor
open Go.ChangeShapes Go.WideShapes Go.ChangeAt Go.RowKit Go.Joins Go.Deep
set_option linter.unusedVariables false
set_option linter.unusedSimpArgs false
set_option maxRecDepth 10000

structure Lf where
  lv : Int
  at' : Nat
  pt : Pt
deriving DecidableEq
def Lf.ok (p : Lf) : Prop := (-9223372036854775808 ≤ p.lv ∧ p.lv ≤ 9223372036854775807) ∧ p.at' < 18446744073709551616 ∧ p.pt.ok
def lfC (p : Lf) : Array Value := #[.int .i64 p.lv, .int .u64 (p.at' : Int)] ++ ptC p.pt
theorem lfC_def (lv : Int) (at' : Nat) (pt : Pt) : lfC ⟨lv, at', pt⟩ = #[.int .i64 lv, .int .u64 (at' : Int)] ++ ptC pt := rfl
theorem lfC_eq (p : Lf) : lfC p = #[.int .i64 p.lv, .int .u64 (p.at' : Int)] ++ ptC p.pt := rfl
theorem lfC_size (p : Lf) : (lfC p).size = 13 := by simp only [lfC_eq, ptC_eq]; rfl
theorem lfC_one (p : Lf) : (lfC p).all (·.oneCell') = true := by simp only [lfC_eq, ptC_eq]; simp [Value.oneCell']
theorem lf_info (p : Lf) : (Tryd.prog.info? 55).map (·.size) = some (lfC p).size := by rw [lfC_size]; kernel_rfl
theorem lfC_lv (p : Lf) : (lfC p)[0]? = some (.int .i64 p.lv) := by simp only [lfC_eq, ptC_eq]; rfl
theorem lfC_set_lv (p : Lf) (x : Int) : (lfC p).setIfInBounds 0 (.int .i64 x) = lfC { p with lv := x } := by simp only [lfC_eq, ptC_eq]; rfl
theorem lfC_at' (p : Lf) : (lfC p)[1]? = some (.int .u64 (p.at' : Int)) := by simp only [lfC_eq, ptC_eq]; rfl
theorem lfC_set_at' (p : Lf) (x : Nat) : (lfC p).setIfInBounds 1 (.int .u64 (x : Int)) = lfC { p with at' := x } := by simp only [lfC_eq, ptC_eq]; rfl
theorem lfC_pt (p : Lf) : (lfC p).extract 2 (2 + (ptC p.pt).size) = ptC p.pt := by rw [ptC_size]; simp only [lfC_eq, ptC_eq]; kernel_rfl
theorem lfC_set_pt (p : Lf) (q : Pt) : putAt (lfC p) 2 (ptC q).toList = lfC { p with pt := q } := by simp only [lfC_eq, ptC_eq]; kernel_rfl
theorem Blk.lf_lv {w : World} {g : Nat} {t : TypeId} {p : Lf} (h : Blk w g t (lfC p)) : w.cell? ⟨g, 0, none⟩ = some (.int .i64 p.lv) := (h.cell 0).trans (lfC_lv p)
theorem Blk.lf_at' {w : World} {g : Nat} {t : TypeId} {p : Lf} (h : Blk w g t (lfC p)) : w.cell? ⟨g, 1, none⟩ = some (.int .u64 (p.at' : Int)) := (h.cell 1).trans (lfC_at' p)
theorem Blk.lf_pt {w : World} {g : Nat} {t : TypeId} {p : Lf} (h : Blk w g t (lfC p)) : w.rangeAt g 2 (ptC p.pt).toList := h.part 2 (lfC_pt p)
theorem lf_build (p : Lf) : Tryd.prog.built 55 [(0, .int .i64 p.lv), (1, .int .u64 (p.at' : Int)), (2, .agg (ptC p.pt))] = some (lfC p) := by simp only [lfC_eq, ptC_eq]; kernel_rfl
attribute [irreducible] lfC

theorem eqlIn_lf (D0 : Nat) (w : World) (p q : Lf) : (Op.equalIn (D0 + 1 + 1 + 1) 55 (.agg (lfC p)) (.agg (lfC q))).run Tryd.prog w = .ok (decide (p = q)) w := by
  have hp : Tryd.prog.stoodInHeld 55 = false := by kernel_rfl
  rw [run_equalIn_agg w _ _ _ _ (by simp [Program.fieldsOf, Tryd.underlying55]) hp]
  have hd : decide (p = q) = (p.lv == q.lv && ((p.at' : Int) == q.at' && (decide (p.pt = q.pt) && true))) := by
    obtain ⟨lv, at', pt⟩ := p
    obtain ⟨lv', at'', pt'⟩ := q
    rw [Bool.eq_iff_iff]
    simp
    omega
  rw [hd]
  have h_i64 : ∀ a b : Int, (Op.equalIn (D0 + 1 + 1) 3 (.int .i64 a) (.int .i64 b)).run Tryd.prog w = .ok (a == b) w := fun a b => run_equalIn_int w (D0 + 1) _ _ _ _ _ Tryd.underlying3
  have h_u64 : ∀ a b : Int, (Op.equalIn (D0 + 1 + 1) 22 (.int .u64 a) (.int .u64 b)).run Tryd.prog w = .ok (a == b) w := fun a b => run_equalIn_int w (D0 + 1) _ _ _ _ _ Tryd.underlying22
  have h_pt : ∀ a b : Pt, (Op.equalIn (D0 + 1 + 1) 53 (.agg (ptC a)) (.agg (ptC b))).run Tryd.prog w = .ok (decide (a = b)) w := fun a b => eqlIn_pt (D0) w a b
  generalize D0 + 1 + 1 = D at h_i64 h_u64 h_pt ⊢
  have key : (Op.eqFields D (lfC p) (lfC q) (Program.fieldsOf Tryd.prog 55).toList).run Tryd.prog w = .ok (p.lv == q.lv && ((p.at' : Int) == q.at' && (decide (p.pt = q.pt) && true))) w := by
    simp only [Program.fieldsOf, Tryd.underlying55]
    refine run_eqF ?_ (part_int Tryd.underlying3 (lfC_lv p)) (part_int Tryd.underlying3 (lfC_lv q)) (h_i64 _ _) ?_
    · simp
    refine run_eqF ?_ (part_u64 (lfC_at' p)) (part_u64 (lfC_at' q)) (h_u64 _ _) ?_
    · simp
    refine run_eqF ?_ (part_agg Tryd.underlying53 rfl (by rw [ptC_size]; kernel_rfl) (lfC_pt p)) (part_agg Tryd.underlying53 rfl (by rw [ptC_size]; kernel_rfl) (lfC_pt q)) (h_pt _ _) ?_
    · simp
    simp [Op.eqFields, Sem.run_pure]
  first
    | exact key
    | (simp only [Program.fieldsOf, Tryd.underlying55] at key ⊢; exact key)
theorem eql_lf (w : World) (p q : Lf) : (binOp .eql 55 (.agg (lfC p)) (.agg (lfC q))).run Tryd.prog w = .ok (.bool (decide (p = q))) w := by
  rw [run_eql_struct, show (10000 : Nat) = 9997 + 1 + 1 + 1 from rfl, eqlIn_lf 9997]; rfl
theorem neq_lf (w : World) (p q : Lf) : (binOp .neq 55 (.agg (lfC p)) (.agg (lfC q))).run Tryd.prog w = .ok (.bool (!decide (p = q))) w := neq_of_eql (eql_lf w p q)
theorem lf_guard : Tryd.prog.eqGuardType Tryd.prog.depth 55 = false := by kernel_rfl
end Go.Proofs.YtcllbidhjggjiaaDoor
/- Ways of access (api.Way): as values, as they come in, held against one another, stored and loaded whole. Written by mkstruct.py. -/
namespace Go.Proofs.YtcllbidhjggjiaaDoor
open Go.ChangeShapes Go.WideShapes Go.ChangeAt Go.RowKit Go.Joins Go.Deep
set_option linter.unusedVariables false
set_option linter.unusedSimpArgs false
set_option maxRecDepth 10000

structure Wy where
  kd : Int
  pv : Int
  su : Bool
  mx : Bool
deriving DecidableEq
def Wy.ok (p : Wy) : Prop := (-9223372036854775808 ≤ p.kd ∧ p.kd ≤ 9223372036854775807) ∧ (-9223372036854775808 ≤ p.pv ∧ p.pv ≤ 9223372036854775807)
def wyC (p : Wy) : Array Value := #[.int .i64 p.kd, .int .i64 p.pv, .bool p.su, .bool p.mx]
theorem wyC_def (kd : Int) (pv : Int) (su : Bool) (mx : Bool) : wyC ⟨kd, pv, su, mx⟩ = #[.int .i64 kd, .int .i64 pv, .bool su, .bool mx] := rfl
theorem wyC_eq (p : Wy) : wyC p = #[.int .i64 p.kd, .int .i64 p.pv, .bool p.su, .bool p.mx] := rfl
theorem wyC_size (p : Wy) : (wyC p).size = 4 := rfl
theorem wyC_one (p : Wy) : (wyC p).all (·.oneCell') = true := by simp [wyC, Value.oneCell']
theorem Blk.wy {w : World} {g : Nat} {t : TypeId} {p : Wy} (h : Blk w g t (wyC p)) : w.cell? ⟨g, 0, none⟩ = some (.int .i64 p.kd) ∧ w.cell? ⟨g, 1, none⟩ = some (.int .i64 p.pv) ∧ w.cell? ⟨g, 2, none⟩ = some (.bool p.su) ∧ w.cell? ⟨g, 3, none⟩ = some (.bool p.mx) := ⟨h.cell 0, h.cell 1, h.cell 2, h.cell 3⟩
attribute [irreducible] wyC

theorem wy_array {α : Type} {cs : Array α} (h : cs.size = 4) : ∃ c0 c1 c2 c3, cs = #[c0, c1, c2, c3] := by
  obtain ⟨l⟩ := cs
  match l, h with
  | [c0, c1, c2, c3], _ => exact ⟨c0, c1, c2, c3, rfl⟩
end Go.Proofs.YtcllbidhjggjiaaDoor
