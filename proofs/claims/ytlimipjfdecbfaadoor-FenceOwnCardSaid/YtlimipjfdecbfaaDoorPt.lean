/- Entries and permissions (api.Pte, api.Perm): as values, as they come in, held against one another, stored and loaded whole. -/
import Derived.Test.YtlimipjfdecbfaaDoorRows
import Derived.Test.YtlimipjfdecbfaaDoorBox
import Derived.Test.YtlimipjfdecbfaaDoorAgg
import Derived.Test.YtlimipjfdecbfaaDoorPm
import Derived.Laws.StructEq
import Derived.Laws.Tables
import Derived.Lib.SmallJoins
import Derived.ChangeArms
import Derived.OpenShut
import Derived.BigQuiet
namespace Go.Proofs.YtlimipjfdecbfaaDoor
open Go.ChangeShapes Go.WideShapes Go.ChangeAt Go.RowKit Go.Joins Go.Deep
set_option linter.unusedVariables false
set_option linter.unusedSimpArgs false
set_option maxRecDepth 10000

theorem array11 {α : Type} {cs : Array α} (h : cs.size = 11) : ∃ c0 c1 c2 c3 c4 c5 c6 c7 c8 c9 c10, cs = #[c0, c1, c2, c3, c4, c5, c6, c7, c8, c9, c10] := by
  obtain ⟨l⟩ := cs
  match l, h with
  | [c0, c1, c2, c3, c4, c5, c6, c7, c8, c9, c10], _ => exact ⟨c0, c1, c2, c3, c4, c5, c6, c7, c8, c9, c10, rfl⟩

/-- an entry -/
structure Pt where
  v : Bool
  r : Bool
  w : Bool
  x : Bool
  u : Bool
  g : Bool
  a : Bool
  d : Bool
  rs : Nat
  pp : Nat
  hi : Nat
deriving DecidableEq
def Pt.ok (p : Pt) : Prop := p.rs < 18446744073709551616 ∧ p.pp < 18446744073709551616 ∧ p.hi < 18446744073709551616
def ptC (p : Pt) : Array Value := #[.bool p.v, .bool p.r, .bool p.w, .bool p.x, .bool p.u, .bool p.g, .bool p.a, .bool p.d, .int .u64 (p.rs : Int), .int .u64 (p.pp : Int), .int .u64 (p.hi : Int)]
theorem ptC_def (v r w x u g a d : Bool) (rs pp hi : Nat) : ptC ⟨v, r, w, x, u, g, a, d, rs, pp, hi⟩ = #[.bool v, .bool r, .bool w, .bool x, .bool u, .bool g, .bool a, .bool d, .int .u64 (rs : Int), .int .u64 (pp : Int), .int .u64 (hi : Int)] := rfl
theorem ptC_eq (p : Pt) : ptC p = #[.bool p.v, .bool p.r, .bool p.w, .bool p.x, .bool p.u, .bool p.g, .bool p.a, .bool p.d, .int .u64 (p.rs : Int), .int .u64 (p.pp : Int), .int .u64 (p.hi : Int)] := rfl
theorem ptC_size (p : Pt) : (ptC p).size = 11 := rfl
theorem ptC_one (p : Pt) : (ptC p).all (·.oneCell') = true := by simp [ptC, Value.oneCell']
attribute [irreducible] ptC

section
variable {H : Type} {enc : TypeId × Value → H}
theorem open_perm {W : World} {b0 : Nat} {v : Value} {d : DataW H} {p : List MemPlace} (hv : Value.okWide Tryd.prog W .any b0 26 v) (h : DataW.Trod enc Tryd.prog W 0 (fun _ => true) true 26 v d p) :
    ∃ P : Pm, v = .agg (pmC P) := by
  obtain ⟨P, h, _⟩ := open_pm hv h
  exact ⟨P, h⟩
end

/-! structs held against one another -/
theorem eql_perm (w : World) (p q : Pm) : (binOp .eql 26 (.agg (pmC p)) (.agg (pmC q))).run Tryd.prog w = .ok (.bool (decide (p = q))) w := eql_pm w p q
theorem perm_guard : Tryd.prog.eqGuardType Tryd.prog.depth 26 = false := pm_guard

end Go.Proofs.YtlimipjfdecbfaaDoor
