/- Package walk: what each function answers. -/
import Derived.Test.YtcllbidhjggjiaaDoorMem
import Derived.Test.YtcllbidhjggjiaaDoorGten
import Derived.Test.YtcllbidhjggjiaaDoorGpte
import Derived.Test.YtcllbidhjggjiaaDoorGnine
import Derived.Test.YtcllbidhjggjiaaDoorGeight
namespace Go.Proofs.YtcllbidhjggjiaaDoor
open Go.ChangeShapes Go.WideShapes Go.ChangeAt Go.RowKit
set_option linter.unusedVariables false
set_option linter.unusedSimpArgs false
set_option maxRecDepth 10000

/-- the tables of the packages va and cause lie in their variables -/
def Lay (w : World) : Prop := Siz w
theorem Lay.ext {w w' : World} (h : Lay w) (hE : Ext w w') : Lay w' := Siz.ext h hE

theorem ptC_5 (p : Pt) : (ptC p)[5]? = some (.bool p.g) := by rw [ptC_eq]; rfl
theorem lfC_zero : lfC zLf = #[.int .i64 0, .int .u64 0, .bool false, .bool false, .bool false, .bool false, .bool false, .bool false, .bool false, .bool false, .int .u64 0, .int .u64 0, .int .u64 0] := by
  unfold zLf zPt; rw [lfC_def, ptC_def]; kernel_rfl
theorem ptC_set5 (p : Pt) (b : Bool) : (ptC p).setIfInBounds 5 (.bool b) = ptC (globP p b) := by unfold globP; simp only [ptC_eq]; rfl
theorem ptC_9 (p : Pt) : (ptC p)[9]? = some (.int .u64 (p.pp : Int)) := by rw [ptC_eq]; rfl
def zFt : Ft := ⟨false, 0, 0⟩
theorem ftC_z : ftC zFt = #[.bool false, .int .i64 0, .int .u64 0] := by unfold zFt; rw [ftC_def]; rfl
theorem flt_zero (kd a : Nat) : fltF 0 kd a = zFt := by unfold fltF; rw [if_pos rfl]; rfl
theorem flt_page (kd a : Nat) : fltF 2 kd a = ⟨true, cauI (6 + kd), a⟩ := by unfold fltF; rw [if_neg (by decide)]
theorem flt_access (kd a : Nat) : fltF 1 kd a = ⟨true, cauI (3 + kd), a⟩ := by unfold fltF; rw [if_neg (by decide)]
theorem look_not {S : Nat} {L : List (Nat × Nat)} {r a : Nat} (h : vaB (a : Int) = false) : lookN S L r a = ⟨2, zLf⟩ := by unfold lookN; rw [h]; rfl
theorem look_yes {S : Nat} {L : List (Nat × Nat)} {r a : Nat} (h : vaB (a : Int) = true) : lookN S L r a = downN S L a 2 r false := by unfold lookN; rw [h]; rfl

end Go.Proofs.YtcllbidhjggjiaaDoor
/- Package walk: Mark, Walk, Physical. -/
namespace Go.Proofs.YtcllbidhjggjiaaDoor
open Go.ChangeShapes Go.WideShapes Go.ChangeAt Go.RowKit
set_option linter.unusedVariables false
set_option linter.unusedSimpArgs false
set_option maxRecDepth 10000

theorem array_leaf_size (l : Lf) : (lfC l).size = 13 := lfC_size l
/-- what a mark leaves -/
def Marked (A0 : Option Addr) (S : Nat) (L : List (Nat × Nat)) (l : Lf) (d : Bool) (w : World) (e : Ending) (w' : World) : Prop :=
  ∃ A c, e = .returned (.tuple #[.agg #[.int .u64 (S : Int), .slice A (markL L l.at' d).length c], .agg (lfC { l with pt := usedP l.pt d })]) ∧ Mem w' S A (markL L l.at' d) c ∧ (∀ lo hi, hi ≤ w.heap.size → Out lo hi A0 L.length → Out lo hi A (markL L l.at' d).length) ∧ Ext w w'

/-- what a walk leaves -/
def Walked (A0 : Option Addr) (S : Nat) (L : List (Nat × Nat)) (r a : Nat) (y : Wy) (w : World) (e : Ending) (w' : World) : Prop :=
  ∃ A c, e = .returned (.tuple #[.agg #[.int .u64 (S : Int), .slice A (walkL S L r a y).length c], .agg (lfC (walkF S L r a y)), .agg (ftC (fltF (walkS S L r a y) y.kd.toNat a))]) ∧ Mem w' S A (walkL S L r a y) c ∧
    (∀ lo hi, hi ≤ w.heap.size → Out lo hi A0 L.length → Out lo hi A (walkL S L r a y).length) ∧ Ext w w'
theorem lf_build0 : Tryd.prog.built 55 [] = some (lfC zLf) := by rw [lfC_zero]; kernel_rfl
theorem ft_build0 : Tryd.prog.built 57 [] = some (ftC zFt) := by rw [ftC_z]; kernel_rfl
end Go.Proofs.YtcllbidhjggjiaaDoor
