/- An entry of the buffer (api.Entry): as values, held against one another, stored and loaded whole and by parts. Written by mkstruct2.py. -/
import Derived.Test.YticbjiddbjgikaaDoorGagg
import Derived.Test.YticbjiddbjgikaaDoorGst
import Derived.Test.YticbjiddbjgikaaDoorGfive
import Derived.Test.YticbjiddbjgikaaDoorMsix
import Derived.Test.YticbjiddbjgikaaDoorGpte
import Derived.Test.YticbjiddbjgikaaDoorRfive
import Derived.Test.YticbjiddbjgikaaDoorGrsix
namespace Go.Proofs.YticbjiddbjgikaaDoor
open Go.ChangeShapes Go.WideShapes Go.ChangeAt Go.RowKit Go.Joins Go.Deep
set_option linter.unusedVariables false
set_option linter.unusedSimpArgs false
set_option maxRecDepth 10000

structure En where
  v : Bool
  n : Nat
  g : Bool
  l : Int
  vp : Nat
  pp : Nat
  pm : Pm
  d : Bool
deriving DecidableEq
def En.ok (p : En) : Prop := p.n < 18446744073709551616 ∧ (-9223372036854775808 ≤ p.l ∧ p.l ≤ 9223372036854775807) ∧ p.vp < 18446744073709551616 ∧ p.pp < 18446744073709551616 ∧ p.pm.ok
end Go.Proofs.YticbjiddbjgikaaDoor
/- Entries of the buffer as plain numbers: what may be, what is covered, matched, led, and when two are over one another. -/
namespace Go.Proofs.YticbjiddbjgikaaDoor
set_option linter.unusedVariables false

def pagI (l : Int) : Int := sizI l / 4096
def e0 : En := ⟨false, 0, false, 0, 0, 0, ⟨false, false, false, false⟩, false⟩
theorem pag0 : pagI 0 = 1 := by unfold pagI; rw [siz0]; decide
theorem pag1 : pagI 1 = 512 := by unfold pagI; rw [siz1]; decide
theorem pag2 : pagI 2 = 262144 := by unfold pagI; rw [siz2]; decide
/-- what holds of an entry that may be and is Valid -/
structure MayV (e : En) : Prop where
  l0 : 0 ≤ e.l
  l2 : e.l ≤ 2
  vp : e.vp < 134217728
  pp : e.pp < 17592186044416
  n : e.n < 65536
  vm : (e.vp : Int) % pagI e.l = 0
  pm : (e.pp : Int) % pagI e.l = 0
structure LeafV (l : Lf) : Prop where
  l0 : 0 ≤ l.lv
  l2 : l.lv ≤ 2
  pp : l.pt.pp < 17592186044416
  pm : (l.pt.pp : Int) % pagI l.lv = 0
attribute [irreducible] pagI e0

end Go.Proofs.YticbjiddbjgikaaDoor
/- Package entry: number, Covers, Matches, Physical, Over. -/
namespace Go.Proofs.YticbjiddbjgikaaDoor
open Go.ChangeShapes Go.WideShapes Go.ChangeAt Go.RowKit
set_option linter.unusedVariables false
set_option linter.unusedSimpArgs false
set_option maxRecDepth 10000

end Go.Proofs.YticbjiddbjgikaaDoor
/- Package entry: Of, trimmed, May. -/
namespace Go.Proofs.YticbjiddbjgikaaDoor
open Go.ChangeShapes Go.WideShapes Go.ChangeAt Go.RowKit
set_option linter.unusedVariables false
set_option linter.unusedSimpArgs false
set_option maxRecDepth 10000

end Go.Proofs.YticbjiddbjgikaaDoor
/- The document's answers for layer 12 (package atlasref12), and a leaf's address: the same as package entry's. -/
namespace Go.Proofs.YticbjiddbjgikaaDoor
open Go.ChangeShapes Go.WideShapes Go.ChangeAt Go.RowKit
set_option linter.unusedVariables false
set_option linter.unusedSimpArgs false
set_option maxRecDepth 10000

theorem rpages_l (l s p : Int) (hs : (s = 4096 ∧ p = 1) ∨ (s = 2097152 ∧ p = 512) ∨ (s = 1073741824 ∧ p = 262144)) (hz : ∀ w, Calls Tryd.prog 44 #[.int .i64 l] w fun e w' => e = .returned (.int .u64 s) ∧ w = w') (w : World) :
    Calls Tryd.prog 37 #[.int .i64 l] w fun e w' => e = .returned (.int .u64 p) ∧ w = w' := by
  rcases hs with ⟨rfl, rfl⟩ | ⟨rfl, rfl⟩ | ⟨rfl, rfl⟩
  all_goals
    go_enter Tryd.func37, Tryd.ntmps37
    go_wp2_with (go_at_call 44; refine (hz _).mono ?_; rintro e w' ⟨rfl, rfl⟩)
    go_ret
    exact ⟨rfl, rfl⟩
theorem siz_pag {l : Int} (l0 : 0 ≤ l) (l2 : l ≤ 2) : (sizI l = 4096 ∧ pagI l = 1) ∨ (sizI l = 2097152 ∧ pagI l = 512) ∨ (sizI l = 1073741824 ∧ pagI l = 262144) := by
  rcases level_lt l0 l2 with rfl | rfl | rfl
  · exact .inl ⟨siz0, pag0⟩
  · exact .inr (.inl ⟨siz1, pag1⟩)
  · exact .inr (.inr ⟨siz2, pag2⟩)
theorem rpages_c (l : Int) (l0 : 0 ≤ l) (l2 : l ≤ 2) (w : World) :
    Calls Tryd.prog 37 #[.int .i64 l] w fun e w' => e = .returned (.int .u64 (pagI l)) ∧ w = w' :=
  rpages_l l (sizI l) (pagI l) (siz_pag l0 l2) (fun w => rsize5_c l l0 l2 w) w
/-! Covers, Matches, Physical, Over -/
end Go.Proofs.YticbjiddbjgikaaDoor
