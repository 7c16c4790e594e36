/- Layer 19's laws: what they take of package table (TableC). -/
import Derived.Test.YticbjiddbjgikaaDoorGrtab
import Derived.Test.YticbjiddbjgikaaDoorGrsix
import Derived.Test.YticbjiddbjgikaaDoorRfive
import Derived.Test.YticbjiddbjgikaaDoorGflo
import Derived.Test.YticbjiddbjgikaaDoorGrpoo
namespace Go.Proofs.YticbjiddbjgikaaDoor
open Go.ChangeShapes Go.WideShapes Go.ChangeAt Go.RowKit
set_option linter.unusedVariables false
set_option linter.unusedSimpArgs false
set_option maxRecDepth 10000

/-- the spot of an address, of the level 0 -/
def spotN (L : List (Nat × Nat)) (n t a : Nat) : Spt := ⟨(reachT L a 0 n t).1, ((reachT L a 0 n t).2 : Int), tE L (reachT L a 0 n t).1 (ixN a (reachT L a 0 n t).2)⟩
/-- a table's word written -/
def stS (L : List (Nat × Nat)) (s j v : Nat) : List (Nat × Nat) := storeL L (8 * (512 * s + j)) 8 v
theorem TreeOk.of {S : Nat} {L K : List (Nat × Nat)} {n t : Nat} (h : TreeOk S L n t) (e : tabs K n t = tabs L n t) : TreeOk S K n t :=
  ⟨by rw [e]; exact h.lt, by rw [e]; exact h.nd, by rw [e]; exact h.le⟩
/-- where a spot lies -/
structure SpotIn (S : Nat) (L : List (Nat × Nat)) (n t a : Nat) (s l j : Nat) : Prop where
  e : spotN L n t a = ⟨s, (l : Int), tE L s j⟩
  r : reachT L a 0 n t = (s, l)
  m : (s, l) ∈ tabs L n t
  lt : s < S / 4096
  le : l ≤ n
  je : j = ixN a l
  j5 : j < 512
  go : goB L s j l = false
/-- a word written at a spot: it is reached, and other spots are as they were -/
structure Wrote (S : Nat) (L K : List (Nat × Nat)) (n t a s l j : Nat) (p : Pt) : Prop where
  tree : TreeOk S K n t
  tab : tabs K n t = tabs L n t
  spot : spotN K n t a = ⟨s, (l : Int), p⟩
  other : ∀ o, ¬ ((spotN L n t o).tb = s ∧ ixN a l = ixN o l) → spotN K n t o = spotN L n t o
attribute [irreducible] spotN stS
def KG : Wide Pg := ⟨77, 52, 8, 32, pgC, ⟨0, 0, 0, ⟨false, false, false, false⟩, false⟩⟩
theorem kg_ok : WideOk KG := ⟨pgC_size, pgC_one, by decide, Tryd.underlying52, ⟨.agg #[.int .u64 0, .int .u64 0, .int .i64 0, .bool false, .bool false, .bool false, .bool false, .bool false], by kernel_rfl, rfl⟩⟩
/-- a memory, a pool, a frame and an error that are answered -/
def FrT (S : Nat) (K : List (Nat × Nat)) (P M F f : Nat) (e : Int) (w : World) (r : Ending) (w' : World) : Prop :=
  ∃ B d, r = .returned (.tuple #[.agg #[.int .u64 (S : Int), .slice B K.length d], (.agg #[.int .u64 (P : Int), .int .i64 (M : Int), .int .u64 (F : Int)]), .int .u64 (f : Int), .int .i64 e]) ∧ Mem w' S B K d ∧ Ext w w'
/-- a frame whose words are 0 -/
def clrF (L : List (Nat × Nat)) (f : Nat) : List (Nat × Nat) := clearL L (512 * f) (512 * f + 512)
/-- a memory that is answered, in a block of the call's own -/
def MdO (S : Nat) (K : List (Nat × Nat)) (w : World) (r : Ending) (w' : World) : Prop := ∃ B d, r = .returned (.agg #[.int .u64 (S : Int), .slice B K.length d]) ∧ Mem w' S B K d ∧ (∀ lo, Out lo w.heap.size B K.length) ∧ Ext w w'
/-- are all words of a frame 0? -/
def empB (L : List (Nat × Nat)) (f : Nat) : Bool := L.all fun x => x.1 / 512 != f
end Go.Proofs.YticbjiddbjgikaaDoor
