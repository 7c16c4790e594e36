/- atlasref20: To, over what Leaf answers. -/
import Derived.Test.YticbjiddbjgikaaDoorGsplm
import Derived.Test.YticbjiddbjgikaaDoorGrspm
namespace Go.Proofs.YticbjiddbjgikaaDoor
open Go.ChangeShapes Go.WideShapes Go.ChangeAt Go.RowKit
set_option linter.unusedVariables false
set_option linter.unusedSimpArgs false
set_option maxRecDepth 10000
attribute [local irreducible] World.setRow World.alloc Blk
/-- what Leaf answers -/
structure LeafC (S P M n t : Nat) : Prop where
  no : ∀ {L : List (Nat × Nat)} {B : Option Addr} {d s l a : Nat} (w : World), Mem w S B L d → Calls Tryd.prog 18 #[.agg #[.int .u64 (S : Int), .slice B L.length d], (.agg #[.int .u64 (P : Int), .int .i64 (M : Int), .int .u64 (0 : Int)]), .agg (sptC ⟨s, (l : Int), tE L s (ixN a l)⟩), .int .u64 (a : Int)] w fun r w' => ∃ B' d', r = .returned (.tuple #[.agg #[.int .u64 (S : Int), .slice B' L.length d'], (.agg #[.int .u64 (P : Int), .int .i64 (M : Int), .int .u64 (0 : Int)]), .int .i64 8]) ∧ Ext w w'
  yes : ∀ {L : List (Nat × Nat)} {B : Option Addr} {F d s l a : Nat} (w : World), Mem w S B L d → L.length ≤ 35000 → Fit S P M F n t L → F < 2 ^ M → F ≠ 0 → (s, l + 1) ∈ tabs L n t → leafB (tE L s (ixN a (l + 1))) = true → a < 18446744073709551616 →
    Calls Tryd.prog 18 #[.agg #[.int .u64 (S : Int), .slice B L.length d], (.agg #[.int .u64 (P : Int), .int .i64 (M : Int), .int .u64 (F : Int)]), .agg (sptC ⟨s, ((l + 1 : Nat) : Int), tE L s (ixN a (l + 1))⟩), .int .u64 (a : Int)] w fun r w' => ∃ B' d', r = .returned (.tuple #[.agg #[.int .u64 (S : Int), .slice B' (splS L (P + lowN' F) s (ixN a (l + 1)) (l + 1)).length d'], (.agg #[.int .u64 (P : Int), .int .i64 (M : Int), .int .u64 (takeF F : Int)]), .int .i64 0]) ∧
      Mem w' S B' (splS L (P + lowN' F) s (ixN a (l + 1)) (l + 1)) d' ∧ (∀ lo, Out lo w.heap.size B' (splS L (P + lowN' F) s (ixN a (l + 1)) (l + 1)).length) ∧ Ext w w'
end Go.Proofs.YticbjiddbjgikaaDoor
