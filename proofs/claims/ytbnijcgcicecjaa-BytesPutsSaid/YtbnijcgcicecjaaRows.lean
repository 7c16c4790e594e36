/-
  No cell of these rows narrows 'for every input' (looked for: loops, veiled, ifaces, maps, wideKeys, modest, calm, conditions, laid).
  DERIVED. THE GIVEN ROWS OF THIS SEAT. 4 by the template 'for every input the law returns true; each argument reads behind the call as it read before'; 0 by the template 'total and deterministic' (their statements: YtbnijcgcicecjaaTotals.lean).
  GIVEN WITH THE SEED: the statements are not yours to turn. If you find one false, say at which input.
  Laid BY PROGRAM, IN A SANDBOX (cutbox-rows.mjs): the forced cells as the released guide's own fill.sh prints them over the translation 39f1a4a30215a791… (all of the seat's roots in one cut). By AI agents, Wed Nov 11 2026. No macro, syntax, notation, axiom, sorry.
-/
import Derived.Test.YtbnijcgcicecjaaChecked
import GoSem.Claim
import GoSem.ClaimJoined
import GoSem.ClaimMapViews
import Derived.JoinedTies
import Derived.KernelRfl
namespace Go.Proofs.Ytbnijcgcicecjaa
/- THE CELL 'sum', in the pinned program and in every row, IS THE sha256 OF THE DUMP (.gsa) THAT YtbnijcgcicecjaaProg.lean LOADS. Nothing in Lean hashes anything: it is a label: what it is worth is what the hold of that sum in a sandbox is worth. -/
noncomputable def Try.pinned : Pinned := { name := "ytbnijcgcicecjaa", sum := "39f1a4a30215a7915ed565b97aff4e56caee1a6e1c7ef9cbc48547e29376fda6", checked := Try.checked }
namespace Rows
def none {H : Type} : Left H := { results := [], args := [] }

/-- 'atlaslaw02.BytesPuts': WHATEVER THE INPUT: true; the input reads as it did. -/
def bytesPutsSpec : ChangeSpec := { name := "bytesPuts", fn := fun _ => fun
  | [d1, d2, d3, d4] => { results := [.lit (.bool true)], args := [d1, d2, d3, d4] }
  | _ => none }
def bytesPutsRow : OpenClaim := { program := "ytbnijcgcicecjaa", sum := "39f1a4a30215a7915ed565b97aff4e56caee1a6e1c7ef9cbc48547e29376fda6", func := "atlas/atlaslaw02.BytesPuts", spec := "bytesPuts", apart := false }
def BytesPutsSaid : Prop := bytesPutsRow.holds Try.pinned (OpenSpec.ofChange bytesPutsSpec)

/-- ITS FALSE NEIGHBOUR: 'it returns false'. Refute it at one input. -/
def bytesPutsWrong : ChangeSpec := { name := "bytesPuts", fn := fun _ => fun
  | [d1, d2, d3, d4] => { results := [.lit (.bool false)], args := [d1, d2, d3, d4] }
  | _ => none }
def BytesPutsWrongFalsely : Prop := bytesPutsRow.holds Try.pinned (OpenSpec.ofChange bytesPutsWrong)

/-- 'atlaslaw02.BytesBack': WHATEVER THE INPUT: true; the input reads as it did. -/
def bytesBackSpec : ChangeSpec := { name := "bytesBack", fn := fun _ => fun
  | [d1, d2, d3] => { results := [.lit (.bool true)], args := [d1, d2, d3] }
  | _ => none }
def bytesBackRow : OpenClaim := { program := "ytbnijcgcicecjaa", sum := "39f1a4a30215a7915ed565b97aff4e56caee1a6e1c7ef9cbc48547e29376fda6", func := "atlas/atlaslaw02.BytesBack", spec := "bytesBack", apart := false }
def BytesBackSaid : Prop := bytesBackRow.holds Try.pinned (OpenSpec.ofChange bytesBackSpec)

/-- ITS FALSE NEIGHBOUR: 'it returns false'. Refute it at one input. -/
def bytesBackWrong : ChangeSpec := { name := "bytesBack", fn := fun _ => fun
  | [d1, d2, d3] => { results := [.lit (.bool false)], args := [d1, d2, d3] }
  | _ => none }
def BytesBackWrongFalsely : Prop := bytesBackRow.holds Try.pinned (OpenSpec.ofChange bytesBackWrong)

/-- 'atlaslaw02.BytesKeeps': WHATEVER THE INPUT: true; the input reads as it did. -/
def bytesKeepsSpec : ChangeSpec := { name := "bytesKeeps", fn := fun _ => fun
  | [d1, d2, d3] => { results := [.lit (.bool true)], args := [d1, d2, d3] }
  | _ => none }
def bytesKeepsRow : OpenClaim := { program := "ytbnijcgcicecjaa", sum := "39f1a4a30215a7915ed565b97aff4e56caee1a6e1c7ef9cbc48547e29376fda6", func := "atlas/atlaslaw02.BytesKeeps", spec := "bytesKeeps", apart := false }
def BytesKeepsSaid : Prop := bytesKeepsRow.holds Try.pinned (OpenSpec.ofChange bytesKeepsSpec)

/-- ITS FALSE NEIGHBOUR: 'it returns false'. Refute it at one input. -/
def bytesKeepsWrong : ChangeSpec := { name := "bytesKeeps", fn := fun _ => fun
  | [d1, d2, d3] => { results := [.lit (.bool false)], args := [d1, d2, d3] }
  | _ => none }
def BytesKeepsWrongFalsely : Prop := bytesKeepsRow.holds Try.pinned (OpenSpec.ofChange bytesKeepsWrong)

/-- 'atlaslaw02.BytesCut': WHATEVER THE INPUT: true; the input reads as it did. -/
def bytesCutSpec : ChangeSpec := { name := "bytesCut", fn := fun _ => fun
  | [d1, d2] => { results := [.lit (.bool true)], args := [d1, d2] }
  | _ => none }
def bytesCutRow : OpenClaim := { program := "ytbnijcgcicecjaa", sum := "39f1a4a30215a7915ed565b97aff4e56caee1a6e1c7ef9cbc48547e29376fda6", func := "atlas/atlaslaw02.BytesCut", spec := "bytesCut", apart := false }
def BytesCutSaid : Prop := bytesCutRow.holds Try.pinned (OpenSpec.ofChange bytesCutSpec)

/-- ITS FALSE NEIGHBOUR: 'it returns false'. Refute it at one input. -/
def bytesCutWrong : ChangeSpec := { name := "bytesCut", fn := fun _ => fun
  | [d1, d2] => { results := [.lit (.bool false)], args := [d1, d2] }
  | _ => none }
def BytesCutWrongFalsely : Prop := bytesCutRow.holds Try.pinned (OpenSpec.ofChange bytesCutWrong)

/- THE SECOND FORM. 'bulk': how many values and letters a reading holds, each counted each time it is reached (what is shared counts as often as it is met; a slice's spare places count too). A statement '..UptoSaid' is the law's where the arguments, and the package variables that the reading takes, are together of bulk at most 1048576: NARROWER than '..Said'. Prove '..Said' where nothing that the law and all that it calls make is longer than what came in: it says more and counts as full. Else prove '..UptoSaid'. A law counts once. -/
mutual
def uptoBulk {H : Type} : DataW H → Nat
  | .lit (.string bytes) => bytes.length + 1
  | .lit _ => 1
  | .nil => 1
  | .ptr d => uptoBulk d + 1
  | .slice elems spare => uptoBulkAll elems + uptoBulkAll spare + 1
  | .agg parts => uptoBulkAll parts + 1
  | .iface _ d => uptoBulk d + 1
  | .map entries => uptoBulkEntries entries + 1
  | .held _ => 1
def uptoBulkAll {H : Type} : List (DataW H) → Nat
  | [] => 0
  | d :: r => uptoBulk d + uptoBulkAll r
def uptoBulkEntries {H : Type} : List (Lit × DataW H) → Nat
  | [] => 0
  | x :: r => uptoBulkEntry x + uptoBulkEntries r
def uptoBulkEntry {H : Type} : Lit × DataW H → Nat
  | (.string bytes, d) => bytes.length + uptoBulk d + 1
  | (_, d) => uptoBulk d + 1
 end
def uptoSmall : (H : Type) → List (DataW H) → Bool := fun _ ds => decide (uptoBulkAll ds ≤ 1048576)
def OpenSpec.upto (s : _root_.Go.ChangeSpec) : _root_.Go.OpenSpec := { _root_.Go.OpenSpec.ofChange s with cond := some uptoSmall }

/-- 'atlaslaw02.BytesPuts', WHERE WHAT IT READS IS OF BULK AT MOST 1048576: true; the input reads as it did. -/
def bytesPutsUptoRow : OpenClaim := { program := "ytbnijcgcicecjaa", sum := "39f1a4a30215a7915ed565b97aff4e56caee1a6e1c7ef9cbc48547e29376fda6", func := "atlas/atlaslaw02.BytesPuts", spec := "bytesPuts", apart := false, narrowed := true }
def BytesPutsUptoSaid : Prop := bytesPutsUptoRow.holds Try.pinned (OpenSpec.upto bytesPutsSpec)

/-- 'atlaslaw02.BytesBack', WHERE WHAT IT READS IS OF BULK AT MOST 1048576: true; the input reads as it did. -/
def bytesBackUptoRow : OpenClaim := { program := "ytbnijcgcicecjaa", sum := "39f1a4a30215a7915ed565b97aff4e56caee1a6e1c7ef9cbc48547e29376fda6", func := "atlas/atlaslaw02.BytesBack", spec := "bytesBack", apart := false, narrowed := true }
def BytesBackUptoSaid : Prop := bytesBackUptoRow.holds Try.pinned (OpenSpec.upto bytesBackSpec)

/-- 'atlaslaw02.BytesKeeps', WHERE WHAT IT READS IS OF BULK AT MOST 1048576: true; the input reads as it did. -/
def bytesKeepsUptoRow : OpenClaim := { program := "ytbnijcgcicecjaa", sum := "39f1a4a30215a7915ed565b97aff4e56caee1a6e1c7ef9cbc48547e29376fda6", func := "atlas/atlaslaw02.BytesKeeps", spec := "bytesKeeps", apart := false, narrowed := true }
def BytesKeepsUptoSaid : Prop := bytesKeepsUptoRow.holds Try.pinned (OpenSpec.upto bytesKeepsSpec)

/-- 'atlaslaw02.BytesCut', WHERE WHAT IT READS IS OF BULK AT MOST 1048576: true; the input reads as it did. -/
def bytesCutUptoRow : OpenClaim := { program := "ytbnijcgcicecjaa", sum := "39f1a4a30215a7915ed565b97aff4e56caee1a6e1c7ef9cbc48547e29376fda6", func := "atlas/atlaslaw02.BytesCut", spec := "bytesCut", apart := false, narrowed := true }
def BytesCutUptoSaid : Prop := bytesCutUptoRow.holds Try.pinned (OpenSpec.upto bytesCutSpec)

end Rows
end Go.Proofs.Ytbnijcgcicecjaa
