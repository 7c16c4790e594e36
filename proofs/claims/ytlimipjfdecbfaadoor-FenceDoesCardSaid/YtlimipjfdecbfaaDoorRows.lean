/-
  NARROWER THAN 'FOR EVERY INPUT', by the rows' own cells (each row's printed sentence says how): FenceNames: laid · FenceDoes: laid · FenceLeaves: laid · FenceLess: laid · FenceKeeps: laid · FenceOwn: laid.
  DERIVED. THE GIVEN ROWS OF THIS SEAT. 6 by the template 'for every input the law returns true; each argument reads behind the call as it read before'; 0 by the template 'total and deterministic' (their statements: YtlimipjfdecbfaaDoorTotals.lean).
  GIVEN WITH THE SEED: the statements are not yours to turn. If you find one false, say at which input.
  Laid BY PROGRAM, IN A SANDBOX (cutbox-rows.mjs): the forced cells as the released guide's own fill.sh prints them over the translation 5fa0973d2a6b8fb9… (all of the seat's roots in one cut). By AI agents, Wed Nov 11 2026. No macro, syntax, notation, axiom, sorry.
-/
import Derived.Test.YtlimipjfdecbfaaDoorChecked
import GoSem.Claim
import GoSem.ClaimJoined
import GoSem.ClaimMapViews
import Derived.JoinedTies
import Derived.KernelRfl
namespace Go.Proofs.YtlimipjfdecbfaaDoor
/- THE CELL 'sum', in the pinned program and in every row, IS THE sha256 OF THE DUMP (.gsa) THAT YtlimipjfdecbfaaDoorProg.lean LOADS. Nothing in Lean hashes anything: it is a label: what it is worth is what the hold of that sum in a sandbox is worth. -/
noncomputable def Tryd.pinned : Pinned := { name := "ytlimipjfdecbfaadoor", sum := "5fa0973d2a6b8fb961444c5998195383d24770824970724f163ec494839ab1ae", checked := Tryd.checked }
namespace Rows
def none {H : Type} : Left H := { results := [], args := [] }

/- WHAT THE LISTED PACKAGE-LEVEL VARIABLES READ AS WHEN THE CALL BEGINS. Each datum BY PROGRAM (the guide's laid-datum.mjs) off the statement by which the dump's own 'gosem.cut.vars' lays the variable. In a bare row this is a premise. The card (YtlimipjfdecbfaaDoorCards.lean) ties it to the program's text. -/
def laid_atlas_va_sizes {H : Type} : DataW H := .agg [.lit (.int .u64 4096), .lit (.int .u64 2097152), .lit (.int .u64 1073741824)]

/-- 'atlaslaw15.FenceNames': WHATEVER THE INPUT: true; the input reads as it did. -/
def fenceNamesSpec : ChangeSpec := { name := "fenceNames", fn := fun _ => fun
  | [d1, d2, d3, d4] => { results := [.lit (.bool true)], args := [d1, d2, d3, d4] }
  | _ => none }
def fenceNamesRow : OpenClaim := { program := "ytlimipjfdecbfaadoor", sum := "5fa0973d2a6b8fb961444c5998195383d24770824970724f163ec494839ab1ae", func := "atlas/atlaslaw15.FenceNames", spec := "fenceNames", unfollowed := true, recurses := true, named := ["atlas/va.sizes"], apart := false, laid := [("atlas/va.sizes", laid_atlas_va_sizes)] }
def FenceNamesSaid : Prop := fenceNamesRow.holds Tryd.pinned (OpenSpec.ofChange fenceNamesSpec)

/-- ITS FALSE NEIGHBOUR: 'it returns false'. Refute it at one input. -/
def fenceNamesWrong : ChangeSpec := { name := "fenceNames", fn := fun _ => fun
  | [d1, d2, d3, d4] => { results := [.lit (.bool false)], args := [d1, d2, d3, d4] }
  | _ => none }
def FenceNamesWrongFalsely : Prop := fenceNamesRow.holds Tryd.pinned (OpenSpec.ofChange fenceNamesWrong)

/-- 'atlaslaw15.FenceDoes': WHATEVER THE INPUT: true; the input reads as it did. -/
def fenceDoesSpec : ChangeSpec := { name := "fenceDoes", fn := fun _ => fun
  | [d1, d2] => { results := [.lit (.bool true)], args := [d1, d2] }
  | _ => none }
def fenceDoesRow : OpenClaim := { program := "ytlimipjfdecbfaadoor", sum := "5fa0973d2a6b8fb961444c5998195383d24770824970724f163ec494839ab1ae", func := "atlas/atlaslaw15.FenceDoes", spec := "fenceDoes", unfollowed := true, recurses := true, named := ["atlas/va.sizes"], apart := false, laid := [("atlas/va.sizes", laid_atlas_va_sizes)] }
def FenceDoesSaid : Prop := fenceDoesRow.holds Tryd.pinned (OpenSpec.ofChange fenceDoesSpec)

/-- ITS FALSE NEIGHBOUR: 'it returns false'. Refute it at one input. -/
def fenceDoesWrong : ChangeSpec := { name := "fenceDoes", fn := fun _ => fun
  | [d1, d2] => { results := [.lit (.bool false)], args := [d1, d2] }
  | _ => none }
def FenceDoesWrongFalsely : Prop := fenceDoesRow.holds Tryd.pinned (OpenSpec.ofChange fenceDoesWrong)

/-- 'atlaslaw15.FenceLeaves': WHATEVER THE INPUT: true; the input reads as it did. -/
def fenceLeavesSpec : ChangeSpec := { name := "fenceLeaves", fn := fun _ => fun
  | [d1, d2, d3] => { results := [.lit (.bool true)], args := [d1, d2, d3] }
  | _ => none }
def fenceLeavesRow : OpenClaim := { program := "ytlimipjfdecbfaadoor", sum := "5fa0973d2a6b8fb961444c5998195383d24770824970724f163ec494839ab1ae", func := "atlas/atlaslaw15.FenceLeaves", spec := "fenceLeaves", unfollowed := true, recurses := true, named := ["atlas/va.sizes"], apart := false, laid := [("atlas/va.sizes", laid_atlas_va_sizes)] }
def FenceLeavesSaid : Prop := fenceLeavesRow.holds Tryd.pinned (OpenSpec.ofChange fenceLeavesSpec)

/-- ITS FALSE NEIGHBOUR: 'it returns false'. Refute it at one input. -/
def fenceLeavesWrong : ChangeSpec := { name := "fenceLeaves", fn := fun _ => fun
  | [d1, d2, d3] => { results := [.lit (.bool false)], args := [d1, d2, d3] }
  | _ => none }
def FenceLeavesWrongFalsely : Prop := fenceLeavesRow.holds Tryd.pinned (OpenSpec.ofChange fenceLeavesWrong)

/-- 'atlaslaw15.FenceLess': WHATEVER THE INPUT: true; the input reads as it did. -/
def fenceLessSpec : ChangeSpec := { name := "fenceLess", fn := fun _ => fun
  | [d1, d2, d3] => { results := [.lit (.bool true)], args := [d1, d2, d3] }
  | _ => none }
def fenceLessRow : OpenClaim := { program := "ytlimipjfdecbfaadoor", sum := "5fa0973d2a6b8fb961444c5998195383d24770824970724f163ec494839ab1ae", func := "atlas/atlaslaw15.FenceLess", spec := "fenceLess", unfollowed := true, recurses := true, named := ["atlas/va.sizes"], apart := false, laid := [("atlas/va.sizes", laid_atlas_va_sizes)] }
def FenceLessSaid : Prop := fenceLessRow.holds Tryd.pinned (OpenSpec.ofChange fenceLessSpec)

/-- ITS FALSE NEIGHBOUR: 'it returns false'. Refute it at one input. -/
def fenceLessWrong : ChangeSpec := { name := "fenceLess", fn := fun _ => fun
  | [d1, d2, d3] => { results := [.lit (.bool false)], args := [d1, d2, d3] }
  | _ => none }
def FenceLessWrongFalsely : Prop := fenceLessRow.holds Tryd.pinned (OpenSpec.ofChange fenceLessWrong)

/-- 'atlaslaw15.FenceKeeps': WHATEVER THE INPUT: true; the input reads as it did. -/
def fenceKeepsSpec : ChangeSpec := { name := "fenceKeeps", fn := fun _ => fun
  | [d1, d2] => { results := [.lit (.bool true)], args := [d1, d2] }
  | _ => none }
def fenceKeepsRow : OpenClaim := { program := "ytlimipjfdecbfaadoor", sum := "5fa0973d2a6b8fb961444c5998195383d24770824970724f163ec494839ab1ae", func := "atlas/atlaslaw15.FenceKeeps", spec := "fenceKeeps", unfollowed := true, recurses := true, named := ["atlas/va.sizes"], apart := false, laid := [("atlas/va.sizes", laid_atlas_va_sizes)] }
def FenceKeepsSaid : Prop := fenceKeepsRow.holds Tryd.pinned (OpenSpec.ofChange fenceKeepsSpec)

/-- ITS FALSE NEIGHBOUR: 'it returns false'. Refute it at one input. -/
def fenceKeepsWrong : ChangeSpec := { name := "fenceKeeps", fn := fun _ => fun
  | [d1, d2] => { results := [.lit (.bool false)], args := [d1, d2] }
  | _ => none }
def FenceKeepsWrongFalsely : Prop := fenceKeepsRow.holds Tryd.pinned (OpenSpec.ofChange fenceKeepsWrong)

/-- 'atlaslaw15.FenceOwn': WHATEVER THE INPUT: true; the input reads as it did. -/
def fenceOwnSpec : ChangeSpec := { name := "fenceOwn", fn := fun _ => fun
  | [d] => { results := [.lit (.bool true)], args := [d] }
  | _ => none }
def fenceOwnRow : OpenClaim := { program := "ytlimipjfdecbfaadoor", sum := "5fa0973d2a6b8fb961444c5998195383d24770824970724f163ec494839ab1ae", func := "atlas/atlaslaw15.FenceOwn", spec := "fenceOwn", unfollowed := true, recurses := true, named := ["atlas/va.sizes"], apart := false, laid := [("atlas/va.sizes", laid_atlas_va_sizes)] }
def FenceOwnSaid : Prop := fenceOwnRow.holds Tryd.pinned (OpenSpec.ofChange fenceOwnSpec)

/-- ITS FALSE NEIGHBOUR: 'it returns false'. Refute it at one input. -/
def fenceOwnWrong : ChangeSpec := { name := "fenceOwn", fn := fun _ => fun
  | [d] => { results := [.lit (.bool false)], args := [d] }
  | _ => none }
def FenceOwnWrongFalsely : Prop := fenceOwnRow.holds Tryd.pinned (OpenSpec.ofChange fenceOwnWrong)

/- THE SECOND FORM. 'bulk': how many values and letters a reading holds, each counted each time it is reached (what is shared counts as often as it is met; a slice's spare places count too). A statement '..UptoSaid' is the law's where the arguments, and the package variables that the reading takes, are together of bulk at most 1048576: NARROWER than '..Said'. Prove '..Said' where nothing that the law and all that it calls make is longer than what came in: it says more and counts as full. Else prove '..UptoSaid'. A law counts once. -/
mutual
def uptoBulk {H : Type} : DataW H → Nat
  | .lit (.string bytes) => bytes.length + 1
  | .lit _ => 1
  | .nil => 1
  | .ptr d => uptoBulk d + 1
  | .slice elems spare => uptoBulkAll elems + uptoBulkAll spare + 1
  | .agg parts => uptoBulkAll parts + 1
  | .iface _ d => uptoBulk d + 1
  | .map entries => uptoBulkEntries entries + 1
  | .held _ => 1
def uptoBulkAll {H : Type} : List (DataW H) → Nat
  | [] => 0
  | d :: r => uptoBulk d + uptoBulkAll r
def uptoBulkEntries {H : Type} : List (Lit × DataW H) → Nat
  | [] => 0
  | x :: r => uptoBulkEntry x + uptoBulkEntries r
def uptoBulkEntry {H : Type} : Lit × DataW H → Nat
  | (.string bytes, d) => bytes.length + uptoBulk d + 1
  | (_, d) => uptoBulk d + 1
 end
def uptoSmall : (H : Type) → List (DataW H) → Bool := fun _ ds => decide (uptoBulkAll ds ≤ 1048576)
def OpenSpec.upto (s : _root_.Go.ChangeSpec) : _root_.Go.OpenSpec := { _root_.Go.OpenSpec.ofChange s with cond := some uptoSmall }

/-- 'atlaslaw15.FenceNames', WHERE WHAT IT READS IS OF BULK AT MOST 1048576: true; the input reads as it did. -/
def fenceNamesUptoRow : OpenClaim := { program := "ytlimipjfdecbfaadoor", sum := "5fa0973d2a6b8fb961444c5998195383d24770824970724f163ec494839ab1ae", func := "atlas/atlaslaw15.FenceNames", spec := "fenceNames", unfollowed := true, recurses := true, named := ["atlas/va.sizes"], apart := false, laid := [("atlas/va.sizes", laid_atlas_va_sizes)], narrowed := true }
def FenceNamesUptoSaid : Prop := fenceNamesUptoRow.holds Tryd.pinned (OpenSpec.upto fenceNamesSpec)

/-- 'atlaslaw15.FenceDoes', WHERE WHAT IT READS IS OF BULK AT MOST 1048576: true; the input reads as it did. -/
def fenceDoesUptoRow : OpenClaim := { program := "ytlimipjfdecbfaadoor", sum := "5fa0973d2a6b8fb961444c5998195383d24770824970724f163ec494839ab1ae", func := "atlas/atlaslaw15.FenceDoes", spec := "fenceDoes", unfollowed := true, recurses := true, named := ["atlas/va.sizes"], apart := false, laid := [("atlas/va.sizes", laid_atlas_va_sizes)], narrowed := true }
def FenceDoesUptoSaid : Prop := fenceDoesUptoRow.holds Tryd.pinned (OpenSpec.upto fenceDoesSpec)

/-- 'atlaslaw15.FenceLeaves', WHERE WHAT IT READS IS OF BULK AT MOST 1048576: true; the input reads as it did. -/
def fenceLeavesUptoRow : OpenClaim := { program := "ytlimipjfdecbfaadoor", sum := "5fa0973d2a6b8fb961444c5998195383d24770824970724f163ec494839ab1ae", func := "atlas/atlaslaw15.FenceLeaves", spec := "fenceLeaves", unfollowed := true, recurses := true, named := ["atlas/va.sizes"], apart := false, laid := [("atlas/va.sizes", laid_atlas_va_sizes)], narrowed := true }
def FenceLeavesUptoSaid : Prop := fenceLeavesUptoRow.holds Tryd.pinned (OpenSpec.upto fenceLeavesSpec)

/-- 'atlaslaw15.FenceLess', WHERE WHAT IT READS IS OF BULK AT MOST 1048576: true; the input reads as it did. -/
def fenceLessUptoRow : OpenClaim := { program := "ytlimipjfdecbfaadoor", sum := "5fa0973d2a6b8fb961444c5998195383d24770824970724f163ec494839ab1ae", func := "atlas/atlaslaw15.FenceLess", spec := "fenceLess", unfollowed := true, recurses := true, named := ["atlas/va.sizes"], apart := false, laid := [("atlas/va.sizes", laid_atlas_va_sizes)], narrowed := true }
def FenceLessUptoSaid : Prop := fenceLessUptoRow.holds Tryd.pinned (OpenSpec.upto fenceLessSpec)

/-- 'atlaslaw15.FenceKeeps', WHERE WHAT IT READS IS OF BULK AT MOST 1048576: true; the input reads as it did. -/
def fenceKeepsUptoRow : OpenClaim := { program := "ytlimipjfdecbfaadoor", sum := "5fa0973d2a6b8fb961444c5998195383d24770824970724f163ec494839ab1ae", func := "atlas/atlaslaw15.FenceKeeps", spec := "fenceKeeps", unfollowed := true, recurses := true, named := ["atlas/va.sizes"], apart := false, laid := [("atlas/va.sizes", laid_atlas_va_sizes)], narrowed := true }
def FenceKeepsUptoSaid : Prop := fenceKeepsUptoRow.holds Tryd.pinned (OpenSpec.upto fenceKeepsSpec)

/-- 'atlaslaw15.FenceOwn', WHERE WHAT IT READS IS OF BULK AT MOST 1048576: true; the input reads as it did. -/
def fenceOwnUptoRow : OpenClaim := { program := "ytlimipjfdecbfaadoor", sum := "5fa0973d2a6b8fb961444c5998195383d24770824970724f163ec494839ab1ae", func := "atlas/atlaslaw15.FenceOwn", spec := "fenceOwn", unfollowed := true, recurses := true, named := ["atlas/va.sizes"], apart := false, laid := [("atlas/va.sizes", laid_atlas_va_sizes)], narrowed := true }
def FenceOwnUptoSaid : Prop := fenceOwnUptoRow.holds Tryd.pinned (OpenSpec.upto fenceOwnSpec)

end Rows
end Go.Proofs.YtlimipjfdecbfaaDoor
