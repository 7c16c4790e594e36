/-
  NARROWER THAN 'FOR EVERY INPUT', by the rows' own cells (each row's printed sentence says how): TableFrames: laid · TablePages: laid · TableWrites: laid · TableKeeps: laid · TableOnes: laid.
  DERIVED. THE GIVEN ROWS OF THIS SEAT. 5 by the template 'for every input the law returns true; each argument reads behind the call as it read before'; 0 by the template 'total and deterministic' (their statements: YtcllbidhjggjiaaDoorTotals.lean).
  GIVEN WITH THE SEED: the statements are not yours to turn. If you find one false, say at which input.
  Laid BY PROGRAM, IN A SANDBOX (cutbox-rows.mjs): the forced cells as the released guide's own fill.sh prints them over the translation 560d0201d5d7bc7b… (all of the seat's roots in one cut). By AI agents, Wed Nov 11 2026. No macro, syntax, notation, axiom, sorry.
-/
import Derived.Test.YtcllbidhjggjiaaDoorChecked
import GoSem.Claim
import GoSem.ClaimJoined
import GoSem.ClaimMapViews
import Derived.JoinedTies
import Derived.KernelRfl
namespace Go.Proofs.YtcllbidhjggjiaaDoor
/- THE CELL 'sum', in the pinned program and in every row, IS THE sha256 OF THE DUMP (.gsa) THAT YtcllbidhjggjiaaDoorProg.lean LOADS. Nothing in Lean hashes anything: it is a label: what it is worth is what the hold of that sum in a sandbox is worth. -/
noncomputable def Tryd.pinned : Pinned := { name := "ytcllbidhjggjiaadoor", sum := "560d0201d5d7bc7b4bb6a158a5fce6d1055684c3e41f571a5771bc1b4f76a406", checked := Tryd.checked }
namespace Rows
def none {H : Type} : Left H := { results := [], args := [] }

/- WHAT THE LISTED PACKAGE-LEVEL VARIABLES READ AS WHEN THE CALL BEGINS. Each datum BY PROGRAM (the guide's laid-datum.mjs) off the statement by which the dump's own 'gosem.cut.vars' lays the variable. In a bare row this is a premise. The card (YtcllbidhjggjiaaDoorCards.lean) ties it to the program's text. -/
def laid_atlas_va_sizes {H : Type} : DataW H := .agg [.lit (.int .u64 4096), .lit (.int .u64 2097152), .lit (.int .u64 1073741824)]
def laid_math_bits_deBruijn64tab {H : Type} : DataW H := .agg [.lit (.int .u8 0), .lit (.int .u8 1), .lit (.int .u8 56), .lit (.int .u8 2), .lit (.int .u8 57), .lit (.int .u8 49), .lit (.int .u8 28), .lit (.int .u8 3), .lit (.int .u8 61), .lit (.int .u8 58), .lit (.int .u8 42), .lit (.int .u8 50), .lit (.int .u8 38), .lit (.int .u8 29), .lit (.int .u8 17), .lit (.int .u8 4), .lit (.int .u8 62), .lit (.int .u8 47), .lit (.int .u8 59), .lit (.int .u8 36), .lit (.int .u8 45), .lit (.int .u8 43), .lit (.int .u8 51), .lit (.int .u8 22), .lit (.int .u8 53), .lit (.int .u8 39), .lit (.int .u8 33), .lit (.int .u8 30), .lit (.int .u8 24), .lit (.int .u8 18), .lit (.int .u8 12), .lit (.int .u8 5), .lit (.int .u8 63), .lit (.int .u8 55), .lit (.int .u8 48), .lit (.int .u8 27), .lit (.int .u8 60), .lit (.int .u8 41), .lit (.int .u8 37), .lit (.int .u8 16), .lit (.int .u8 46), .lit (.int .u8 35), .lit (.int .u8 44), .lit (.int .u8 21), .lit (.int .u8 52), .lit (.int .u8 32), .lit (.int .u8 23), .lit (.int .u8 11), .lit (.int .u8 54), .lit (.int .u8 26), .lit (.int .u8 40), .lit (.int .u8 15), .lit (.int .u8 34), .lit (.int .u8 20), .lit (.int .u8 31), .lit (.int .u8 10), .lit (.int .u8 25), .lit (.int .u8 14), .lit (.int .u8 19), .lit (.int .u8 9), .lit (.int .u8 13), .lit (.int .u8 8), .lit (.int .u8 7), .lit (.int .u8 6)]

/-- 'atlaslaw19.TableFrames': WHATEVER THE INPUT: true; the input reads as it did. -/
def tableFramesSpec : ChangeSpec := { name := "tableFrames", fn := fun _ => fun
  | [d1, d2, d3] => { results := [.lit (.bool true)], args := [d1, d2, d3] }
  | _ => none }
def tableFramesRow : OpenClaim := { program := "ytcllbidhjggjiaadoor", sum := "560d0201d5d7bc7b4bb6a158a5fce6d1055684c3e41f571a5771bc1b4f76a406", func := "atlas/atlaslaw19.TableFrames", spec := "tableFrames", unfollowed := true, recurses := true, named := ["atlas/va.sizes", "math/bits.deBruijn64tab"], apart := false, laid := [("atlas/va.sizes", laid_atlas_va_sizes), ("math/bits.deBruijn64tab", laid_math_bits_deBruijn64tab)] }
def TableFramesSaid : Prop := tableFramesRow.holds Tryd.pinned (OpenSpec.ofChange tableFramesSpec)

/-- ITS FALSE NEIGHBOUR: 'it returns false'. Refute it at one input. -/
def tableFramesWrong : ChangeSpec := { name := "tableFrames", fn := fun _ => fun
  | [d1, d2, d3] => { results := [.lit (.bool false)], args := [d1, d2, d3] }
  | _ => none }
def TableFramesWrongFalsely : Prop := tableFramesRow.holds Tryd.pinned (OpenSpec.ofChange tableFramesWrong)

/-- 'atlaslaw19.TablePages': WHATEVER THE INPUT: true; the input reads as it did. -/
def tablePagesSpec : ChangeSpec := { name := "tablePages", fn := fun _ => fun
  | [d1, d2, d3] => { results := [.lit (.bool true)], args := [d1, d2, d3] }
  | _ => none }
def tablePagesRow : OpenClaim := { program := "ytcllbidhjggjiaadoor", sum := "560d0201d5d7bc7b4bb6a158a5fce6d1055684c3e41f571a5771bc1b4f76a406", func := "atlas/atlaslaw19.TablePages", spec := "tablePages", unfollowed := true, recurses := true, named := ["atlas/va.sizes", "math/bits.deBruijn64tab"], apart := false, laid := [("atlas/va.sizes", laid_atlas_va_sizes), ("math/bits.deBruijn64tab", laid_math_bits_deBruijn64tab)] }
def TablePagesSaid : Prop := tablePagesRow.holds Tryd.pinned (OpenSpec.ofChange tablePagesSpec)

/-- ITS FALSE NEIGHBOUR: 'it returns false'. Refute it at one input. -/
def tablePagesWrong : ChangeSpec := { name := "tablePages", fn := fun _ => fun
  | [d1, d2, d3] => { results := [.lit (.bool false)], args := [d1, d2, d3] }
  | _ => none }
def TablePagesWrongFalsely : Prop := tablePagesRow.holds Tryd.pinned (OpenSpec.ofChange tablePagesWrong)

/-- 'atlaslaw19.TableWrites': WHATEVER THE INPUT: true; the input reads as it did. -/
def tableWritesSpec : ChangeSpec := { name := "tableWrites", fn := fun _ => fun
  | [d1, d2, d3, d4, d5, d6] => { results := [.lit (.bool true)], args := [d1, d2, d3, d4, d5, d6] }
  | _ => none }
def tableWritesRow : OpenClaim := { program := "ytcllbidhjggjiaadoor", sum := "560d0201d5d7bc7b4bb6a158a5fce6d1055684c3e41f571a5771bc1b4f76a406", func := "atlas/atlaslaw19.TableWrites", spec := "tableWrites", unfollowed := true, recurses := true, named := ["atlas/va.sizes", "math/bits.deBruijn64tab"], apart := false, laid := [("atlas/va.sizes", laid_atlas_va_sizes), ("math/bits.deBruijn64tab", laid_math_bits_deBruijn64tab)] }
def TableWritesSaid : Prop := tableWritesRow.holds Tryd.pinned (OpenSpec.ofChange tableWritesSpec)

/-- ITS FALSE NEIGHBOUR: 'it returns false'. Refute it at one input. -/
def tableWritesWrong : ChangeSpec := { name := "tableWrites", fn := fun _ => fun
  | [d1, d2, d3, d4, d5, d6] => { results := [.lit (.bool false)], args := [d1, d2, d3, d4, d5, d6] }
  | _ => none }
def TableWritesWrongFalsely : Prop := tableWritesRow.holds Tryd.pinned (OpenSpec.ofChange tableWritesWrong)

/-- 'atlaslaw19.TableKeeps': WHATEVER THE INPUT: true; the input reads as it did. -/
def tableKeepsSpec : ChangeSpec := { name := "tableKeeps", fn := fun _ => fun
  | [d1, d2, d3, d4, d5] => { results := [.lit (.bool true)], args := [d1, d2, d3, d4, d5] }
  | _ => none }
def tableKeepsRow : OpenClaim := { program := "ytcllbidhjggjiaadoor", sum := "560d0201d5d7bc7b4bb6a158a5fce6d1055684c3e41f571a5771bc1b4f76a406", func := "atlas/atlaslaw19.TableKeeps", spec := "tableKeeps", unfollowed := true, recurses := true, named := ["atlas/va.sizes", "math/bits.deBruijn64tab"], apart := false, laid := [("atlas/va.sizes", laid_atlas_va_sizes), ("math/bits.deBruijn64tab", laid_math_bits_deBruijn64tab)] }
def TableKeepsSaid : Prop := tableKeepsRow.holds Tryd.pinned (OpenSpec.ofChange tableKeepsSpec)

/-- ITS FALSE NEIGHBOUR: 'it returns false'. Refute it at one input. -/
def tableKeepsWrong : ChangeSpec := { name := "tableKeeps", fn := fun _ => fun
  | [d1, d2, d3, d4, d5] => { results := [.lit (.bool false)], args := [d1, d2, d3, d4, d5] }
  | _ => none }
def TableKeepsWrongFalsely : Prop := tableKeepsRow.holds Tryd.pinned (OpenSpec.ofChange tableKeepsWrong)

/-- 'atlaslaw19.TableOnes': WHATEVER THE INPUT: true; the input reads as it did. -/
def tableOnesSpec : ChangeSpec := { name := "tableOnes", fn := fun _ => fun
  | [d1, d2, d3, d4, d5] => { results := [.lit (.bool true)], args := [d1, d2, d3, d4, d5] }
  | _ => none }
def tableOnesRow : OpenClaim := { program := "ytcllbidhjggjiaadoor", sum := "560d0201d5d7bc7b4bb6a158a5fce6d1055684c3e41f571a5771bc1b4f76a406", func := "atlas/atlaslaw19.TableOnes", spec := "tableOnes", unfollowed := true, recurses := true, named := ["atlas/va.sizes", "math/bits.deBruijn64tab"], apart := false, laid := [("atlas/va.sizes", laid_atlas_va_sizes), ("math/bits.deBruijn64tab", laid_math_bits_deBruijn64tab)] }
def TableOnesSaid : Prop := tableOnesRow.holds Tryd.pinned (OpenSpec.ofChange tableOnesSpec)

/-- ITS FALSE NEIGHBOUR: 'it returns false'. Refute it at one input. -/
def tableOnesWrong : ChangeSpec := { name := "tableOnes", fn := fun _ => fun
  | [d1, d2, d3, d4, d5] => { results := [.lit (.bool false)], args := [d1, d2, d3, d4, d5] }
  | _ => none }
def TableOnesWrongFalsely : Prop := tableOnesRow.holds Tryd.pinned (OpenSpec.ofChange tableOnesWrong)

/- THE SECOND FORM. 'bulk': how many values and letters a reading holds, each counted each time it is reached (what is shared counts as often as it is met; a slice's spare places count too). A statement '..UptoSaid' is the law's where the arguments, and the package variables that the reading takes, are together of bulk at most 1048576: NARROWER than '..Said'. Prove '..Said' where nothing that the law and all that it calls make is longer than what came in: it says more and counts as full. Else prove '..UptoSaid'. A law counts once. -/
mutual
def uptoBulk {H : Type} : DataW H → Nat
  | .lit (.string bytes) => bytes.length + 1
  | .lit _ => 1
  | .nil => 1
  | .ptr d => uptoBulk d + 1
  | .slice elems spare => uptoBulkAll elems + uptoBulkAll spare + 1
  | .agg parts => uptoBulkAll parts + 1
  | .iface _ d => uptoBulk d + 1
  | .map entries => uptoBulkEntries entries + 1
  | .held _ => 1
def uptoBulkAll {H : Type} : List (DataW H) → Nat
  | [] => 0
  | d :: r => uptoBulk d + uptoBulkAll r
def uptoBulkEntries {H : Type} : List (Lit × DataW H) → Nat
  | [] => 0
  | x :: r => uptoBulkEntry x + uptoBulkEntries r
def uptoBulkEntry {H : Type} : Lit × DataW H → Nat
  | (.string bytes, d) => bytes.length + uptoBulk d + 1
  | (_, d) => uptoBulk d + 1
 end
def uptoSmall : (H : Type) → List (DataW H) → Bool := fun _ ds => decide (uptoBulkAll ds ≤ 1048576)
def OpenSpec.upto (s : _root_.Go.ChangeSpec) : _root_.Go.OpenSpec := { _root_.Go.OpenSpec.ofChange s with cond := some uptoSmall }

/-- 'atlaslaw19.TableFrames', WHERE WHAT IT READS IS OF BULK AT MOST 1048576: true; the input reads as it did. -/
def tableFramesUptoRow : OpenClaim := { program := "ytcllbidhjggjiaadoor", sum := "560d0201d5d7bc7b4bb6a158a5fce6d1055684c3e41f571a5771bc1b4f76a406", func := "atlas/atlaslaw19.TableFrames", spec := "tableFrames", unfollowed := true, recurses := true, named := ["atlas/va.sizes", "math/bits.deBruijn64tab"], apart := false, laid := [("atlas/va.sizes", laid_atlas_va_sizes), ("math/bits.deBruijn64tab", laid_math_bits_deBruijn64tab)], narrowed := true }
def TableFramesUptoSaid : Prop := tableFramesUptoRow.holds Tryd.pinned (OpenSpec.upto tableFramesSpec)

/-- 'atlaslaw19.TablePages', WHERE WHAT IT READS IS OF BULK AT MOST 1048576: true; the input reads as it did. -/
def tablePagesUptoRow : OpenClaim := { program := "ytcllbidhjggjiaadoor", sum := "560d0201d5d7bc7b4bb6a158a5fce6d1055684c3e41f571a5771bc1b4f76a406", func := "atlas/atlaslaw19.TablePages", spec := "tablePages", unfollowed := true, recurses := true, named := ["atlas/va.sizes", "math/bits.deBruijn64tab"], apart := false, laid := [("atlas/va.sizes", laid_atlas_va_sizes), ("math/bits.deBruijn64tab", laid_math_bits_deBruijn64tab)], narrowed := true }
def TablePagesUptoSaid : Prop := tablePagesUptoRow.holds Tryd.pinned (OpenSpec.upto tablePagesSpec)

/-- 'atlaslaw19.TableWrites', WHERE WHAT IT READS IS OF BULK AT MOST 1048576: true; the input reads as it did. -/
def tableWritesUptoRow : OpenClaim := { program := "ytcllbidhjggjiaadoor", sum := "560d0201d5d7bc7b4bb6a158a5fce6d1055684c3e41f571a5771bc1b4f76a406", func := "atlas/atlaslaw19.TableWrites", spec := "tableWrites", unfollowed := true, recurses := true, named := ["atlas/va.sizes", "math/bits.deBruijn64tab"], apart := false, laid := [("atlas/va.sizes", laid_atlas_va_sizes), ("math/bits.deBruijn64tab", laid_math_bits_deBruijn64tab)], narrowed := true }
def TableWritesUptoSaid : Prop := tableWritesUptoRow.holds Tryd.pinned (OpenSpec.upto tableWritesSpec)

/-- 'atlaslaw19.TableKeeps', WHERE WHAT IT READS IS OF BULK AT MOST 1048576: true; the input reads as it did. -/
def tableKeepsUptoRow : OpenClaim := { program := "ytcllbidhjggjiaadoor", sum := "560d0201d5d7bc7b4bb6a158a5fce6d1055684c3e41f571a5771bc1b4f76a406", func := "atlas/atlaslaw19.TableKeeps", spec := "tableKeeps", unfollowed := true, recurses := true, named := ["atlas/va.sizes", "math/bits.deBruijn64tab"], apart := false, laid := [("atlas/va.sizes", laid_atlas_va_sizes), ("math/bits.deBruijn64tab", laid_math_bits_deBruijn64tab)], narrowed := true }
def TableKeepsUptoSaid : Prop := tableKeepsUptoRow.holds Tryd.pinned (OpenSpec.upto tableKeepsSpec)

/-- 'atlaslaw19.TableOnes', WHERE WHAT IT READS IS OF BULK AT MOST 1048576: true; the input reads as it did. -/
def tableOnesUptoRow : OpenClaim := { program := "ytcllbidhjggjiaadoor", sum := "560d0201d5d7bc7b4bb6a158a5fce6d1055684c3e41f571a5771bc1b4f76a406", func := "atlas/atlaslaw19.TableOnes", spec := "tableOnes", unfollowed := true, recurses := true, named := ["atlas/va.sizes", "math/bits.deBruijn64tab"], apart := false, laid := [("atlas/va.sizes", laid_atlas_va_sizes), ("math/bits.deBruijn64tab", laid_math_bits_deBruijn64tab)], narrowed := true }
def TableOnesUptoSaid : Prop := tableOnesUptoRow.holds Tryd.pinned (OpenSpec.upto tableOnesSpec)

end Rows
end Go.Proofs.YtcllbidhjggjiaaDoor
