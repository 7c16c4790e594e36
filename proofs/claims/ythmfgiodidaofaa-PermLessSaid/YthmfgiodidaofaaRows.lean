/-
  No cell of these rows narrows 'for every input' (looked for: loops, veiled, ifaces, maps, wideKeys, modest, calm, conditions, laid).
  DERIVED. THE GIVEN ROWS OF THIS SEAT. 4 by the template 'for every input the law returns true; each argument reads behind the call as it read before'; 0 by the template 'total and deterministic' (their statements: YthmfgiodidaofaaTotals.lean).
  GIVEN WITH THE SEED: the statements are not yours to turn. If you find one false, say at which input.
  Laid BY PROGRAM, IN A SANDBOX (cutbox-rows.mjs): the forced cells as the released guide's own fill.sh prints them over the translation 941996708bde58d3… (all of the seat's roots in one cut). By AI agents, Wed Nov 11 2026. No macro, syntax, notation, axiom, sorry.
-/
import Derived.Test.YthmfgiodidaofaaChecked
import GoSem.Claim
import GoSem.ClaimJoined
import GoSem.ClaimMapViews
import Derived.JoinedTies
import Derived.KernelRfl
namespace Go.Proofs.Ythmfgiodidaofaa
/- THE CELL 'sum', in the pinned program and in every row, IS THE sha256 OF THE DUMP (.gsa) THAT YthmfgiodidaofaaProg.lean LOADS. Nothing in Lean hashes anything: it is a label: what it is worth is what the hold of that sum in a sandbox is worth. -/
noncomputable def Try.pinned : Pinned := { name := "ythmfgiodidaofaa", sum := "941996708bde58d371b3229df1a59a9570960afa2aceb93247116f248e5e5dbd", checked := Try.checked }
namespace Rows
def none {H : Type} : Left H := { results := [], args := [] }

/-- 'atlaslaw08.PermAsks': WHATEVER THE INPUT: true; the input reads as it did. -/
def permAsksSpec : ChangeSpec := { name := "permAsks", fn := fun _ => fun
  | [d1, d2, d3] => { results := [.lit (.bool true)], args := [d1, d2, d3] }
  | _ => none }
def permAsksRow : OpenClaim := { program := "ythmfgiodidaofaa", sum := "941996708bde58d371b3229df1a59a9570960afa2aceb93247116f248e5e5dbd", func := "atlas/atlaslaw08.PermAsks", spec := "permAsks", unfollowed := true, recurses := true, apart := false }
def PermAsksSaid : Prop := permAsksRow.holds Try.pinned (OpenSpec.ofChange permAsksSpec)

/-- ITS FALSE NEIGHBOUR: 'it returns false'. Refute it at one input. -/
def permAsksWrong : ChangeSpec := { name := "permAsks", fn := fun _ => fun
  | [d1, d2, d3] => { results := [.lit (.bool false)], args := [d1, d2, d3] }
  | _ => none }
def PermAsksWrongFalsely : Prop := permAsksRow.holds Try.pinned (OpenSpec.ofChange permAsksWrong)

/-- 'atlaslaw08.PermDecides': WHATEVER THE INPUT: true; the input reads as it did. -/
def permDecidesSpec : ChangeSpec := { name := "permDecides", fn := fun _ => fun
  | [d] => { results := [.lit (.bool true)], args := [d] }
  | _ => none }
def permDecidesRow : OpenClaim := { program := "ythmfgiodidaofaa", sum := "941996708bde58d371b3229df1a59a9570960afa2aceb93247116f248e5e5dbd", func := "atlas/atlaslaw08.PermDecides", spec := "permDecides", unfollowed := true, recurses := true, apart := false }
def PermDecidesSaid : Prop := permDecidesRow.holds Try.pinned (OpenSpec.ofChange permDecidesSpec)

/-- ITS FALSE NEIGHBOUR: 'it returns false'. Refute it at one input. -/
def permDecidesWrong : ChangeSpec := { name := "permDecides", fn := fun _ => fun
  | [d] => { results := [.lit (.bool false)], args := [d] }
  | _ => none }
def PermDecidesWrongFalsely : Prop := permDecidesRow.holds Try.pinned (OpenSpec.ofChange permDecidesWrong)

/-- 'atlaslaw08.PermLess': WHATEVER THE INPUT: true; the input reads as it did. -/
def permLessSpec : ChangeSpec := { name := "permLess", fn := fun _ => fun
  | [d1, d2, d3] => { results := [.lit (.bool true)], args := [d1, d2, d3] }
  | _ => none }
def permLessRow : OpenClaim := { program := "ythmfgiodidaofaa", sum := "941996708bde58d371b3229df1a59a9570960afa2aceb93247116f248e5e5dbd", func := "atlas/atlaslaw08.PermLess", spec := "permLess", unfollowed := true, recurses := true, apart := false }
def PermLessSaid : Prop := permLessRow.holds Try.pinned (OpenSpec.ofChange permLessSpec)

/-- ITS FALSE NEIGHBOUR: 'it returns false'. Refute it at one input. -/
def permLessWrong : ChangeSpec := { name := "permLess", fn := fun _ => fun
  | [d1, d2, d3] => { results := [.lit (.bool false)], args := [d1, d2, d3] }
  | _ => none }
def PermLessWrongFalsely : Prop := permLessRow.holds Try.pinned (OpenSpec.ofChange permLessWrong)

/-- 'atlaslaw08.PermUser': WHATEVER THE INPUT: true; the input reads as it did. -/
def permUserSpec : ChangeSpec := { name := "permUser", fn := fun _ => fun
  | [d1, d2] => { results := [.lit (.bool true)], args := [d1, d2] }
  | _ => none }
def permUserRow : OpenClaim := { program := "ythmfgiodidaofaa", sum := "941996708bde58d371b3229df1a59a9570960afa2aceb93247116f248e5e5dbd", func := "atlas/atlaslaw08.PermUser", spec := "permUser", unfollowed := true, recurses := true, apart := false }
def PermUserSaid : Prop := permUserRow.holds Try.pinned (OpenSpec.ofChange permUserSpec)

/-- ITS FALSE NEIGHBOUR: 'it returns false'. Refute it at one input. -/
def permUserWrong : ChangeSpec := { name := "permUser", fn := fun _ => fun
  | [d1, d2] => { results := [.lit (.bool false)], args := [d1, d2] }
  | _ => none }
def PermUserWrongFalsely : Prop := permUserRow.holds Try.pinned (OpenSpec.ofChange permUserWrong)

/- THE SECOND FORM. 'bulk': how many values and letters a reading holds, each counted each time it is reached (what is shared counts as often as it is met; a slice's spare places count too). A statement '..UptoSaid' is the law's where the arguments, and the package variables that the reading takes, are together of bulk at most 1048576: NARROWER than '..Said'. Prove '..Said' where nothing that the law and all that it calls make is longer than what came in: it says more and counts as full. Else prove '..UptoSaid'. A law counts once. -/
mutual
def uptoBulk {H : Type} : DataW H → Nat
  | .lit (.string bytes) => bytes.length + 1
  | .lit _ => 1
  | .nil => 1
  | .ptr d => uptoBulk d + 1
  | .slice elems spare => uptoBulkAll elems + uptoBulkAll spare + 1
  | .agg parts => uptoBulkAll parts + 1
  | .iface _ d => uptoBulk d + 1
  | .map entries => uptoBulkEntries entries + 1
  | .held _ => 1
def uptoBulkAll {H : Type} : List (DataW H) → Nat
  | [] => 0
  | d :: r => uptoBulk d + uptoBulkAll r
def uptoBulkEntries {H : Type} : List (Lit × DataW H) → Nat
  | [] => 0
  | x :: r => uptoBulkEntry x + uptoBulkEntries r
def uptoBulkEntry {H : Type} : Lit × DataW H → Nat
  | (.string bytes, d) => bytes.length + uptoBulk d + 1
  | (_, d) => uptoBulk d + 1
 end
def uptoSmall : (H : Type) → List (DataW H) → Bool := fun _ ds => decide (uptoBulkAll ds ≤ 1048576)
def OpenSpec.upto (s : _root_.Go.ChangeSpec) : _root_.Go.OpenSpec := { _root_.Go.OpenSpec.ofChange s with cond := some uptoSmall }

/-- 'atlaslaw08.PermAsks', WHERE WHAT IT READS IS OF BULK AT MOST 1048576: true; the input reads as it did. -/
def permAsksUptoRow : OpenClaim := { program := "ythmfgiodidaofaa", sum := "941996708bde58d371b3229df1a59a9570960afa2aceb93247116f248e5e5dbd", func := "atlas/atlaslaw08.PermAsks", spec := "permAsks", unfollowed := true, recurses := true, apart := false, narrowed := true }
def PermAsksUptoSaid : Prop := permAsksUptoRow.holds Try.pinned (OpenSpec.upto permAsksSpec)

/-- 'atlaslaw08.PermDecides', WHERE WHAT IT READS IS OF BULK AT MOST 1048576: true; the input reads as it did. -/
def permDecidesUptoRow : OpenClaim := { program := "ythmfgiodidaofaa", sum := "941996708bde58d371b3229df1a59a9570960afa2aceb93247116f248e5e5dbd", func := "atlas/atlaslaw08.PermDecides", spec := "permDecides", unfollowed := true, recurses := true, apart := false, narrowed := true }
def PermDecidesUptoSaid : Prop := permDecidesUptoRow.holds Try.pinned (OpenSpec.upto permDecidesSpec)

/-- 'atlaslaw08.PermLess', WHERE WHAT IT READS IS OF BULK AT MOST 1048576: true; the input reads as it did. -/
def permLessUptoRow : OpenClaim := { program := "ythmfgiodidaofaa", sum := "941996708bde58d371b3229df1a59a9570960afa2aceb93247116f248e5e5dbd", func := "atlas/atlaslaw08.PermLess", spec := "permLess", unfollowed := true, recurses := true, apart := false, narrowed := true }
def PermLessUptoSaid : Prop := permLessUptoRow.holds Try.pinned (OpenSpec.upto permLessSpec)

/-- 'atlaslaw08.PermUser', WHERE WHAT IT READS IS OF BULK AT MOST 1048576: true; the input reads as it did. -/
def permUserUptoRow : OpenClaim := { program := "ythmfgiodidaofaa", sum := "941996708bde58d371b3229df1a59a9570960afa2aceb93247116f248e5e5dbd", func := "atlas/atlaslaw08.PermUser", spec := "permUser", unfollowed := true, recurses := true, apart := false, narrowed := true }
def PermUserUptoSaid : Prop := permUserUptoRow.holds Try.pinned (OpenSpec.upto permUserSpec)

end Rows
end Go.Proofs.Ythmfgiodidaofaa
