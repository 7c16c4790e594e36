/-
  NARROWER THAN 'FOR EVERY INPUT', by the rows' own cells (each row's printed sentence says how): PteWords: laid · PteKinds: laid · PteBack: laid · PteOne: laid · PteMade: laid.
  DERIVED. THE GIVEN ROWS OF THIS SEAT. 5 by the template 'for every input the law returns true; each argument reads behind the call as it read before'; 0 by the template 'total and deterministic' (their statements: YtdifjgppnfcnnaaDoorTotals.lean).
  GIVEN WITH THE SEED: the statements are not yours to turn. If you find one false, say at which input.
  Laid BY PROGRAM, IN A SANDBOX (cutbox-rows.mjs): the forced cells as the released guide's own fill.sh prints them over the translation 69d4a4137c458ddc… (all of the seat's roots in one cut). By AI agents, Wed Nov 11 2026. No macro, syntax, notation, axiom, sorry.
-/
import Derived.Test.YtdifjgppnfcnnaaDoorChecked
import GoSem.Claim
import GoSem.ClaimJoined
import GoSem.ClaimMapViews
import Derived.JoinedTies
import Derived.KernelRfl
namespace Go.Proofs.YtdifjgppnfcnnaaDoor
/- THE CELL 'sum', in the pinned program and in every row, IS THE sha256 OF THE DUMP (.gsa) THAT YtdifjgppnfcnnaaDoorProg.lean LOADS. Nothing in Lean hashes anything: it is a label: what it is worth is what the hold of that sum in a sandbox is worth. -/
noncomputable def Tryd.pinned : Pinned := { name := "ytdifjgppnfcnnaadoor", sum := "69d4a4137c458ddc091926a45cba53019ec8686c4970483f6dee84fbc70959a2", checked := Tryd.checked }
namespace Rows
def none {H : Type} : Left H := { results := [], args := [] }

/- WHAT THE LISTED PACKAGE-LEVEL VARIABLES READ AS WHEN THE CALL BEGINS. Each datum BY PROGRAM (the guide's laid-datum.mjs) off the statement by which the dump's own 'gosem.cut.vars' lays the variable. In a bare row this is a premise. The card (YtdifjgppnfcnnaaDoorCards.lean) ties it to the program's text. -/
def laid_atlas_va_sizes {H : Type} : DataW H := .agg [.lit (.int .u64 4096), .lit (.int .u64 2097152), .lit (.int .u64 1073741824)]

/-- 'atlaslaw06.PteWords': WHATEVER THE INPUT: true; the input reads as it did. -/
def pteWordsSpec : ChangeSpec := { name := "pteWords", fn := fun _ => fun
  | [d1, d2] => { results := [.lit (.bool true)], args := [d1, d2] }
  | _ => none }
def pteWordsRow : OpenClaim := { program := "ytdifjgppnfcnnaadoor", sum := "69d4a4137c458ddc091926a45cba53019ec8686c4970483f6dee84fbc70959a2", func := "atlas/atlaslaw06.PteWords", spec := "pteWords", named := ["atlas/va.sizes"], apart := false, laid := [("atlas/va.sizes", laid_atlas_va_sizes)] }
def PteWordsSaid : Prop := pteWordsRow.holds Tryd.pinned (OpenSpec.ofChange pteWordsSpec)

/-- ITS FALSE NEIGHBOUR: 'it returns false'. Refute it at one input. -/
def pteWordsWrong : ChangeSpec := { name := "pteWords", fn := fun _ => fun
  | [d1, d2] => { results := [.lit (.bool false)], args := [d1, d2] }
  | _ => none }
def PteWordsWrongFalsely : Prop := pteWordsRow.holds Tryd.pinned (OpenSpec.ofChange pteWordsWrong)

/-- 'atlaslaw06.PteKinds': WHATEVER THE INPUT: true; the input reads as it did. -/
def pteKindsSpec : ChangeSpec := { name := "pteKinds", fn := fun _ => fun
  | [d1, d2, d3, d4, d5] => { results := [.lit (.bool true)], args := [d1, d2, d3, d4, d5] }
  | _ => none }
def pteKindsRow : OpenClaim := { program := "ytdifjgppnfcnnaadoor", sum := "69d4a4137c458ddc091926a45cba53019ec8686c4970483f6dee84fbc70959a2", func := "atlas/atlaslaw06.PteKinds", spec := "pteKinds", named := ["atlas/va.sizes"], apart := false, laid := [("atlas/va.sizes", laid_atlas_va_sizes)] }
def PteKindsSaid : Prop := pteKindsRow.holds Tryd.pinned (OpenSpec.ofChange pteKindsSpec)

/-- ITS FALSE NEIGHBOUR: 'it returns false'. Refute it at one input. -/
def pteKindsWrong : ChangeSpec := { name := "pteKinds", fn := fun _ => fun
  | [d1, d2, d3, d4, d5] => { results := [.lit (.bool false)], args := [d1, d2, d3, d4, d5] }
  | _ => none }
def PteKindsWrongFalsely : Prop := pteKindsRow.holds Tryd.pinned (OpenSpec.ofChange pteKindsWrong)

/-- 'atlaslaw06.PteBack': WHATEVER THE INPUT: true; the input reads as it did. -/
def pteBackSpec : ChangeSpec := { name := "pteBack", fn := fun _ => fun
  | [d1, d2, d3] => { results := [.lit (.bool true)], args := [d1, d2, d3] }
  | _ => none }
def pteBackRow : OpenClaim := { program := "ytdifjgppnfcnnaadoor", sum := "69d4a4137c458ddc091926a45cba53019ec8686c4970483f6dee84fbc70959a2", func := "atlas/atlaslaw06.PteBack", spec := "pteBack", named := ["atlas/va.sizes"], apart := false, laid := [("atlas/va.sizes", laid_atlas_va_sizes)] }
def PteBackSaid : Prop := pteBackRow.holds Tryd.pinned (OpenSpec.ofChange pteBackSpec)

/-- ITS FALSE NEIGHBOUR: 'it returns false'. Refute it at one input. -/
def pteBackWrong : ChangeSpec := { name := "pteBack", fn := fun _ => fun
  | [d1, d2, d3] => { results := [.lit (.bool false)], args := [d1, d2, d3] }
  | _ => none }
def PteBackWrongFalsely : Prop := pteBackRow.holds Tryd.pinned (OpenSpec.ofChange pteBackWrong)

/-- 'atlaslaw06.PteOne': WHATEVER THE INPUT: true; the input reads as it did. -/
def pteOneSpec : ChangeSpec := { name := "pteOne", fn := fun _ => fun
  | [d1, d2] => { results := [.lit (.bool true)], args := [d1, d2] }
  | _ => none }
def pteOneRow : OpenClaim := { program := "ytdifjgppnfcnnaadoor", sum := "69d4a4137c458ddc091926a45cba53019ec8686c4970483f6dee84fbc70959a2", func := "atlas/atlaslaw06.PteOne", spec := "pteOne", named := ["atlas/va.sizes"], apart := false, laid := [("atlas/va.sizes", laid_atlas_va_sizes)] }
def PteOneSaid : Prop := pteOneRow.holds Tryd.pinned (OpenSpec.ofChange pteOneSpec)

/-- ITS FALSE NEIGHBOUR: 'it returns false'. Refute it at one input. -/
def pteOneWrong : ChangeSpec := { name := "pteOne", fn := fun _ => fun
  | [d1, d2] => { results := [.lit (.bool false)], args := [d1, d2] }
  | _ => none }
def PteOneWrongFalsely : Prop := pteOneRow.holds Tryd.pinned (OpenSpec.ofChange pteOneWrong)

/-- 'atlaslaw06.PteMade': WHATEVER THE INPUT: true; the input reads as it did. -/
def pteMadeSpec : ChangeSpec := { name := "pteMade", fn := fun _ => fun
  | [d1, d2, d3, d4] => { results := [.lit (.bool true)], args := [d1, d2, d3, d4] }
  | _ => none }
def pteMadeRow : OpenClaim := { program := "ytdifjgppnfcnnaadoor", sum := "69d4a4137c458ddc091926a45cba53019ec8686c4970483f6dee84fbc70959a2", func := "atlas/atlaslaw06.PteMade", spec := "pteMade", named := ["atlas/va.sizes"], apart := false, laid := [("atlas/va.sizes", laid_atlas_va_sizes)] }
def PteMadeSaid : Prop := pteMadeRow.holds Tryd.pinned (OpenSpec.ofChange pteMadeSpec)

/-- ITS FALSE NEIGHBOUR: 'it returns false'. Refute it at one input. -/
def pteMadeWrong : ChangeSpec := { name := "pteMade", fn := fun _ => fun
  | [d1, d2, d3, d4] => { results := [.lit (.bool false)], args := [d1, d2, d3, d4] }
  | _ => none }
def PteMadeWrongFalsely : Prop := pteMadeRow.holds Tryd.pinned (OpenSpec.ofChange pteMadeWrong)

/- THE SECOND FORM. 'bulk': how many values and letters a reading holds, each counted each time it is reached (what is shared counts as often as it is met; a slice's spare places count too). A statement '..UptoSaid' is the law's where the arguments, and the package variables that the reading takes, are together of bulk at most 1048576: NARROWER than '..Said'. Prove '..Said' where nothing that the law and all that it calls make is longer than what came in: it says more and counts as full. Else prove '..UptoSaid'. A law counts once. -/
mutual
def uptoBulk {H : Type} : DataW H → Nat
  | .lit (.string bytes) => bytes.length + 1
  | .lit _ => 1
  | .nil => 1
  | .ptr d => uptoBulk d + 1
  | .slice elems spare => uptoBulkAll elems + uptoBulkAll spare + 1
  | .agg parts => uptoBulkAll parts + 1
  | .iface _ d => uptoBulk d + 1
  | .map entries => uptoBulkEntries entries + 1
  | .held _ => 1
def uptoBulkAll {H : Type} : List (DataW H) → Nat
  | [] => 0
  | d :: r => uptoBulk d + uptoBulkAll r
def uptoBulkEntries {H : Type} : List (Lit × DataW H) → Nat
  | [] => 0
  | x :: r => uptoBulkEntry x + uptoBulkEntries r
def uptoBulkEntry {H : Type} : Lit × DataW H → Nat
  | (.string bytes, d) => bytes.length + uptoBulk d + 1
  | (_, d) => uptoBulk d + 1
 end
def uptoSmall : (H : Type) → List (DataW H) → Bool := fun _ ds => decide (uptoBulkAll ds ≤ 1048576)
def OpenSpec.upto (s : _root_.Go.ChangeSpec) : _root_.Go.OpenSpec := { _root_.Go.OpenSpec.ofChange s with cond := some uptoSmall }

/-- 'atlaslaw06.PteWords', WHERE WHAT IT READS IS OF BULK AT MOST 1048576: true; the input reads as it did. -/
def pteWordsUptoRow : OpenClaim := { program := "ytdifjgppnfcnnaadoor", sum := "69d4a4137c458ddc091926a45cba53019ec8686c4970483f6dee84fbc70959a2", func := "atlas/atlaslaw06.PteWords", spec := "pteWords", named := ["atlas/va.sizes"], apart := false, laid := [("atlas/va.sizes", laid_atlas_va_sizes)], narrowed := true }
def PteWordsUptoSaid : Prop := pteWordsUptoRow.holds Tryd.pinned (OpenSpec.upto pteWordsSpec)

/-- 'atlaslaw06.PteKinds', WHERE WHAT IT READS IS OF BULK AT MOST 1048576: true; the input reads as it did. -/
def pteKindsUptoRow : OpenClaim := { program := "ytdifjgppnfcnnaadoor", sum := "69d4a4137c458ddc091926a45cba53019ec8686c4970483f6dee84fbc70959a2", func := "atlas/atlaslaw06.PteKinds", spec := "pteKinds", named := ["atlas/va.sizes"], apart := false, laid := [("atlas/va.sizes", laid_atlas_va_sizes)], narrowed := true }
def PteKindsUptoSaid : Prop := pteKindsUptoRow.holds Tryd.pinned (OpenSpec.upto pteKindsSpec)

/-- 'atlaslaw06.PteBack', WHERE WHAT IT READS IS OF BULK AT MOST 1048576: true; the input reads as it did. -/
def pteBackUptoRow : OpenClaim := { program := "ytdifjgppnfcnnaadoor", sum := "69d4a4137c458ddc091926a45cba53019ec8686c4970483f6dee84fbc70959a2", func := "atlas/atlaslaw06.PteBack", spec := "pteBack", named := ["atlas/va.sizes"], apart := false, laid := [("atlas/va.sizes", laid_atlas_va_sizes)], narrowed := true }
def PteBackUptoSaid : Prop := pteBackUptoRow.holds Tryd.pinned (OpenSpec.upto pteBackSpec)

/-- 'atlaslaw06.PteOne', WHERE WHAT IT READS IS OF BULK AT MOST 1048576: true; the input reads as it did. -/
def pteOneUptoRow : OpenClaim := { program := "ytdifjgppnfcnnaadoor", sum := "69d4a4137c458ddc091926a45cba53019ec8686c4970483f6dee84fbc70959a2", func := "atlas/atlaslaw06.PteOne", spec := "pteOne", named := ["atlas/va.sizes"], apart := false, laid := [("atlas/va.sizes", laid_atlas_va_sizes)], narrowed := true }
def PteOneUptoSaid : Prop := pteOneUptoRow.holds Tryd.pinned (OpenSpec.upto pteOneSpec)

/-- 'atlaslaw06.PteMade', WHERE WHAT IT READS IS OF BULK AT MOST 1048576: true; the input reads as it did. -/
def pteMadeUptoRow : OpenClaim := { program := "ytdifjgppnfcnnaadoor", sum := "69d4a4137c458ddc091926a45cba53019ec8686c4970483f6dee84fbc70959a2", func := "atlas/atlaslaw06.PteMade", spec := "pteMade", named := ["atlas/va.sizes"], apart := false, laid := [("atlas/va.sizes", laid_atlas_va_sizes)], narrowed := true }
def PteMadeUptoSaid : Prop := pteMadeUptoRow.holds Tryd.pinned (OpenSpec.upto pteMadeSpec)

end Rows
end Go.Proofs.YtdifjgppnfcnnaaDoor
