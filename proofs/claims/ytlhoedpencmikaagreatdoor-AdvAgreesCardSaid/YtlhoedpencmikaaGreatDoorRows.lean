/-
  NARROWER THAN 'FOR EVERY INPUT', by the rows' own cells (each row's printed sentence says how): AdvDoes: laid · AdvAgrees: laid · AdvSilent: laid.
  DERIVED. THE GIVEN ROWS OF THIS SEAT. 3 by the template 'for every input the law returns true; each argument reads behind the call as it read before'; 0 by the template 'total and deterministic' (their statements: YtlhoedpencmikaaGreatDoorTotals.lean).
  GIVEN WITH THE SEED: the statements are not yours to turn. If you find one false, say at which input.
  Laid BY PROGRAM, IN A SANDBOX (cutbox-rows.mjs): the forced cells as the released guide's own fill.sh prints them over the translation f6516e4cfd43581e… (all of the seat's roots in one cut). By AI agents, Wed Nov 11 2026. No macro, syntax, notation, axiom, sorry.
-/
import Derived.Test.YtlhoedpencmikaaGreatDoorChecked
import GoSem.Claim
import GoSem.ClaimJoined
import GoSem.ClaimMapViews
import Derived.JoinedTies
import Derived.KernelRfl
namespace Go.Proofs.YtlhoedpencmikaaGreatDoor
/- THE CELL 'sum', in the pinned program and in every row, IS THE sha256 OF THE DUMP (.gsa) THAT YtlhoedpencmikaaGreatDoorProg.lean LOADS. Nothing in Lean hashes anything: it is a label: what it is worth is what the hold of that sum in a sandbox is worth. -/
noncomputable def Tryz.pinned : Pinned := { name := "ytlhoedpencmikaagreatdoor", sum := "f6516e4cfd43581e4da33a58e73c391e080e2f7855410ac4299f33ec1bfef5e1", checked := Tryz.checked }
namespace Rows
def none {H : Type} : Left H := { results := [], args := [] }

/- WHAT THE LISTED PACKAGE-LEVEL VARIABLES READ AS WHEN THE CALL BEGINS. Each datum BY PROGRAM (the guide's laid-datum.mjs) off the statement by which the dump's own 'gosem.cut.vars' lays the variable. In a bare row this is a premise. The card (YtlhoedpencmikaaGreatDoorCards.lean) ties it to the program's text. -/
def laid_atlas_cause_causes {H : Type} : DataW H := .agg [.agg [.lit (.int .i64 0), .lit (.int .i64 4), .lit (.int .i64 6)], .agg [.lit (.int .i64 1), .lit (.int .i64 5), .lit (.int .i64 7)], .agg [.lit (.int .i64 12), .lit (.int .i64 13), .lit (.int .i64 15)]]
def laid_atlas_plru_touches {H : Type} : DataW H := .agg [.agg [.lit (.int .u8 3), .lit (.int .u8 3)], .agg [.lit (.int .u8 3), .lit (.int .u8 1)], .agg [.lit (.int .u8 5), .lit (.int .u8 4)], .agg [.lit (.int .u8 5), .lit (.int .u8 0)]]
def laid_atlas_va_sizes {H : Type} : DataW H := .agg [.lit (.int .u64 4096), .lit (.int .u64 2097152), .lit (.int .u64 1073741824)]

/-- 'atlaslaw17.AdvDoes': WHATEVER THE INPUT: true; the input reads as it did. -/
def advDoesSpec : ChangeSpec := { name := "advDoes", fn := fun _ => fun
  | [d1, d2, d3, d4, d5, d6] => { results := [.lit (.bool true)], args := [d1, d2, d3, d4, d5, d6] }
  | _ => none }
def advDoesRow : OpenClaim := { program := "ytlhoedpencmikaagreatdoor", sum := "f6516e4cfd43581e4da33a58e73c391e080e2f7855410ac4299f33ec1bfef5e1", func := "atlas/atlaslaw17.AdvDoes", spec := "advDoes", unfollowed := true, recurses := true, named := ["atlas/cause.causes", "atlas/va.sizes", "atlas/plru.touches"], apart := false, laid := [("atlas/cause.causes", laid_atlas_cause_causes), ("atlas/plru.touches", laid_atlas_plru_touches), ("atlas/va.sizes", laid_atlas_va_sizes)] }
def AdvDoesSaid : Prop := advDoesRow.holds Tryz.pinned (OpenSpec.ofChange advDoesSpec)

/-- ITS FALSE NEIGHBOUR: 'it returns false'. Refute it at one input. -/
def advDoesWrong : ChangeSpec := { name := "advDoes", fn := fun _ => fun
  | [d1, d2, d3, d4, d5, d6] => { results := [.lit (.bool false)], args := [d1, d2, d3, d4, d5, d6] }
  | _ => none }
def AdvDoesWrongFalsely : Prop := advDoesRow.holds Tryz.pinned (OpenSpec.ofChange advDoesWrong)

/-- 'atlaslaw17.AdvAgrees': WHATEVER THE INPUT: true; the input reads as it did. -/
def advAgreesSpec : ChangeSpec := { name := "advAgrees", fn := fun _ => fun
  | [d1, d2, d3, d4, d5, d6, d7] => { results := [.lit (.bool true)], args := [d1, d2, d3, d4, d5, d6, d7] }
  | _ => none }
def advAgreesRow : OpenClaim := { program := "ytlhoedpencmikaagreatdoor", sum := "f6516e4cfd43581e4da33a58e73c391e080e2f7855410ac4299f33ec1bfef5e1", func := "atlas/atlaslaw17.AdvAgrees", spec := "advAgrees", unfollowed := true, recurses := true, named := ["atlas/cause.causes", "atlas/va.sizes", "atlas/plru.touches"], apart := false, laid := [("atlas/cause.causes", laid_atlas_cause_causes), ("atlas/plru.touches", laid_atlas_plru_touches), ("atlas/va.sizes", laid_atlas_va_sizes)] }
def AdvAgreesSaid : Prop := advAgreesRow.holds Tryz.pinned (OpenSpec.ofChange advAgreesSpec)

/-- ITS FALSE NEIGHBOUR: 'it returns false'. Refute it at one input. -/
def advAgreesWrong : ChangeSpec := { name := "advAgrees", fn := fun _ => fun
  | [d1, d2, d3, d4, d5, d6, d7] => { results := [.lit (.bool false)], args := [d1, d2, d3, d4, d5, d6, d7] }
  | _ => none }
def AdvAgreesWrongFalsely : Prop := advAgreesRow.holds Tryz.pinned (OpenSpec.ofChange advAgreesWrong)

/-- 'atlaslaw17.AdvSilent': WHATEVER THE INPUT: true; the input reads as it did. -/
def advSilentSpec : ChangeSpec := { name := "advSilent", fn := fun _ => fun
  | [d1, d2, d3, d4, d5, d6, d7, d8, d9] => { results := [.lit (.bool true)], args := [d1, d2, d3, d4, d5, d6, d7, d8, d9] }
  | _ => none }
def advSilentRow : OpenClaim := { program := "ytlhoedpencmikaagreatdoor", sum := "f6516e4cfd43581e4da33a58e73c391e080e2f7855410ac4299f33ec1bfef5e1", func := "atlas/atlaslaw17.AdvSilent", spec := "advSilent", unfollowed := true, recurses := true, named := ["atlas/cause.causes", "atlas/va.sizes", "atlas/plru.touches"], apart := false, laid := [("atlas/cause.causes", laid_atlas_cause_causes), ("atlas/plru.touches", laid_atlas_plru_touches), ("atlas/va.sizes", laid_atlas_va_sizes)] }
def AdvSilentSaid : Prop := advSilentRow.holds Tryz.pinned (OpenSpec.ofChange advSilentSpec)

/-- ITS FALSE NEIGHBOUR: 'it returns false'. Refute it at one input. -/
def advSilentWrong : ChangeSpec := { name := "advSilent", fn := fun _ => fun
  | [d1, d2, d3, d4, d5, d6, d7, d8, d9] => { results := [.lit (.bool false)], args := [d1, d2, d3, d4, d5, d6, d7, d8, d9] }
  | _ => none }
def AdvSilentWrongFalsely : Prop := advSilentRow.holds Tryz.pinned (OpenSpec.ofChange advSilentWrong)

/- THE SECOND FORM. 'bulk': how many values and letters a reading holds, each counted each time it is reached (what is shared counts as often as it is met; a slice's spare places count too). A statement '..UptoSaid' is the law's where the arguments, and the package variables that the reading takes, are together of bulk at most 1048576: NARROWER than '..Said'. Prove '..Said' where nothing that the law and all that it calls make is longer than what came in: it says more and counts as full. Else prove '..UptoSaid'. A law counts once. -/
mutual
def uptoBulk {H : Type} : DataW H → Nat
  | .lit (.string bytes) => bytes.length + 1
  | .lit _ => 1
  | .nil => 1
  | .ptr d => uptoBulk d + 1
  | .slice elems spare => uptoBulkAll elems + uptoBulkAll spare + 1
  | .agg parts => uptoBulkAll parts + 1
  | .iface _ d => uptoBulk d + 1
  | .map entries => uptoBulkEntries entries + 1
  | .held _ => 1
def uptoBulkAll {H : Type} : List (DataW H) → Nat
  | [] => 0
  | d :: r => uptoBulk d + uptoBulkAll r
def uptoBulkEntries {H : Type} : List (Lit × DataW H) → Nat
  | [] => 0
  | x :: r => uptoBulkEntry x + uptoBulkEntries r
def uptoBulkEntry {H : Type} : Lit × DataW H → Nat
  | (.string bytes, d) => bytes.length + uptoBulk d + 1
  | (_, d) => uptoBulk d + 1
 end
def uptoSmall : (H : Type) → List (DataW H) → Bool := fun _ ds => decide (uptoBulkAll ds ≤ 1048576)
def OpenSpec.upto (s : _root_.Go.ChangeSpec) : _root_.Go.OpenSpec := { _root_.Go.OpenSpec.ofChange s with cond := some uptoSmall }

/-- 'atlaslaw17.AdvDoes', WHERE WHAT IT READS IS OF BULK AT MOST 1048576: true; the input reads as it did. -/
def advDoesUptoRow : OpenClaim := { program := "ytlhoedpencmikaagreatdoor", sum := "f6516e4cfd43581e4da33a58e73c391e080e2f7855410ac4299f33ec1bfef5e1", func := "atlas/atlaslaw17.AdvDoes", spec := "advDoes", unfollowed := true, recurses := true, named := ["atlas/cause.causes", "atlas/va.sizes", "atlas/plru.touches"], apart := false, laid := [("atlas/cause.causes", laid_atlas_cause_causes), ("atlas/plru.touches", laid_atlas_plru_touches), ("atlas/va.sizes", laid_atlas_va_sizes)], narrowed := true }
def AdvDoesUptoSaid : Prop := advDoesUptoRow.holds Tryz.pinned (OpenSpec.upto advDoesSpec)

/-- 'atlaslaw17.AdvAgrees', WHERE WHAT IT READS IS OF BULK AT MOST 1048576: true; the input reads as it did. -/
def advAgreesUptoRow : OpenClaim := { program := "ytlhoedpencmikaagreatdoor", sum := "f6516e4cfd43581e4da33a58e73c391e080e2f7855410ac4299f33ec1bfef5e1", func := "atlas/atlaslaw17.AdvAgrees", spec := "advAgrees", unfollowed := true, recurses := true, named := ["atlas/cause.causes", "atlas/va.sizes", "atlas/plru.touches"], apart := false, laid := [("atlas/cause.causes", laid_atlas_cause_causes), ("atlas/plru.touches", laid_atlas_plru_touches), ("atlas/va.sizes", laid_atlas_va_sizes)], narrowed := true }
def AdvAgreesUptoSaid : Prop := advAgreesUptoRow.holds Tryz.pinned (OpenSpec.upto advAgreesSpec)

/-- 'atlaslaw17.AdvSilent', WHERE WHAT IT READS IS OF BULK AT MOST 1048576: true; the input reads as it did. -/
def advSilentUptoRow : OpenClaim := { program := "ytlhoedpencmikaagreatdoor", sum := "f6516e4cfd43581e4da33a58e73c391e080e2f7855410ac4299f33ec1bfef5e1", func := "atlas/atlaslaw17.AdvSilent", spec := "advSilent", unfollowed := true, recurses := true, named := ["atlas/cause.causes", "atlas/va.sizes", "atlas/plru.touches"], apart := false, laid := [("atlas/cause.causes", laid_atlas_cause_causes), ("atlas/plru.touches", laid_atlas_plru_touches), ("atlas/va.sizes", laid_atlas_va_sizes)], narrowed := true }
def AdvSilentUptoSaid : Prop := advSilentUptoRow.holds Tryz.pinned (OpenSpec.upto advSilentSpec)

end Rows
end Go.Proofs.YtlhoedpencmikaaGreatDoor
