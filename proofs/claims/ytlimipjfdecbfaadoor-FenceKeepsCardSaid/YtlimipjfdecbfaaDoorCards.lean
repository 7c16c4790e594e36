/-
  DERIVED. GIVEN WITH THE SEED: THE CARDS: each row of YtlimipjfdecbfaaDoorRows.lean that lists a variable, with what it lists TIED to the program's text (the seventh form; the later family's looks); each row that meets fmt, with fmt's text TOLD by the authors' own Lean function (tested against real Go, not proved from fmt's source: count such statements apart). THE CARD IS WHAT COUNTS. Prove the row's statement (the work); the ties are given (YtlimipjfdecbfaaDoorTie.lean); close each card by the builder's one call (the guide's Derived/Test/ToyasCard.lean, 'card_holds'). Laid BY PROGRAM, IN A SANDBOX (cutbox-door.mjs). By AI agents, Wed Nov 11 2026. No macro, syntax, notation, axiom, sorry.
-/
import Derived.Test.YtlimipjfdecbfaaDoorRows
import GoSem.ClaimSeven
namespace Go.Proofs.YtlimipjfdecbfaaDoor
namespace Rows

/-- THE TIED CARD OF 'atlaslaw15.FenceNames'. -/
def fenceNamesCard : Claim7 := { stood := { row := fenceNamesRow, standIns := [], harness := (true, "7d0616a84407b691b9b25fd01dc7c5a0d7dcf4976d393505024a5b5b3f282cce"), looks := false }, kinds := [], alts := [], laidByText := true, laidKinds := [.data], laidTests := true, laidLooks := .later }
def FenceNamesCardSaid : Prop := Claim7.holds Tryd.pinned (.plain (OpenSpec.ofChange fenceNamesSpec)) fenceNamesCard

/-- THE TIED CARD OF 'atlaslaw15.FenceDoes'. -/
def fenceDoesCard : Claim7 := { stood := { row := fenceDoesRow, standIns := [], harness := (true, "7d0616a84407b691b9b25fd01dc7c5a0d7dcf4976d393505024a5b5b3f282cce"), looks := false }, kinds := [], alts := [], laidByText := true, laidKinds := [.data], laidTests := true, laidLooks := .later }
def FenceDoesCardSaid : Prop := Claim7.holds Tryd.pinned (.plain (OpenSpec.ofChange fenceDoesSpec)) fenceDoesCard

/-- THE TIED CARD OF 'atlaslaw15.FenceLeaves'. -/
def fenceLeavesCard : Claim7 := { stood := { row := fenceLeavesRow, standIns := [], harness := (true, "7d0616a84407b691b9b25fd01dc7c5a0d7dcf4976d393505024a5b5b3f282cce"), looks := false }, kinds := [], alts := [], laidByText := true, laidKinds := [.data], laidTests := true, laidLooks := .later }
def FenceLeavesCardSaid : Prop := Claim7.holds Tryd.pinned (.plain (OpenSpec.ofChange fenceLeavesSpec)) fenceLeavesCard

/-- THE TIED CARD OF 'atlaslaw15.FenceLess'. -/
def fenceLessCard : Claim7 := { stood := { row := fenceLessRow, standIns := [], harness := (true, "7d0616a84407b691b9b25fd01dc7c5a0d7dcf4976d393505024a5b5b3f282cce"), looks := false }, kinds := [], alts := [], laidByText := true, laidKinds := [.data], laidTests := true, laidLooks := .later }
def FenceLessCardSaid : Prop := Claim7.holds Tryd.pinned (.plain (OpenSpec.ofChange fenceLessSpec)) fenceLessCard

/-- THE TIED CARD OF 'atlaslaw15.FenceKeeps'. -/
def fenceKeepsCard : Claim7 := { stood := { row := fenceKeepsRow, standIns := [], harness := (true, "7d0616a84407b691b9b25fd01dc7c5a0d7dcf4976d393505024a5b5b3f282cce"), looks := false }, kinds := [], alts := [], laidByText := true, laidKinds := [.data], laidTests := true, laidLooks := .later }
def FenceKeepsCardSaid : Prop := Claim7.holds Tryd.pinned (.plain (OpenSpec.ofChange fenceKeepsSpec)) fenceKeepsCard

/-- THE TIED CARD OF 'atlaslaw15.FenceOwn'. -/
def fenceOwnCard : Claim7 := { stood := { row := fenceOwnRow, standIns := [], harness := (true, "7d0616a84407b691b9b25fd01dc7c5a0d7dcf4976d393505024a5b5b3f282cce"), looks := false }, kinds := [], alts := [], laidByText := true, laidKinds := [.data], laidTests := true, laidLooks := .later }
def FenceOwnCardSaid : Prop := Claim7.holds Tryd.pinned (.plain (OpenSpec.ofChange fenceOwnSpec)) fenceOwnCard

/-- THE SECOND FORM's CARD OF 'atlaslaw15.FenceNames'. -/
def fenceNamesUptoCard : Claim7 := { stood := { row := fenceNamesUptoRow, standIns := [], harness := (true, "7d0616a84407b691b9b25fd01dc7c5a0d7dcf4976d393505024a5b5b3f282cce"), looks := false }, kinds := [], alts := [], laidByText := true, laidKinds := [.data], laidTests := true, laidLooks := .later }
def FenceNamesUptoCardSaid : Prop := Claim7.holds Tryd.pinned (.plain (OpenSpec.upto fenceNamesSpec)) fenceNamesUptoCard

/-- THE SECOND FORM's CARD OF 'atlaslaw15.FenceDoes'. -/
def fenceDoesUptoCard : Claim7 := { stood := { row := fenceDoesUptoRow, standIns := [], harness := (true, "7d0616a84407b691b9b25fd01dc7c5a0d7dcf4976d393505024a5b5b3f282cce"), looks := false }, kinds := [], alts := [], laidByText := true, laidKinds := [.data], laidTests := true, laidLooks := .later }
def FenceDoesUptoCardSaid : Prop := Claim7.holds Tryd.pinned (.plain (OpenSpec.upto fenceDoesSpec)) fenceDoesUptoCard

/-- THE SECOND FORM's CARD OF 'atlaslaw15.FenceLeaves'. -/
def fenceLeavesUptoCard : Claim7 := { stood := { row := fenceLeavesUptoRow, standIns := [], harness := (true, "7d0616a84407b691b9b25fd01dc7c5a0d7dcf4976d393505024a5b5b3f282cce"), looks := false }, kinds := [], alts := [], laidByText := true, laidKinds := [.data], laidTests := true, laidLooks := .later }
def FenceLeavesUptoCardSaid : Prop := Claim7.holds Tryd.pinned (.plain (OpenSpec.upto fenceLeavesSpec)) fenceLeavesUptoCard

/-- THE SECOND FORM's CARD OF 'atlaslaw15.FenceLess'. -/
def fenceLessUptoCard : Claim7 := { stood := { row := fenceLessUptoRow, standIns := [], harness := (true, "7d0616a84407b691b9b25fd01dc7c5a0d7dcf4976d393505024a5b5b3f282cce"), looks := false }, kinds := [], alts := [], laidByText := true, laidKinds := [.data], laidTests := true, laidLooks := .later }
def FenceLessUptoCardSaid : Prop := Claim7.holds Tryd.pinned (.plain (OpenSpec.upto fenceLessSpec)) fenceLessUptoCard

/-- THE SECOND FORM's CARD OF 'atlaslaw15.FenceKeeps'. -/
def fenceKeepsUptoCard : Claim7 := { stood := { row := fenceKeepsUptoRow, standIns := [], harness := (true, "7d0616a84407b691b9b25fd01dc7c5a0d7dcf4976d393505024a5b5b3f282cce"), looks := false }, kinds := [], alts := [], laidByText := true, laidKinds := [.data], laidTests := true, laidLooks := .later }
def FenceKeepsUptoCardSaid : Prop := Claim7.holds Tryd.pinned (.plain (OpenSpec.upto fenceKeepsSpec)) fenceKeepsUptoCard

/-- THE SECOND FORM's CARD OF 'atlaslaw15.FenceOwn'. -/
def fenceOwnUptoCard : Claim7 := { stood := { row := fenceOwnUptoRow, standIns := [], harness := (true, "7d0616a84407b691b9b25fd01dc7c5a0d7dcf4976d393505024a5b5b3f282cce"), looks := false }, kinds := [], alts := [], laidByText := true, laidKinds := [.data], laidTests := true, laidLooks := .later }
def FenceOwnUptoCardSaid : Prop := Claim7.holds Tryd.pinned (.plain (OpenSpec.upto fenceOwnSpec)) fenceOwnUptoCard
end Rows
end Go.Proofs.YtlimipjfdecbfaaDoor
