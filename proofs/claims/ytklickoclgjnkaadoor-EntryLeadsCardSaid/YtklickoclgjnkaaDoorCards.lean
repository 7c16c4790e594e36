/-
  DERIVED. GIVEN WITH THE SEED: THE CARDS: each row of YtklickoclgjnkaaDoorRows.lean that lists a variable, with what it lists TIED to the program's text (the seventh form; the later family's looks); each row that meets fmt, with fmt's text TOLD by the authors' own Lean function (tested against real Go, not proved from fmt's source: count such statements apart). THE CARD IS WHAT COUNTS. Prove the row's statement (the work); the ties are given (YtklickoclgjnkaaDoorTie.lean); close each card by the builder's one call (the guide's Derived/Test/ToyasCard.lean, 'card_holds'). Laid BY PROGRAM, IN A SANDBOX (cutbox-door.mjs). By AI agents, Wed Nov 11 2026. No macro, syntax, notation, axiom, sorry.
-/
import Derived.Test.YtklickoclgjnkaaDoorRows
import GoSem.ClaimSeven
namespace Go.Proofs.YtklickoclgjnkaaDoor
namespace Rows

/-- THE TIED CARD OF 'atlaslaw12.EntryMakes'. -/
def entryMakesCard : Claim7 := { stood := { row := entryMakesRow, standIns := [], harness := (true, "4fad49f08fe7aba6a1634d0776e819837aaee0ec3ec06d85e4a7a5c62f0d7ea4"), looks := false }, kinds := [], alts := [], laidByText := true, laidKinds := [.data], laidTests := true, laidLooks := .later }
def EntryMakesCardSaid : Prop := Claim7.holds Tryd.pinned (.plain (OpenSpec.ofChange entryMakesSpec)) entryMakesCard

/-- THE TIED CARD OF 'atlaslaw12.EntryAsks'. -/
def entryAsksCard : Claim7 := { stood := { row := entryAsksRow, standIns := [], harness := (true, "4fad49f08fe7aba6a1634d0776e819837aaee0ec3ec06d85e4a7a5c62f0d7ea4"), looks := false }, kinds := [], alts := [], laidByText := true, laidKinds := [.data], laidTests := true, laidLooks := .later }
def EntryAsksCardSaid : Prop := Claim7.holds Tryd.pinned (.plain (OpenSpec.ofChange entryAsksSpec)) entryAsksCard

/-- THE TIED CARD OF 'atlaslaw12.EntryLeads'. -/
def entryLeadsCard : Claim7 := { stood := { row := entryLeadsRow, standIns := [], harness := (true, "4fad49f08fe7aba6a1634d0776e819837aaee0ec3ec06d85e4a7a5c62f0d7ea4"), looks := false }, kinds := [], alts := [], laidByText := true, laidKinds := [.data], laidTests := true, laidLooks := .later }
def EntryLeadsCardSaid : Prop := Claim7.holds Tryd.pinned (.plain (OpenSpec.ofChange entryLeadsSpec)) entryLeadsCard

/-- THE TIED CARD OF 'atlaslaw12.EntryOver'. -/
def entryOverCard : Claim7 := { stood := { row := entryOverRow, standIns := [], harness := (true, "4fad49f08fe7aba6a1634d0776e819837aaee0ec3ec06d85e4a7a5c62f0d7ea4"), looks := false }, kinds := [], alts := [], laidByText := true, laidKinds := [.data], laidTests := true, laidLooks := .later }
def EntryOverCardSaid : Prop := Claim7.holds Tryd.pinned (.plain (OpenSpec.ofChange entryOverSpec)) entryOverCard

/-- THE TIED CARD OF 'atlaslaw12.EntrySame'. -/
def entrySameCard : Claim7 := { stood := { row := entrySameRow, standIns := [], harness := (true, "4fad49f08fe7aba6a1634d0776e819837aaee0ec3ec06d85e4a7a5c62f0d7ea4"), looks := false }, kinds := [], alts := [], laidByText := true, laidKinds := [.data], laidTests := true, laidLooks := .later }
def EntrySameCardSaid : Prop := Claim7.holds Tryd.pinned (.plain (OpenSpec.ofChange entrySameSpec)) entrySameCard

/-- THE SECOND FORM's CARD OF 'atlaslaw12.EntryMakes'. -/
def entryMakesUptoCard : Claim7 := { stood := { row := entryMakesUptoRow, standIns := [], harness := (true, "4fad49f08fe7aba6a1634d0776e819837aaee0ec3ec06d85e4a7a5c62f0d7ea4"), looks := false }, kinds := [], alts := [], laidByText := true, laidKinds := [.data], laidTests := true, laidLooks := .later }
def EntryMakesUptoCardSaid : Prop := Claim7.holds Tryd.pinned (.plain (OpenSpec.upto entryMakesSpec)) entryMakesUptoCard

/-- THE SECOND FORM's CARD OF 'atlaslaw12.EntryAsks'. -/
def entryAsksUptoCard : Claim7 := { stood := { row := entryAsksUptoRow, standIns := [], harness := (true, "4fad49f08fe7aba6a1634d0776e819837aaee0ec3ec06d85e4a7a5c62f0d7ea4"), looks := false }, kinds := [], alts := [], laidByText := true, laidKinds := [.data], laidTests := true, laidLooks := .later }
def EntryAsksUptoCardSaid : Prop := Claim7.holds Tryd.pinned (.plain (OpenSpec.upto entryAsksSpec)) entryAsksUptoCard

/-- THE SECOND FORM's CARD OF 'atlaslaw12.EntryLeads'. -/
def entryLeadsUptoCard : Claim7 := { stood := { row := entryLeadsUptoRow, standIns := [], harness := (true, "4fad49f08fe7aba6a1634d0776e819837aaee0ec3ec06d85e4a7a5c62f0d7ea4"), looks := false }, kinds := [], alts := [], laidByText := true, laidKinds := [.data], laidTests := true, laidLooks := .later }
def EntryLeadsUptoCardSaid : Prop := Claim7.holds Tryd.pinned (.plain (OpenSpec.upto entryLeadsSpec)) entryLeadsUptoCard

/-- THE SECOND FORM's CARD OF 'atlaslaw12.EntryOver'. -/
def entryOverUptoCard : Claim7 := { stood := { row := entryOverUptoRow, standIns := [], harness := (true, "4fad49f08fe7aba6a1634d0776e819837aaee0ec3ec06d85e4a7a5c62f0d7ea4"), looks := false }, kinds := [], alts := [], laidByText := true, laidKinds := [.data], laidTests := true, laidLooks := .later }
def EntryOverUptoCardSaid : Prop := Claim7.holds Tryd.pinned (.plain (OpenSpec.upto entryOverSpec)) entryOverUptoCard

/-- THE SECOND FORM's CARD OF 'atlaslaw12.EntrySame'. -/
def entrySameUptoCard : Claim7 := { stood := { row := entrySameUptoRow, standIns := [], harness := (true, "4fad49f08fe7aba6a1634d0776e819837aaee0ec3ec06d85e4a7a5c62f0d7ea4"), looks := false }, kinds := [], alts := [], laidByText := true, laidKinds := [.data], laidTests := true, laidLooks := .later }
def EntrySameUptoCardSaid : Prop := Claim7.holds Tryd.pinned (.plain (OpenSpec.upto entrySameSpec)) entrySameUptoCard
end Rows
end Go.Proofs.YtklickoclgjnkaaDoor
