/-
  DERIVED. GIVEN WITH THE SEED: THE CARDS: each row of YtdifjgppnfcnnaaDoorRows.lean that lists a variable, with what it lists TIED to the program's text (the seventh form; the later family's looks); each row that meets fmt, with fmt's text TOLD by the authors' own Lean function (tested against real Go, not proved from fmt's source: count such statements apart). THE CARD IS WHAT COUNTS. Prove the row's statement (the work); the ties are given (YtdifjgppnfcnnaaDoorTie.lean); close each card by the builder's one call (the guide's Derived/Test/ToyasCard.lean, 'card_holds'). Laid BY PROGRAM, IN A SANDBOX (cutbox-door.mjs). By AI agents, Wed Nov 11 2026. No macro, syntax, notation, axiom, sorry.
-/
import Derived.Test.YtdifjgppnfcnnaaDoorRows
import GoSem.ClaimSeven
namespace Go.Proofs.YtdifjgppnfcnnaaDoor
namespace Rows

/-- THE TIED CARD OF 'atlaslaw06.PteWords'. -/
def pteWordsCard : Claim7 := { stood := { row := pteWordsRow, standIns := [], harness := (true, "543c528c07e9479ac85f1ead113c6ca184b6ae2b6cf0cb88999ae7e3cd855aec"), looks := false }, kinds := [], alts := [], laidByText := true, laidKinds := [.data], laidTests := true, laidLooks := .later }
def PteWordsCardSaid : Prop := Claim7.holds Tryd.pinned (.plain (OpenSpec.ofChange pteWordsSpec)) pteWordsCard

/-- THE TIED CARD OF 'atlaslaw06.PteKinds'. -/
def pteKindsCard : Claim7 := { stood := { row := pteKindsRow, standIns := [], harness := (true, "543c528c07e9479ac85f1ead113c6ca184b6ae2b6cf0cb88999ae7e3cd855aec"), looks := false }, kinds := [], alts := [], laidByText := true, laidKinds := [.data], laidTests := true, laidLooks := .later }
def PteKindsCardSaid : Prop := Claim7.holds Tryd.pinned (.plain (OpenSpec.ofChange pteKindsSpec)) pteKindsCard

/-- THE TIED CARD OF 'atlaslaw06.PteBack'. -/
def pteBackCard : Claim7 := { stood := { row := pteBackRow, standIns := [], harness := (true, "543c528c07e9479ac85f1ead113c6ca184b6ae2b6cf0cb88999ae7e3cd855aec"), looks := false }, kinds := [], alts := [], laidByText := true, laidKinds := [.data], laidTests := true, laidLooks := .later }
def PteBackCardSaid : Prop := Claim7.holds Tryd.pinned (.plain (OpenSpec.ofChange pteBackSpec)) pteBackCard

/-- THE TIED CARD OF 'atlaslaw06.PteOne'. -/
def pteOneCard : Claim7 := { stood := { row := pteOneRow, standIns := [], harness := (true, "543c528c07e9479ac85f1ead113c6ca184b6ae2b6cf0cb88999ae7e3cd855aec"), looks := false }, kinds := [], alts := [], laidByText := true, laidKinds := [.data], laidTests := true, laidLooks := .later }
def PteOneCardSaid : Prop := Claim7.holds Tryd.pinned (.plain (OpenSpec.ofChange pteOneSpec)) pteOneCard

/-- THE TIED CARD OF 'atlaslaw06.PteMade'. -/
def pteMadeCard : Claim7 := { stood := { row := pteMadeRow, standIns := [], harness := (true, "543c528c07e9479ac85f1ead113c6ca184b6ae2b6cf0cb88999ae7e3cd855aec"), looks := false }, kinds := [], alts := [], laidByText := true, laidKinds := [.data], laidTests := true, laidLooks := .later }
def PteMadeCardSaid : Prop := Claim7.holds Tryd.pinned (.plain (OpenSpec.ofChange pteMadeSpec)) pteMadeCard

/-- THE SECOND FORM's CARD OF 'atlaslaw06.PteWords'. -/
def pteWordsUptoCard : Claim7 := { stood := { row := pteWordsUptoRow, standIns := [], harness := (true, "543c528c07e9479ac85f1ead113c6ca184b6ae2b6cf0cb88999ae7e3cd855aec"), looks := false }, kinds := [], alts := [], laidByText := true, laidKinds := [.data], laidTests := true, laidLooks := .later }
def PteWordsUptoCardSaid : Prop := Claim7.holds Tryd.pinned (.plain (OpenSpec.upto pteWordsSpec)) pteWordsUptoCard

/-- THE SECOND FORM's CARD OF 'atlaslaw06.PteKinds'. -/
def pteKindsUptoCard : Claim7 := { stood := { row := pteKindsUptoRow, standIns := [], harness := (true, "543c528c07e9479ac85f1ead113c6ca184b6ae2b6cf0cb88999ae7e3cd855aec"), looks := false }, kinds := [], alts := [], laidByText := true, laidKinds := [.data], laidTests := true, laidLooks := .later }
def PteKindsUptoCardSaid : Prop := Claim7.holds Tryd.pinned (.plain (OpenSpec.upto pteKindsSpec)) pteKindsUptoCard

/-- THE SECOND FORM's CARD OF 'atlaslaw06.PteBack'. -/
def pteBackUptoCard : Claim7 := { stood := { row := pteBackUptoRow, standIns := [], harness := (true, "543c528c07e9479ac85f1ead113c6ca184b6ae2b6cf0cb88999ae7e3cd855aec"), looks := false }, kinds := [], alts := [], laidByText := true, laidKinds := [.data], laidTests := true, laidLooks := .later }
def PteBackUptoCardSaid : Prop := Claim7.holds Tryd.pinned (.plain (OpenSpec.upto pteBackSpec)) pteBackUptoCard

/-- THE SECOND FORM's CARD OF 'atlaslaw06.PteOne'. -/
def pteOneUptoCard : Claim7 := { stood := { row := pteOneUptoRow, standIns := [], harness := (true, "543c528c07e9479ac85f1ead113c6ca184b6ae2b6cf0cb88999ae7e3cd855aec"), looks := false }, kinds := [], alts := [], laidByText := true, laidKinds := [.data], laidTests := true, laidLooks := .later }
def PteOneUptoCardSaid : Prop := Claim7.holds Tryd.pinned (.plain (OpenSpec.upto pteOneSpec)) pteOneUptoCard

/-- THE SECOND FORM's CARD OF 'atlaslaw06.PteMade'. -/
def pteMadeUptoCard : Claim7 := { stood := { row := pteMadeUptoRow, standIns := [], harness := (true, "543c528c07e9479ac85f1ead113c6ca184b6ae2b6cf0cb88999ae7e3cd855aec"), looks := false }, kinds := [], alts := [], laidByText := true, laidKinds := [.data], laidTests := true, laidLooks := .later }
def PteMadeUptoCardSaid : Prop := Claim7.holds Tryd.pinned (.plain (OpenSpec.upto pteMadeSpec)) pteMadeUptoCard
end Rows
end Go.Proofs.YtdifjgppnfcnnaaDoor
