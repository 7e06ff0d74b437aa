/-
  DERIVED. GIVEN WITH THE SEED: THE CARDS: each row of YtkkkblghihheeaaDoorRows.lean that lists a variable, with what it lists TIED to the program's text (the seventh form; the later family's looks); each row that meets fmt, with fmt's text TOLD by the authors' own Lean function (tested against real Go, not proved from fmt's source: count such statements apart). THE CARD IS WHAT COUNTS. Prove the row's statement (the work); the ties are given (YtkkkblghihheeaaDoorTie.lean); close each card by the builder's one call (the guide's Derived/Test/ToyasCard.lean, 'card_holds'). Laid BY PROGRAM, IN A SANDBOX (cutbox-door.mjs). By AI agents, Wed Nov 11 2026. No macro, syntax, notation, axiom, sorry.
-/
import Derived.Test.YtkkkblghihheeaaDoorRows
import GoSem.ClaimSeven
namespace Go.Proofs.YtkkkblghihheeaaDoor
namespace Rows

/-- THE TIED CARD OF 'retortlaw04.TermShapes'. -/
def termShapesCard : Claim7 := { stood := { row := termShapesRow, standIns := [], harness := (true, "ec0ca026033b167495f0424525a5a6c3c690a1212323d59594c5aa1e2756d5d4"), looks := true }, kinds := [], alts := [], laidByText := true, laidKinds := [.data], laidTests := true, laidLooks := .later }
def TermShapesCardSaid : Prop := Claim7.holds Tryd.pinned (.plain (OpenSpec.ofChange termShapesSpec)) termShapesCard

/-- THE TIED CARD OF 'retortlaw04.TermLifts'. -/
def termLiftsCard : Claim7 := { stood := { row := termLiftsRow, standIns := [], harness := (true, "ec0ca026033b167495f0424525a5a6c3c690a1212323d59594c5aa1e2756d5d4"), looks := true }, kinds := [], alts := [], laidByText := true, laidKinds := [.data], laidTests := true, laidLooks := .later }
def TermLiftsCardSaid : Prop := Claim7.holds Tryd.pinned (.plain (OpenSpec.ofChange termLiftsSpec)) termLiftsCard

/-- THE TIED CARD OF 'retortlaw04.TermSubsts'. -/
def termSubstsCard : Claim7 := { stood := { row := termSubstsRow, standIns := [], harness := (true, "ec0ca026033b167495f0424525a5a6c3c690a1212323d59594c5aa1e2756d5d4"), looks := true }, kinds := [], alts := [], laidByText := true, laidKinds := [.data], laidTests := true, laidLooks := .later }
def TermSubstsCardSaid : Prop := Claim7.holds Tryd.pinned (.plain (OpenSpec.ofChange termSubstsSpec)) termSubstsCard

/-- THE TIED CARD OF 'retortlaw04.TermSpines'. -/
def termSpinesCard : Claim7 := { stood := { row := termSpinesRow, standIns := [], harness := (true, "ec0ca026033b167495f0424525a5a6c3c690a1212323d59594c5aa1e2756d5d4"), looks := true }, kinds := [], alts := [], laidByText := true, laidKinds := [.data], laidTests := true, laidLooks := .later }
def TermSpinesCardSaid : Prop := Claim7.holds Tryd.pinned (.plain (OpenSpec.ofChange termSpinesSpec)) termSpinesCard

/-- THE TIED CARD OF 'retortlaw04.TermLifted'. -/
def termLiftedCard : Claim7 := { stood := { row := termLiftedRow, standIns := [], harness := (true, "ec0ca026033b167495f0424525a5a6c3c690a1212323d59594c5aa1e2756d5d4"), looks := true }, kinds := [], alts := [], laidByText := true, laidKinds := [.data], laidTests := true, laidLooks := .later }
def TermLiftedCardSaid : Prop := Claim7.holds Tryd.pinned (.plain (OpenSpec.ofChange termLiftedSpec)) termLiftedCard

/-- THE TIED CARD OF 'retortlaw04.TermUndone'. -/
def termUndoneCard : Claim7 := { stood := { row := termUndoneRow, standIns := [], harness := (true, "ec0ca026033b167495f0424525a5a6c3c690a1212323d59594c5aa1e2756d5d4"), looks := true }, kinds := [], alts := [], laidByText := true, laidKinds := [.data], laidTests := true, laidLooks := .later }
def TermUndoneCardSaid : Prop := Claim7.holds Tryd.pinned (.plain (OpenSpec.ofChange termUndoneSpec)) termUndoneCard

/-- THE TIED CARD OF 'retortlaw04.TermSwaps'. -/
def termSwapsCard : Claim7 := { stood := { row := termSwapsRow, standIns := [], harness := (true, "ec0ca026033b167495f0424525a5a6c3c690a1212323d59594c5aa1e2756d5d4"), looks := true }, kinds := [], alts := [], laidByText := true, laidKinds := [.data], laidTests := true, laidLooks := .later }
def TermSwapsCardSaid : Prop := Claim7.holds Tryd.pinned (.plain (OpenSpec.ofChange termSwapsSpec)) termSwapsCard

/-- THE TIED CARD OF 'retortlaw04.TermFree'. -/
def termFreeCard : Claim7 := { stood := { row := termFreeRow, standIns := [], harness := (true, "ec0ca026033b167495f0424525a5a6c3c690a1212323d59594c5aa1e2756d5d4"), looks := true }, kinds := [], alts := [], laidByText := true, laidKinds := [.data], laidTests := true, laidLooks := .later }
def TermFreeCardSaid : Prop := Claim7.holds Tryd.pinned (.plain (OpenSpec.ofChange termFreeSpec)) termFreeCard

/-- THE TIED CARD OF 'retortlaw04.TermApart'. -/
def termApartCard : Claim7 := { stood := { row := termApartRow, standIns := [], harness := (true, "ec0ca026033b167495f0424525a5a6c3c690a1212323d59594c5aa1e2756d5d4"), looks := true }, kinds := [], alts := [], laidByText := true, laidKinds := [.data], laidTests := true, laidLooks := .later }
def TermApartCardSaid : Prop := Claim7.holds Tryd.pinned (.plain (OpenSpec.ofChange termApartSpec)) termApartCard

/-- THE TIED CARD OF 'retortlaw04.TermKeeps'. -/
def termKeepsCard : Claim7 := { stood := { row := termKeepsRow, standIns := [], harness := (true, "ec0ca026033b167495f0424525a5a6c3c690a1212323d59594c5aa1e2756d5d4"), looks := true }, kinds := [], alts := [], laidByText := true, laidKinds := [.data], laidTests := true, laidLooks := .later }
def TermKeepsCardSaid : Prop := Claim7.holds Tryd.pinned (.plain (OpenSpec.ofChange termKeepsSpec)) termKeepsCard

/-- THE SECOND FORM's CARD OF 'retortlaw04.TermShapes'. -/
def termShapesUptoCard : Claim7 := { stood := { row := termShapesUptoRow, standIns := [], harness := (true, "ec0ca026033b167495f0424525a5a6c3c690a1212323d59594c5aa1e2756d5d4"), looks := true }, kinds := [], alts := [], laidByText := true, laidKinds := [.data], laidTests := true, laidLooks := .later }
def TermShapesUptoCardSaid : Prop := Claim7.holds Tryd.pinned (.plain (OpenSpec.upto termShapesSpec)) termShapesUptoCard

/-- THE SECOND FORM's CARD OF 'retortlaw04.TermLifts'. -/
def termLiftsUptoCard : Claim7 := { stood := { row := termLiftsUptoRow, standIns := [], harness := (true, "ec0ca026033b167495f0424525a5a6c3c690a1212323d59594c5aa1e2756d5d4"), looks := true }, kinds := [], alts := [], laidByText := true, laidKinds := [.data], laidTests := true, laidLooks := .later }
def TermLiftsUptoCardSaid : Prop := Claim7.holds Tryd.pinned (.plain (OpenSpec.upto termLiftsSpec)) termLiftsUptoCard

/-- THE SECOND FORM's CARD OF 'retortlaw04.TermSubsts'. -/
def termSubstsUptoCard : Claim7 := { stood := { row := termSubstsUptoRow, standIns := [], harness := (true, "ec0ca026033b167495f0424525a5a6c3c690a1212323d59594c5aa1e2756d5d4"), looks := true }, kinds := [], alts := [], laidByText := true, laidKinds := [.data], laidTests := true, laidLooks := .later }
def TermSubstsUptoCardSaid : Prop := Claim7.holds Tryd.pinned (.plain (OpenSpec.upto termSubstsSpec)) termSubstsUptoCard

/-- THE SECOND FORM's CARD OF 'retortlaw04.TermSpines'. -/
def termSpinesUptoCard : Claim7 := { stood := { row := termSpinesUptoRow, standIns := [], harness := (true, "ec0ca026033b167495f0424525a5a6c3c690a1212323d59594c5aa1e2756d5d4"), looks := true }, kinds := [], alts := [], laidByText := true, laidKinds := [.data], laidTests := true, laidLooks := .later }
def TermSpinesUptoCardSaid : Prop := Claim7.holds Tryd.pinned (.plain (OpenSpec.upto termSpinesSpec)) termSpinesUptoCard

/-- THE SECOND FORM's CARD OF 'retortlaw04.TermLifted'. -/
def termLiftedUptoCard : Claim7 := { stood := { row := termLiftedUptoRow, standIns := [], harness := (true, "ec0ca026033b167495f0424525a5a6c3c690a1212323d59594c5aa1e2756d5d4"), looks := true }, kinds := [], alts := [], laidByText := true, laidKinds := [.data], laidTests := true, laidLooks := .later }
def TermLiftedUptoCardSaid : Prop := Claim7.holds Tryd.pinned (.plain (OpenSpec.upto termLiftedSpec)) termLiftedUptoCard

/-- THE SECOND FORM's CARD OF 'retortlaw04.TermUndone'. -/
def termUndoneUptoCard : Claim7 := { stood := { row := termUndoneUptoRow, standIns := [], harness := (true, "ec0ca026033b167495f0424525a5a6c3c690a1212323d59594c5aa1e2756d5d4"), looks := true }, kinds := [], alts := [], laidByText := true, laidKinds := [.data], laidTests := true, laidLooks := .later }
def TermUndoneUptoCardSaid : Prop := Claim7.holds Tryd.pinned (.plain (OpenSpec.upto termUndoneSpec)) termUndoneUptoCard

/-- THE SECOND FORM's CARD OF 'retortlaw04.TermSwaps'. -/
def termSwapsUptoCard : Claim7 := { stood := { row := termSwapsUptoRow, standIns := [], harness := (true, "ec0ca026033b167495f0424525a5a6c3c690a1212323d59594c5aa1e2756d5d4"), looks := true }, kinds := [], alts := [], laidByText := true, laidKinds := [.data], laidTests := true, laidLooks := .later }
def TermSwapsUptoCardSaid : Prop := Claim7.holds Tryd.pinned (.plain (OpenSpec.upto termSwapsSpec)) termSwapsUptoCard

/-- THE SECOND FORM's CARD OF 'retortlaw04.TermFree'. -/
def termFreeUptoCard : Claim7 := { stood := { row := termFreeUptoRow, standIns := [], harness := (true, "ec0ca026033b167495f0424525a5a6c3c690a1212323d59594c5aa1e2756d5d4"), looks := true }, kinds := [], alts := [], laidByText := true, laidKinds := [.data], laidTests := true, laidLooks := .later }
def TermFreeUptoCardSaid : Prop := Claim7.holds Tryd.pinned (.plain (OpenSpec.upto termFreeSpec)) termFreeUptoCard

/-- THE SECOND FORM's CARD OF 'retortlaw04.TermApart'. -/
def termApartUptoCard : Claim7 := { stood := { row := termApartUptoRow, standIns := [], harness := (true, "ec0ca026033b167495f0424525a5a6c3c690a1212323d59594c5aa1e2756d5d4"), looks := true }, kinds := [], alts := [], laidByText := true, laidKinds := [.data], laidTests := true, laidLooks := .later }
def TermApartUptoCardSaid : Prop := Claim7.holds Tryd.pinned (.plain (OpenSpec.upto termApartSpec)) termApartUptoCard

/-- THE SECOND FORM's CARD OF 'retortlaw04.TermKeeps'. -/
def termKeepsUptoCard : Claim7 := { stood := { row := termKeepsUptoRow, standIns := [], harness := (true, "ec0ca026033b167495f0424525a5a6c3c690a1212323d59594c5aa1e2756d5d4"), looks := true }, kinds := [], alts := [], laidByText := true, laidKinds := [.data], laidTests := true, laidLooks := .later }
def TermKeepsUptoCardSaid : Prop := Claim7.holds Tryd.pinned (.plain (OpenSpec.upto termKeepsSpec)) termKeepsUptoCard
end Rows
end Go.Proofs.YtkkkblghihheeaaDoor
