/-
  DERIVED. GIVEN WITH THE SEED: THE CARDS: each row of YtfeodppdmbideaaGreatDoorRows.lean that lists a variable, with what it lists TIED to the program's text (the seventh form; the later family's looks); each row that meets fmt, with fmt's text TOLD by the authors' own Lean function (tested against real Go, not proved from fmt's source: count such statements apart). THE CARD IS WHAT COUNTS. Prove the row's statement (the work); the ties are given (YtfeodppdmbideaaGreatDoorTie.lean); close each card by the builder's one call (the guide's Derived/Test/ToyasCard.lean, 'card_holds'). Laid BY PROGRAM, IN A SANDBOX (cutbox-door.mjs). By AI agents, Wed Nov 11 2026. No macro, syntax, notation, axiom, sorry.
-/
import Derived.Test.YtfeodppdmbideaaGreatDoorRows
import GoSem.ClaimSeven
namespace Go.Proofs.YtfeodppdmbideaaGreatDoor
namespace Rows

/-- THE TIED CARD OF 'retortlaw05.BookRights'. -/
def bookRightsCard : Claim7 := { stood := { row := bookRightsRow, standIns := [], harness := (true, "5011603775440163f7db52a28c69c12df1769bf677a228250d8608861ac99d9a"), looks := true }, kinds := [], alts := [], laidByText := true, laidKinds := [.data], laidTests := true, laidLooks := .later }
def BookRightsCardSaid : Prop := Claim7.holds Tryz.pinned (.plain (OpenSpec.ofChange bookRightsSpec)) bookRightsCard

/-- THE TIED CARD OF 'retortlaw05.BookTypes'. -/
def bookTypesCard : Claim7 := { stood := { row := bookTypesRow, standIns := [], harness := (true, "5011603775440163f7db52a28c69c12df1769bf677a228250d8608861ac99d9a"), looks := true }, kinds := [], alts := [], laidByText := true, laidKinds := [.data], laidTests := true, laidLooks := .later }
def BookTypesCardSaid : Prop := Claim7.holds Tryz.pinned (.plain (OpenSpec.ofChange bookTypesSpec)) bookTypesCard

/-- THE TIED CARD OF 'retortlaw05.BookBranches'. -/
def bookBranchesCard : Claim7 := { stood := { row := bookBranchesRow, standIns := [], harness := (true, "5011603775440163f7db52a28c69c12df1769bf677a228250d8608861ac99d9a"), looks := true }, kinds := [], alts := [], laidByText := true, laidKinds := [.data], laidTests := true, laidLooks := .later }
def BookBranchesCardSaid : Prop := Claim7.holds Tryz.pinned (.plain (OpenSpec.ofChange bookBranchesSpec)) bookBranchesCard

/-- THE TIED CARD OF 'retortlaw05.BookCodes'. -/
def bookCodesCard : Claim7 := { stood := { row := bookCodesRow, standIns := [], harness := (true, "5011603775440163f7db52a28c69c12df1769bf677a228250d8608861ac99d9a"), looks := true }, kinds := [], alts := [], laidByText := true, laidKinds := [.data], laidTests := true, laidLooks := .later }
def BookCodesCardSaid : Prop := Claim7.holds Tryz.pinned (.plain (OpenSpec.ofChange bookCodesSpec)) bookCodesCard

/-- THE TIED CARD OF 'retortlaw05.BookBack'. -/
def bookBackCard : Claim7 := { stood := { row := bookBackRow, standIns := [], harness := (true, "5011603775440163f7db52a28c69c12df1769bf677a228250d8608861ac99d9a"), looks := true }, kinds := [], alts := [], laidByText := true, laidKinds := [.data], laidTests := true, laidLooks := .later }
def BookBackCardSaid : Prop := Claim7.holds Tryz.pinned (.plain (OpenSpec.ofChange bookBackSpec)) bookBackCard

/-- THE TIED CARD OF 'retortlaw05.BookOne'. -/
def bookOneCard : Claim7 := { stood := { row := bookOneRow, standIns := [], harness := (true, "5011603775440163f7db52a28c69c12df1769bf677a228250d8608861ac99d9a"), looks := true }, kinds := [], alts := [], laidByText := true, laidKinds := [.data], laidTests := true, laidLooks := .later }
def BookOneCardSaid : Prop := Claim7.holds Tryz.pinned (.plain (OpenSpec.ofChange bookOneSpec)) bookOneCard

/-- THE TIED CARD OF 'retortlaw05.BookScopes'. -/
def bookScopesCard : Claim7 := { stood := { row := bookScopesRow, standIns := [], harness := (true, "5011603775440163f7db52a28c69c12df1769bf677a228250d8608861ac99d9a"), looks := true }, kinds := [], alts := [], laidByText := true, laidKinds := [.data], laidTests := true, laidLooks := .later }
def BookScopesCardSaid : Prop := Claim7.holds Tryz.pinned (.plain (OpenSpec.ofChange bookScopesSpec)) bookScopesCard

/-- THE TIED CARD OF 'retortlaw05.BookKeeps'. -/
def bookKeepsCard : Claim7 := { stood := { row := bookKeepsRow, standIns := [], harness := (true, "5011603775440163f7db52a28c69c12df1769bf677a228250d8608861ac99d9a"), looks := true }, kinds := [], alts := [], laidByText := true, laidKinds := [.data], laidTests := true, laidLooks := .later }
def BookKeepsCardSaid : Prop := Claim7.holds Tryz.pinned (.plain (OpenSpec.ofChange bookKeepsSpec)) bookKeepsCard

/-- THE SECOND FORM's CARD OF 'retortlaw05.BookRights'. -/
def bookRightsUptoCard : Claim7 := { stood := { row := bookRightsUptoRow, standIns := [], harness := (true, "5011603775440163f7db52a28c69c12df1769bf677a228250d8608861ac99d9a"), looks := true }, kinds := [], alts := [], laidByText := true, laidKinds := [.data], laidTests := true, laidLooks := .later }
def BookRightsUptoCardSaid : Prop := Claim7.holds Tryz.pinned (.plain (OpenSpec.upto bookRightsSpec)) bookRightsUptoCard

/-- THE SECOND FORM's CARD OF 'retortlaw05.BookTypes'. -/
def bookTypesUptoCard : Claim7 := { stood := { row := bookTypesUptoRow, standIns := [], harness := (true, "5011603775440163f7db52a28c69c12df1769bf677a228250d8608861ac99d9a"), looks := true }, kinds := [], alts := [], laidByText := true, laidKinds := [.data], laidTests := true, laidLooks := .later }
def BookTypesUptoCardSaid : Prop := Claim7.holds Tryz.pinned (.plain (OpenSpec.upto bookTypesSpec)) bookTypesUptoCard

/-- THE SECOND FORM's CARD OF 'retortlaw05.BookBranches'. -/
def bookBranchesUptoCard : Claim7 := { stood := { row := bookBranchesUptoRow, standIns := [], harness := (true, "5011603775440163f7db52a28c69c12df1769bf677a228250d8608861ac99d9a"), looks := true }, kinds := [], alts := [], laidByText := true, laidKinds := [.data], laidTests := true, laidLooks := .later }
def BookBranchesUptoCardSaid : Prop := Claim7.holds Tryz.pinned (.plain (OpenSpec.upto bookBranchesSpec)) bookBranchesUptoCard

/-- THE SECOND FORM's CARD OF 'retortlaw05.BookCodes'. -/
def bookCodesUptoCard : Claim7 := { stood := { row := bookCodesUptoRow, standIns := [], harness := (true, "5011603775440163f7db52a28c69c12df1769bf677a228250d8608861ac99d9a"), looks := true }, kinds := [], alts := [], laidByText := true, laidKinds := [.data], laidTests := true, laidLooks := .later }
def BookCodesUptoCardSaid : Prop := Claim7.holds Tryz.pinned (.plain (OpenSpec.upto bookCodesSpec)) bookCodesUptoCard

/-- THE SECOND FORM's CARD OF 'retortlaw05.BookBack'. -/
def bookBackUptoCard : Claim7 := { stood := { row := bookBackUptoRow, standIns := [], harness := (true, "5011603775440163f7db52a28c69c12df1769bf677a228250d8608861ac99d9a"), looks := true }, kinds := [], alts := [], laidByText := true, laidKinds := [.data], laidTests := true, laidLooks := .later }
def BookBackUptoCardSaid : Prop := Claim7.holds Tryz.pinned (.plain (OpenSpec.upto bookBackSpec)) bookBackUptoCard

/-- THE SECOND FORM's CARD OF 'retortlaw05.BookOne'. -/
def bookOneUptoCard : Claim7 := { stood := { row := bookOneUptoRow, standIns := [], harness := (true, "5011603775440163f7db52a28c69c12df1769bf677a228250d8608861ac99d9a"), looks := true }, kinds := [], alts := [], laidByText := true, laidKinds := [.data], laidTests := true, laidLooks := .later }
def BookOneUptoCardSaid : Prop := Claim7.holds Tryz.pinned (.plain (OpenSpec.upto bookOneSpec)) bookOneUptoCard

/-- THE SECOND FORM's CARD OF 'retortlaw05.BookScopes'. -/
def bookScopesUptoCard : Claim7 := { stood := { row := bookScopesUptoRow, standIns := [], harness := (true, "5011603775440163f7db52a28c69c12df1769bf677a228250d8608861ac99d9a"), looks := true }, kinds := [], alts := [], laidByText := true, laidKinds := [.data], laidTests := true, laidLooks := .later }
def BookScopesUptoCardSaid : Prop := Claim7.holds Tryz.pinned (.plain (OpenSpec.upto bookScopesSpec)) bookScopesUptoCard

/-- THE SECOND FORM's CARD OF 'retortlaw05.BookKeeps'. -/
def bookKeepsUptoCard : Claim7 := { stood := { row := bookKeepsUptoRow, standIns := [], harness := (true, "5011603775440163f7db52a28c69c12df1769bf677a228250d8608861ac99d9a"), looks := true }, kinds := [], alts := [], laidByText := true, laidKinds := [.data], laidTests := true, laidLooks := .later }
def BookKeepsUptoCardSaid : Prop := Claim7.holds Tryz.pinned (.plain (OpenSpec.upto bookKeepsSpec)) bookKeepsUptoCard
end Rows
end Go.Proofs.YtfeodppdmbideaaGreatDoor
