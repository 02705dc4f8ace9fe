/-
  DERIVED. GIVEN WITH THE SEED: THE CARDS: each row of YticnfmfmgdfdeaaGreatDoorRows.lean that lists a variable, with what it lists TIED to the program's text (the seventh form; the later family's looks); each row that meets fmt, with fmt's text TOLD by the authors' own Lean function (tested against real Go, not proved from fmt's source: count such statements apart). THE CARD IS WHAT COUNTS. Prove the row's statement (the work); the ties are given (YticnfmfmgdfdeaaGreatDoorTie.lean); close each card by the builder's one call (the guide's Derived/Test/ToyasCard.lean, 'card_holds'). Laid BY PROGRAM, IN A SANDBOX (cutbox-door.mjs). By AI agents, Wed Nov 11 2026. No macro, syntax, notation, axiom, sorry.
-/
import Derived.Test.YticnfmfmgdfdeaaGreatDoorRows
import GoSem.ClaimSeven
namespace Go.Proofs.YticnfmfmgdfdeaaGreatDoor
namespace Rows

/-- THE TIED CARD OF 'rubricatorlaw15.JsonParses'. -/
def jsonParsesCard : Claim7 := { stood := { row := jsonParsesRow, standIns := [], harness := (true, "c840a48695be70ae2cebd3bb6e1bccfe5f4b796a9e8550c17756f4d8f7442c34"), looks := true }, kinds := [], alts := [], laidByText := true, laidKinds := [.data, .data, .data, .data, .sentinel, .sentinel, .pinned], laidTests := true, laidLooks := .later }
def JsonParsesCardSaid : Prop := Claim7.holds Tryz.pinned (.plain (OpenSpec.ofChange jsonParsesSpec)) jsonParsesCard

/-- THE TIED CARD OF 'rubricatorlaw15.JsonCompares'. -/
def jsonComparesCard : Claim7 := { stood := { row := jsonComparesRow, standIns := [], harness := (true, "c840a48695be70ae2cebd3bb6e1bccfe5f4b796a9e8550c17756f4d8f7442c34"), looks := true }, kinds := [], alts := [], laidByText := true, laidKinds := [.data, .data, .data, .data, .sentinel, .sentinel, .pinned], laidTests := true, laidLooks := .later }
def JsonComparesCardSaid : Prop := Claim7.holds Tryz.pinned (.plain (OpenSpec.ofChange jsonComparesSpec)) jsonComparesCard

/-- THE TIED CARD OF 'rubricatorlaw15.JsonBack'. -/
def jsonBackCard : Claim7 := { stood := { row := jsonBackRow, standIns := [], harness := (true, "c840a48695be70ae2cebd3bb6e1bccfe5f4b796a9e8550c17756f4d8f7442c34"), looks := true }, kinds := [], alts := [], laidByText := true, laidKinds := [.data, .data, .data, .data, .sentinel, .sentinel, .pinned], laidTests := true, laidLooks := .later }
def JsonBackCardSaid : Prop := Claim7.holds Tryz.pinned (.plain (OpenSpec.ofChange jsonBackSpec)) jsonBackCard

/-- THE TIED CARD OF 'rubricatorlaw15.JsonDeep'. -/
def jsonDeepCard : Claim7 := { stood := { row := jsonDeepRow, standIns := [], harness := (true, "c840a48695be70ae2cebd3bb6e1bccfe5f4b796a9e8550c17756f4d8f7442c34"), looks := true }, kinds := [], alts := [], laidByText := true, laidKinds := [.data, .data, .data, .data, .sentinel, .sentinel, .pinned], laidTests := true, laidLooks := .later }
def JsonDeepCardSaid : Prop := Claim7.holds Tryz.pinned (.plain (OpenSpec.ofChange jsonDeepSpec)) jsonDeepCard

/-- THE TIED CARD OF 'rubricatorlaw15.JsonBlanks'. -/
def jsonBlanksCard : Claim7 := { stood := { row := jsonBlanksRow, standIns := [], harness := (true, "c840a48695be70ae2cebd3bb6e1bccfe5f4b796a9e8550c17756f4d8f7442c34"), looks := true }, kinds := [], alts := [], laidByText := true, laidKinds := [.data, .data, .data, .data, .sentinel, .sentinel, .pinned], laidTests := true, laidLooks := .later }
def JsonBlanksCardSaid : Prop := Claim7.holds Tryz.pinned (.plain (OpenSpec.ofChange jsonBlanksSpec)) jsonBlanksCard

/-- THE TIED CARD OF 'rubricatorlaw15.JsonOrders'. -/
def jsonOrdersCard : Claim7 := { stood := { row := jsonOrdersRow, standIns := [], harness := (true, "c840a48695be70ae2cebd3bb6e1bccfe5f4b796a9e8550c17756f4d8f7442c34"), looks := true }, kinds := [], alts := [], laidByText := true, laidKinds := [.data, .data, .data, .data, .sentinel, .sentinel, .pinned], laidTests := true, laidLooks := .later }
def JsonOrdersCardSaid : Prop := Claim7.holds Tryz.pinned (.plain (OpenSpec.ofChange jsonOrdersSpec)) jsonOrdersCard

/-- THE TIED CARD OF 'rubricatorlaw16.BinPuts'. -/
def binPutsCard : Claim7 := { stood := { row := binPutsRow, standIns := [], harness := (true, "c840a48695be70ae2cebd3bb6e1bccfe5f4b796a9e8550c17756f4d8f7442c34"), looks := true }, kinds := [], alts := [], laidByText := true, laidKinds := [.data, .data, .data, .data, .sentinel, .sentinel, .pinned], laidTests := true, laidLooks := .later }
def BinPutsCardSaid : Prop := Claim7.holds Tryz.pinned (.plain (OpenSpec.ofChange binPutsSpec)) binPutsCard

/-- THE TIED CARD OF 'rubricatorlaw16.BinGets'. -/
def binGetsCard : Claim7 := { stood := { row := binGetsRow, standIns := [], harness := (true, "c840a48695be70ae2cebd3bb6e1bccfe5f4b796a9e8550c17756f4d8f7442c34"), looks := true }, kinds := [], alts := [], laidByText := true, laidKinds := [.data, .data, .data, .data, .sentinel, .sentinel, .pinned], laidTests := true, laidLooks := .later }
def BinGetsCardSaid : Prop := Claim7.holds Tryz.pinned (.plain (OpenSpec.ofChange binGetsSpec)) binGetsCard

/-- THE TIED CARD OF 'rubricatorlaw16.BinRight'. -/
def binRightCard : Claim7 := { stood := { row := binRightRow, standIns := [], harness := (true, "c840a48695be70ae2cebd3bb6e1bccfe5f4b796a9e8550c17756f4d8f7442c34"), looks := true }, kinds := [], alts := [], laidByText := true, laidKinds := [.data, .data, .data, .data, .sentinel, .sentinel, .pinned], laidTests := true, laidLooks := .later }
def BinRightCardSaid : Prop := Claim7.holds Tryz.pinned (.plain (OpenSpec.ofChange binRightSpec)) binRightCard

/-- THE TIED CARD OF 'rubricatorlaw16.BinCuts'. -/
def binCutsCard : Claim7 := { stood := { row := binCutsRow, standIns := [], harness := (true, "c840a48695be70ae2cebd3bb6e1bccfe5f4b796a9e8550c17756f4d8f7442c34"), looks := true }, kinds := [], alts := [], laidByText := true, laidKinds := [.data, .data, .data, .data, .sentinel, .sentinel, .pinned], laidTests := true, laidLooks := .later }
def BinCutsCardSaid : Prop := Claim7.holds Tryz.pinned (.plain (OpenSpec.ofChange binCutsSpec)) binCutsCard

/-- THE TIED CARD OF 'rubricatorlaw16.BinAlike'. -/
def binAlikeCard : Claim7 := { stood := { row := binAlikeRow, standIns := [], harness := (true, "c840a48695be70ae2cebd3bb6e1bccfe5f4b796a9e8550c17756f4d8f7442c34"), looks := true }, kinds := [], alts := [], laidByText := true, laidKinds := [.data, .data, .data, .data, .sentinel, .sentinel, .pinned], laidTests := true, laidLooks := .later }
def BinAlikeCardSaid : Prop := Claim7.holds Tryz.pinned (.plain (OpenSpec.ofChange binAlikeSpec)) binAlikeCard

/-- THE SECOND FORM's CARD OF 'rubricatorlaw15.JsonParses'. -/
def jsonParsesUptoCard : Claim7 := { stood := { row := jsonParsesUptoRow, standIns := [], harness := (true, "c840a48695be70ae2cebd3bb6e1bccfe5f4b796a9e8550c17756f4d8f7442c34"), looks := true }, kinds := [], alts := [], laidByText := true, laidKinds := [.data, .data, .data, .data, .sentinel, .sentinel, .pinned], laidTests := true, laidLooks := .later }
def JsonParsesUptoCardSaid : Prop := Claim7.holds Tryz.pinned (.plain (OpenSpec.upto jsonParsesSpec)) jsonParsesUptoCard

/-- THE SECOND FORM's CARD OF 'rubricatorlaw15.JsonCompares'. -/
def jsonComparesUptoCard : Claim7 := { stood := { row := jsonComparesUptoRow, standIns := [], harness := (true, "c840a48695be70ae2cebd3bb6e1bccfe5f4b796a9e8550c17756f4d8f7442c34"), looks := true }, kinds := [], alts := [], laidByText := true, laidKinds := [.data, .data, .data, .data, .sentinel, .sentinel, .pinned], laidTests := true, laidLooks := .later }
def JsonComparesUptoCardSaid : Prop := Claim7.holds Tryz.pinned (.plain (OpenSpec.upto jsonComparesSpec)) jsonComparesUptoCard

/-- THE SECOND FORM's CARD OF 'rubricatorlaw15.JsonBack'. -/
def jsonBackUptoCard : Claim7 := { stood := { row := jsonBackUptoRow, standIns := [], harness := (true, "c840a48695be70ae2cebd3bb6e1bccfe5f4b796a9e8550c17756f4d8f7442c34"), looks := true }, kinds := [], alts := [], laidByText := true, laidKinds := [.data, .data, .data, .data, .sentinel, .sentinel, .pinned], laidTests := true, laidLooks := .later }
def JsonBackUptoCardSaid : Prop := Claim7.holds Tryz.pinned (.plain (OpenSpec.upto jsonBackSpec)) jsonBackUptoCard

/-- THE SECOND FORM's CARD OF 'rubricatorlaw15.JsonDeep'. -/
def jsonDeepUptoCard : Claim7 := { stood := { row := jsonDeepUptoRow, standIns := [], harness := (true, "c840a48695be70ae2cebd3bb6e1bccfe5f4b796a9e8550c17756f4d8f7442c34"), looks := true }, kinds := [], alts := [], laidByText := true, laidKinds := [.data, .data, .data, .data, .sentinel, .sentinel, .pinned], laidTests := true, laidLooks := .later }
def JsonDeepUptoCardSaid : Prop := Claim7.holds Tryz.pinned (.plain (OpenSpec.upto jsonDeepSpec)) jsonDeepUptoCard

/-- THE SECOND FORM's CARD OF 'rubricatorlaw15.JsonBlanks'. -/
def jsonBlanksUptoCard : Claim7 := { stood := { row := jsonBlanksUptoRow, standIns := [], harness := (true, "c840a48695be70ae2cebd3bb6e1bccfe5f4b796a9e8550c17756f4d8f7442c34"), looks := true }, kinds := [], alts := [], laidByText := true, laidKinds := [.data, .data, .data, .data, .sentinel, .sentinel, .pinned], laidTests := true, laidLooks := .later }
def JsonBlanksUptoCardSaid : Prop := Claim7.holds Tryz.pinned (.plain (OpenSpec.upto jsonBlanksSpec)) jsonBlanksUptoCard

/-- THE SECOND FORM's CARD OF 'rubricatorlaw15.JsonOrders'. -/
def jsonOrdersUptoCard : Claim7 := { stood := { row := jsonOrdersUptoRow, standIns := [], harness := (true, "c840a48695be70ae2cebd3bb6e1bccfe5f4b796a9e8550c17756f4d8f7442c34"), looks := true }, kinds := [], alts := [], laidByText := true, laidKinds := [.data, .data, .data, .data, .sentinel, .sentinel, .pinned], laidTests := true, laidLooks := .later }
def JsonOrdersUptoCardSaid : Prop := Claim7.holds Tryz.pinned (.plain (OpenSpec.upto jsonOrdersSpec)) jsonOrdersUptoCard

/-- THE SECOND FORM's CARD OF 'rubricatorlaw16.BinPuts'. -/
def binPutsUptoCard : Claim7 := { stood := { row := binPutsUptoRow, standIns := [], harness := (true, "c840a48695be70ae2cebd3bb6e1bccfe5f4b796a9e8550c17756f4d8f7442c34"), looks := true }, kinds := [], alts := [], laidByText := true, laidKinds := [.data, .data, .data, .data, .sentinel, .sentinel, .pinned], laidTests := true, laidLooks := .later }
def BinPutsUptoCardSaid : Prop := Claim7.holds Tryz.pinned (.plain (OpenSpec.upto binPutsSpec)) binPutsUptoCard

/-- THE SECOND FORM's CARD OF 'rubricatorlaw16.BinGets'. -/
def binGetsUptoCard : Claim7 := { stood := { row := binGetsUptoRow, standIns := [], harness := (true, "c840a48695be70ae2cebd3bb6e1bccfe5f4b796a9e8550c17756f4d8f7442c34"), looks := true }, kinds := [], alts := [], laidByText := true, laidKinds := [.data, .data, .data, .data, .sentinel, .sentinel, .pinned], laidTests := true, laidLooks := .later }
def BinGetsUptoCardSaid : Prop := Claim7.holds Tryz.pinned (.plain (OpenSpec.upto binGetsSpec)) binGetsUptoCard

/-- THE SECOND FORM's CARD OF 'rubricatorlaw16.BinRight'. -/
def binRightUptoCard : Claim7 := { stood := { row := binRightUptoRow, standIns := [], harness := (true, "c840a48695be70ae2cebd3bb6e1bccfe5f4b796a9e8550c17756f4d8f7442c34"), looks := true }, kinds := [], alts := [], laidByText := true, laidKinds := [.data, .data, .data, .data, .sentinel, .sentinel, .pinned], laidTests := true, laidLooks := .later }
def BinRightUptoCardSaid : Prop := Claim7.holds Tryz.pinned (.plain (OpenSpec.upto binRightSpec)) binRightUptoCard

/-- THE SECOND FORM's CARD OF 'rubricatorlaw16.BinCuts'. -/
def binCutsUptoCard : Claim7 := { stood := { row := binCutsUptoRow, standIns := [], harness := (true, "c840a48695be70ae2cebd3bb6e1bccfe5f4b796a9e8550c17756f4d8f7442c34"), looks := true }, kinds := [], alts := [], laidByText := true, laidKinds := [.data, .data, .data, .data, .sentinel, .sentinel, .pinned], laidTests := true, laidLooks := .later }
def BinCutsUptoCardSaid : Prop := Claim7.holds Tryz.pinned (.plain (OpenSpec.upto binCutsSpec)) binCutsUptoCard

/-- THE SECOND FORM's CARD OF 'rubricatorlaw16.BinAlike'. -/
def binAlikeUptoCard : Claim7 := { stood := { row := binAlikeUptoRow, standIns := [], harness := (true, "c840a48695be70ae2cebd3bb6e1bccfe5f4b796a9e8550c17756f4d8f7442c34"), looks := true }, kinds := [], alts := [], laidByText := true, laidKinds := [.data, .data, .data, .data, .sentinel, .sentinel, .pinned], laidTests := true, laidLooks := .later }
def BinAlikeUptoCardSaid : Prop := Claim7.holds Tryz.pinned (.plain (OpenSpec.upto binAlikeSpec)) binAlikeUptoCard
end Rows
end Go.Proofs.YticnfmfmgdfdeaaGreatDoor
