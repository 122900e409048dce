/-
  DERIVED. GIVEN WITH THE SEED: THE CARDS: each row of YtheanmadognhbaaGreatDoorRows.lean that lists a variable, with what it lists TIED to the program's text (the seventh form; the later family's looks); each row that meets fmt, with fmt's text TOLD by the authors' own Lean function (tested against real Go, not proved from fmt's source: count such statements apart). THE CARD IS WHAT COUNTS. Prove the row's statement (the work); the ties are given (YtheanmadognhbaaGreatDoorTie.lean); close each card by the builder's one call (the guide's Derived/Test/ToyasCard.lean, 'card_holds'). Laid BY PROGRAM, IN A SANDBOX (cutbox-door.mjs). By AI agents, Wed Nov 11 2026. No macro, syntax, notation, axiom, sorry.
-/
import Derived.Test.YtheanmadognhbaaGreatDoorRows
import GoSem.ClaimSeven
namespace Go.Proofs.YtheanmadognhbaaGreatDoor
namespace Rows

/-- THE TIED CARD OF 'palimpsestlaw11.CodeCompiles'. -/
def codeCompilesCard : Claim7 := { stood := { row := codeCompilesRow, standIns := [], harness := (true, "15efa5c0b783041a866d390ad58605ebe9e7bd5fb484820fb9a3bda929985d92"), looks := true }, kinds := [], alts := [], laidByText := true, laidKinds := [.data, .data, .data], laidTests := true, laidLooks := .later }
def CodeCompilesCardSaid : Prop := Claim7.holds Tryz.pinned (.plain (OpenSpec.ofChange codeCompilesSpec)) codeCompilesCard

/-- THE TIED CARD OF 'palimpsestlaw11.CodeTexts'. -/
def codeTextsCard : Claim7 := { stood := { row := codeTextsRow, standIns := [], harness := (true, "15efa5c0b783041a866d390ad58605ebe9e7bd5fb484820fb9a3bda929985d92"), looks := true }, kinds := [], alts := [], laidByText := true, laidKinds := [.data, .data, .data], laidTests := true, laidLooks := .later }
def CodeTextsCardSaid : Prop := Claim7.holds Tryz.pinned (.plain (OpenSpec.ofChange codeTextsSpec)) codeTextsCard

/-- THE TIED CARD OF 'palimpsestlaw11.CodeFolds'. -/
def codeFoldsCard : Claim7 := { stood := { row := codeFoldsRow, standIns := [], harness := (true, "15efa5c0b783041a866d390ad58605ebe9e7bd5fb484820fb9a3bda929985d92"), looks := true }, kinds := [], alts := [], laidByText := true, laidKinds := [.data, .data, .data], laidTests := true, laidLooks := .later }
def CodeFoldsCardSaid : Prop := Claim7.holds Tryz.pinned (.plain (OpenSpec.ofChange codeFoldsSpec)) codeFoldsCard

/-- THE TIED CARD OF 'palimpsestlaw11.CodeNames'. -/
def codeNamesCard : Claim7 := { stood := { row := codeNamesRow, standIns := [], harness := (true, "15efa5c0b783041a866d390ad58605ebe9e7bd5fb484820fb9a3bda929985d92"), looks := true }, kinds := [], alts := [], laidByText := true, laidKinds := [.data, .data, .data], laidTests := true, laidLooks := .later }
def CodeNamesCardSaid : Prop := Claim7.holds Tryz.pinned (.plain (OpenSpec.ofChange codeNamesSpec)) codeNamesCard

/-- THE TIED CARD OF 'palimpsestlaw11.CodeShape'. -/
def codeShapeCard : Claim7 := { stood := { row := codeShapeRow, standIns := [], harness := (true, "15efa5c0b783041a866d390ad58605ebe9e7bd5fb484820fb9a3bda929985d92"), looks := true }, kinds := [], alts := [], laidByText := true, laidKinds := [.data, .data, .data], laidTests := true, laidLooks := .later }
def CodeShapeCardSaid : Prop := Claim7.holds Tryz.pinned (.plain (OpenSpec.ofChange codeShapeSpec)) codeShapeCard

/-- THE TIED CARD OF 'palimpsestlaw11.CodeLocals'. -/
def codeLocalsCard : Claim7 := { stood := { row := codeLocalsRow, standIns := [], harness := (true, "15efa5c0b783041a866d390ad58605ebe9e7bd5fb484820fb9a3bda929985d92"), looks := true }, kinds := [], alts := [], laidByText := true, laidKinds := [.data, .data, .data], laidTests := true, laidLooks := .later }
def CodeLocalsCardSaid : Prop := Claim7.holds Tryz.pinned (.plain (OpenSpec.ofChange codeLocalsSpec)) codeLocalsCard

/-- THE SECOND FORM's CARD OF 'palimpsestlaw11.CodeCompiles'. -/
def codeCompilesUptoCard : Claim7 := { stood := { row := codeCompilesUptoRow, standIns := [], harness := (true, "15efa5c0b783041a866d390ad58605ebe9e7bd5fb484820fb9a3bda929985d92"), looks := true }, kinds := [], alts := [], laidByText := true, laidKinds := [.data, .data, .data], laidTests := true, laidLooks := .later }
def CodeCompilesUptoCardSaid : Prop := Claim7.holds Tryz.pinned (.plain (OpenSpec.upto codeCompilesSpec)) codeCompilesUptoCard

/-- THE SECOND FORM's CARD OF 'palimpsestlaw11.CodeTexts'. -/
def codeTextsUptoCard : Claim7 := { stood := { row := codeTextsUptoRow, standIns := [], harness := (true, "15efa5c0b783041a866d390ad58605ebe9e7bd5fb484820fb9a3bda929985d92"), looks := true }, kinds := [], alts := [], laidByText := true, laidKinds := [.data, .data, .data], laidTests := true, laidLooks := .later }
def CodeTextsUptoCardSaid : Prop := Claim7.holds Tryz.pinned (.plain (OpenSpec.upto codeTextsSpec)) codeTextsUptoCard

/-- THE SECOND FORM's CARD OF 'palimpsestlaw11.CodeFolds'. -/
def codeFoldsUptoCard : Claim7 := { stood := { row := codeFoldsUptoRow, standIns := [], harness := (true, "15efa5c0b783041a866d390ad58605ebe9e7bd5fb484820fb9a3bda929985d92"), looks := true }, kinds := [], alts := [], laidByText := true, laidKinds := [.data, .data, .data], laidTests := true, laidLooks := .later }
def CodeFoldsUptoCardSaid : Prop := Claim7.holds Tryz.pinned (.plain (OpenSpec.upto codeFoldsSpec)) codeFoldsUptoCard

/-- THE SECOND FORM's CARD OF 'palimpsestlaw11.CodeNames'. -/
def codeNamesUptoCard : Claim7 := { stood := { row := codeNamesUptoRow, standIns := [], harness := (true, "15efa5c0b783041a866d390ad58605ebe9e7bd5fb484820fb9a3bda929985d92"), looks := true }, kinds := [], alts := [], laidByText := true, laidKinds := [.data, .data, .data], laidTests := true, laidLooks := .later }
def CodeNamesUptoCardSaid : Prop := Claim7.holds Tryz.pinned (.plain (OpenSpec.upto codeNamesSpec)) codeNamesUptoCard

/-- THE SECOND FORM's CARD OF 'palimpsestlaw11.CodeShape'. -/
def codeShapeUptoCard : Claim7 := { stood := { row := codeShapeUptoRow, standIns := [], harness := (true, "15efa5c0b783041a866d390ad58605ebe9e7bd5fb484820fb9a3bda929985d92"), looks := true }, kinds := [], alts := [], laidByText := true, laidKinds := [.data, .data, .data], laidTests := true, laidLooks := .later }
def CodeShapeUptoCardSaid : Prop := Claim7.holds Tryz.pinned (.plain (OpenSpec.upto codeShapeSpec)) codeShapeUptoCard

/-- THE SECOND FORM's CARD OF 'palimpsestlaw11.CodeLocals'. -/
def codeLocalsUptoCard : Claim7 := { stood := { row := codeLocalsUptoRow, standIns := [], harness := (true, "15efa5c0b783041a866d390ad58605ebe9e7bd5fb484820fb9a3bda929985d92"), looks := true }, kinds := [], alts := [], laidByText := true, laidKinds := [.data, .data, .data], laidTests := true, laidLooks := .later }
def CodeLocalsUptoCardSaid : Prop := Claim7.holds Tryz.pinned (.plain (OpenSpec.upto codeLocalsSpec)) codeLocalsUptoCard
end Rows
end Go.Proofs.YtheanmadognhbaaGreatDoor
