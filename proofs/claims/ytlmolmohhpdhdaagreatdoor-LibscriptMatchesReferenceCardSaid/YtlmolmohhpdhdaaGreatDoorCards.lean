/-
  DERIVED. GIVEN WITH THE SEED: THE CARDS: each row of YtlmolmohhpdhdaaGreatDoorRows.lean that lists a variable, with what it lists TIED to the program's text (the seventh form; the later family's looks); each row that meets fmt, with fmt's text TOLD by the authors' own Lean function (tested against real Go, not proved from fmt's source: count such statements apart). THE CARD IS WHAT COUNTS. Prove the row's statement (the work); the ties are given (YtlmolmohhpdhdaaGreatDoorTie.lean); close each card by the builder's one call (the guide's Derived/Test/ToyasCard.lean, 'card_holds'). Laid BY PROGRAM, IN A SANDBOX (cutbox-door.mjs). By AI agents, Wed Nov 11 2026. No macro, syntax, notation, axiom, sorry.
-/
import Derived.Test.YtlmolmohhpdhdaaGreatDoorRows
import GoSem.ClaimSeven
namespace Go.Proofs.YtlmolmohhpdhdaaGreatDoor
namespace Rows

/-- THE TIED CARD OF 'arlinklaw12.LibscriptMatchesReference'. -/
def libscriptMatchesReferenceCard : Claim7 := { stood := { row := libscriptMatchesReferenceRow, standIns := [], harness := (true, "45f1601977d9532b7187b49a3733d7bca098a11cc0d59a2ca0b554a457666c02"), looks := true }, kinds := [], alts := [], laidByText := true, laidKinds := [.data, .data, .data, .data, .pinned], laidTests := true, laidLooks := .later }
def LibscriptMatchesReferenceCardSaid : Prop := Claim7.holds Tryz.pinned (.plain (OpenSpec.ofChange libscriptMatchesReferenceSpec)) libscriptMatchesReferenceCard

/-- THE TIED CARD OF 'arlinklaw12.LibscriptLines'. -/
def libscriptLinesCard : Claim7 := { stood := { row := libscriptLinesRow, standIns := [], harness := (true, "45f1601977d9532b7187b49a3733d7bca098a11cc0d59a2ca0b554a457666c02"), looks := true }, kinds := [], alts := [], laidByText := true, laidKinds := [.data, .data, .data, .data, .pinned], laidTests := true, laidLooks := .later }
def LibscriptLinesCardSaid : Prop := Claim7.holds Tryz.pinned (.plain (OpenSpec.ofChange libscriptLinesSpec)) libscriptLinesCard

/-- THE TIED CARD OF 'arlinklaw12.LibscriptErrors'. -/
def libscriptErrorsCard : Claim7 := { stood := { row := libscriptErrorsRow, standIns := [], harness := (true, "45f1601977d9532b7187b49a3733d7bca098a11cc0d59a2ca0b554a457666c02"), looks := true }, kinds := [], alts := [], laidByText := true, laidKinds := [.data, .data, .data, .data, .pinned], laidTests := true, laidLooks := .later }
def LibscriptErrorsCardSaid : Prop := Claim7.holds Tryz.pinned (.plain (OpenSpec.ofChange libscriptErrorsSpec)) libscriptErrorsCard

/-- THE TIED CARD OF 'arlinklaw12.LibscriptKeeps'. -/
def libscriptKeepsCard : Claim7 := { stood := { row := libscriptKeepsRow, standIns := [], harness := (true, "45f1601977d9532b7187b49a3733d7bca098a11cc0d59a2ca0b554a457666c02"), looks := true }, kinds := [], alts := [], laidByText := true, laidKinds := [.data, .data, .data, .data, .pinned], laidTests := true, laidLooks := .later }
def LibscriptKeepsCardSaid : Prop := Claim7.holds Tryz.pinned (.plain (OpenSpec.ofChange libscriptKeepsSpec)) libscriptKeepsCard

/-- THE TIED CARD OF 'arlinklaw12.LibscriptLists'. -/
def libscriptListsCard : Claim7 := { stood := { row := libscriptListsRow, standIns := [], harness := (true, "45f1601977d9532b7187b49a3733d7bca098a11cc0d59a2ca0b554a457666c02"), looks := true }, kinds := [], alts := [], laidByText := true, laidKinds := [.data, .data, .data, .data, .pinned], laidTests := true, laidLooks := .later }
def LibscriptListsCardSaid : Prop := Claim7.holds Tryz.pinned (.plain (OpenSpec.ofChange libscriptListsSpec)) libscriptListsCard

/-- THE SECOND FORM's CARD OF 'arlinklaw12.LibscriptMatchesReference'. -/
def libscriptMatchesReferenceUptoCard : Claim7 := { stood := { row := libscriptMatchesReferenceUptoRow, standIns := [], harness := (true, "45f1601977d9532b7187b49a3733d7bca098a11cc0d59a2ca0b554a457666c02"), looks := true }, kinds := [], alts := [], laidByText := true, laidKinds := [.data, .data, .data, .data, .pinned], laidTests := true, laidLooks := .later }
def LibscriptMatchesReferenceUptoCardSaid : Prop := Claim7.holds Tryz.pinned (.plain (OpenSpec.upto libscriptMatchesReferenceSpec)) libscriptMatchesReferenceUptoCard

/-- THE SECOND FORM's CARD OF 'arlinklaw12.LibscriptLines'. -/
def libscriptLinesUptoCard : Claim7 := { stood := { row := libscriptLinesUptoRow, standIns := [], harness := (true, "45f1601977d9532b7187b49a3733d7bca098a11cc0d59a2ca0b554a457666c02"), looks := true }, kinds := [], alts := [], laidByText := true, laidKinds := [.data, .data, .data, .data, .pinned], laidTests := true, laidLooks := .later }
def LibscriptLinesUptoCardSaid : Prop := Claim7.holds Tryz.pinned (.plain (OpenSpec.upto libscriptLinesSpec)) libscriptLinesUptoCard

/-- THE SECOND FORM's CARD OF 'arlinklaw12.LibscriptErrors'. -/
def libscriptErrorsUptoCard : Claim7 := { stood := { row := libscriptErrorsUptoRow, standIns := [], harness := (true, "45f1601977d9532b7187b49a3733d7bca098a11cc0d59a2ca0b554a457666c02"), looks := true }, kinds := [], alts := [], laidByText := true, laidKinds := [.data, .data, .data, .data, .pinned], laidTests := true, laidLooks := .later }
def LibscriptErrorsUptoCardSaid : Prop := Claim7.holds Tryz.pinned (.plain (OpenSpec.upto libscriptErrorsSpec)) libscriptErrorsUptoCard

/-- THE SECOND FORM's CARD OF 'arlinklaw12.LibscriptKeeps'. -/
def libscriptKeepsUptoCard : Claim7 := { stood := { row := libscriptKeepsUptoRow, standIns := [], harness := (true, "45f1601977d9532b7187b49a3733d7bca098a11cc0d59a2ca0b554a457666c02"), looks := true }, kinds := [], alts := [], laidByText := true, laidKinds := [.data, .data, .data, .data, .pinned], laidTests := true, laidLooks := .later }
def LibscriptKeepsUptoCardSaid : Prop := Claim7.holds Tryz.pinned (.plain (OpenSpec.upto libscriptKeepsSpec)) libscriptKeepsUptoCard

/-- THE SECOND FORM's CARD OF 'arlinklaw12.LibscriptLists'. -/
def libscriptListsUptoCard : Claim7 := { stood := { row := libscriptListsUptoRow, standIns := [], harness := (true, "45f1601977d9532b7187b49a3733d7bca098a11cc0d59a2ca0b554a457666c02"), looks := true }, kinds := [], alts := [], laidByText := true, laidKinds := [.data, .data, .data, .data, .pinned], laidTests := true, laidLooks := .later }
def LibscriptListsUptoCardSaid : Prop := Claim7.holds Tryz.pinned (.plain (OpenSpec.upto libscriptListsSpec)) libscriptListsUptoCard
end Rows
end Go.Proofs.YtlmolmohhpdhdaaGreatDoor
