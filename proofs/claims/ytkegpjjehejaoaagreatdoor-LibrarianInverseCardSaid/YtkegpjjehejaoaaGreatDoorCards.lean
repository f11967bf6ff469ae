/-
  DERIVED. GIVEN WITH THE SEED: THE CARDS: each row of YtkegpjjehejaoaaGreatDoorRows.lean that lists a variable, with what it lists TIED to the program's text (the seventh form; the later family's looks); each row that meets fmt, with fmt's text TOLD by the authors' own Lean function (tested against real Go, not proved from fmt's source: count such statements apart). THE CARD IS WHAT COUNTS. Prove the row's statement (the work); the ties are given (YtkegpjjehejaoaaGreatDoorTie.lean); close each card by the builder's one call (the guide's Derived/Test/ToyasCard.lean, 'card_holds'). Laid BY PROGRAM, IN A SANDBOX (cutbox-door.mjs). By AI agents, Wed Nov 11 2026. No macro, syntax, notation, axiom, sorry.
-/
import Derived.Test.YtkegpjjehejaoaaGreatDoorRows
import GoSem.ClaimSeven
namespace Go.Proofs.YtkegpjjehejaoaaGreatDoor
namespace Rows

/-- THE TIED CARD OF 'arlinklaw11.LibrarianMatchesReference'. -/
def librarianMatchesReferenceCard : Claim7 := { stood := { row := librarianMatchesReferenceRow, standIns := [], harness := (true, "a575e95e5292005b71f6ad91764fb304f4f97aa941d521efbf6264f610dc7e6e"), looks := true }, kinds := [], alts := [], laidByText := true, laidKinds := [.data, .data, .data, .data, .pinned], laidTests := true, laidLooks := .later }
def LibrarianMatchesReferenceCardSaid : Prop := Claim7.holds Tryz.pinned (.plain (OpenSpec.ofChange librarianMatchesReferenceSpec)) librarianMatchesReferenceCard

/-- THE TIED CARD OF 'arlinklaw11.LibrarianModel'. -/
def librarianModelCard : Claim7 := { stood := { row := librarianModelRow, standIns := [], harness := (true, "a575e95e5292005b71f6ad91764fb304f4f97aa941d521efbf6264f610dc7e6e"), looks := true }, kinds := [], alts := [], laidByText := true, laidKinds := [.data, .data, .data, .data, .pinned], laidTests := true, laidLooks := .later }
def LibrarianModelCardSaid : Prop := Claim7.holds Tryz.pinned (.plain (OpenSpec.ofChange librarianModelSpec)) librarianModelCard

/-- THE TIED CARD OF 'arlinklaw11.LibrarianConsistent'. -/
def librarianConsistentCard : Claim7 := { stood := { row := librarianConsistentRow, standIns := [], harness := (true, "a575e95e5292005b71f6ad91764fb304f4f97aa941d521efbf6264f610dc7e6e"), looks := true }, kinds := [], alts := [], laidByText := true, laidKinds := [.data, .data, .data, .data, .pinned], laidTests := true, laidLooks := .later }
def LibrarianConsistentCardSaid : Prop := Claim7.holds Tryz.pinned (.plain (OpenSpec.ofChange librarianConsistentSpec)) librarianConsistentCard

/-- THE TIED CARD OF 'arlinklaw11.LibrarianScripts'. -/
def librarianScriptsCard : Claim7 := { stood := { row := librarianScriptsRow, standIns := [], harness := (true, "a575e95e5292005b71f6ad91764fb304f4f97aa941d521efbf6264f610dc7e6e"), looks := true }, kinds := [], alts := [], laidByText := true, laidKinds := [.data, .data, .data, .data, .pinned], laidTests := true, laidLooks := .later }
def LibrarianScriptsCardSaid : Prop := Claim7.holds Tryz.pinned (.plain (OpenSpec.ofChange librarianScriptsSpec)) librarianScriptsCard

/-- THE TIED CARD OF 'arlinklaw11.LibrarianKeeps'. -/
def librarianKeepsCard : Claim7 := { stood := { row := librarianKeepsRow, standIns := [], harness := (true, "a575e95e5292005b71f6ad91764fb304f4f97aa941d521efbf6264f610dc7e6e"), looks := true }, kinds := [], alts := [], laidByText := true, laidKinds := [.data, .data, .data, .data, .pinned], laidTests := true, laidLooks := .later }
def LibrarianKeepsCardSaid : Prop := Claim7.holds Tryz.pinned (.plain (OpenSpec.ofChange librarianKeepsSpec)) librarianKeepsCard

/-- THE TIED CARD OF 'arlinklaw11.LibrarianInverse'. -/
def librarianInverseCard : Claim7 := { stood := { row := librarianInverseRow, standIns := [], harness := (true, "a575e95e5292005b71f6ad91764fb304f4f97aa941d521efbf6264f610dc7e6e"), looks := true }, kinds := [], alts := [], laidByText := true, laidKinds := [.data, .data, .data, .data, .pinned], laidTests := true, laidLooks := .later }
def LibrarianInverseCardSaid : Prop := Claim7.holds Tryz.pinned (.plain (OpenSpec.ofChange librarianInverseSpec)) librarianInverseCard

/-- THE SECOND FORM's CARD OF 'arlinklaw11.LibrarianMatchesReference'. -/
def librarianMatchesReferenceUptoCard : Claim7 := { stood := { row := librarianMatchesReferenceUptoRow, standIns := [], harness := (true, "a575e95e5292005b71f6ad91764fb304f4f97aa941d521efbf6264f610dc7e6e"), looks := true }, kinds := [], alts := [], laidByText := true, laidKinds := [.data, .data, .data, .data, .pinned], laidTests := true, laidLooks := .later }
def LibrarianMatchesReferenceUptoCardSaid : Prop := Claim7.holds Tryz.pinned (.plain (OpenSpec.upto librarianMatchesReferenceSpec)) librarianMatchesReferenceUptoCard

/-- THE SECOND FORM's CARD OF 'arlinklaw11.LibrarianModel'. -/
def librarianModelUptoCard : Claim7 := { stood := { row := librarianModelUptoRow, standIns := [], harness := (true, "a575e95e5292005b71f6ad91764fb304f4f97aa941d521efbf6264f610dc7e6e"), looks := true }, kinds := [], alts := [], laidByText := true, laidKinds := [.data, .data, .data, .data, .pinned], laidTests := true, laidLooks := .later }
def LibrarianModelUptoCardSaid : Prop := Claim7.holds Tryz.pinned (.plain (OpenSpec.upto librarianModelSpec)) librarianModelUptoCard

/-- THE SECOND FORM's CARD OF 'arlinklaw11.LibrarianConsistent'. -/
def librarianConsistentUptoCard : Claim7 := { stood := { row := librarianConsistentUptoRow, standIns := [], harness := (true, "a575e95e5292005b71f6ad91764fb304f4f97aa941d521efbf6264f610dc7e6e"), looks := true }, kinds := [], alts := [], laidByText := true, laidKinds := [.data, .data, .data, .data, .pinned], laidTests := true, laidLooks := .later }
def LibrarianConsistentUptoCardSaid : Prop := Claim7.holds Tryz.pinned (.plain (OpenSpec.upto librarianConsistentSpec)) librarianConsistentUptoCard

/-- THE SECOND FORM's CARD OF 'arlinklaw11.LibrarianScripts'. -/
def librarianScriptsUptoCard : Claim7 := { stood := { row := librarianScriptsUptoRow, standIns := [], harness := (true, "a575e95e5292005b71f6ad91764fb304f4f97aa941d521efbf6264f610dc7e6e"), looks := true }, kinds := [], alts := [], laidByText := true, laidKinds := [.data, .data, .data, .data, .pinned], laidTests := true, laidLooks := .later }
def LibrarianScriptsUptoCardSaid : Prop := Claim7.holds Tryz.pinned (.plain (OpenSpec.upto librarianScriptsSpec)) librarianScriptsUptoCard

/-- THE SECOND FORM's CARD OF 'arlinklaw11.LibrarianKeeps'. -/
def librarianKeepsUptoCard : Claim7 := { stood := { row := librarianKeepsUptoRow, standIns := [], harness := (true, "a575e95e5292005b71f6ad91764fb304f4f97aa941d521efbf6264f610dc7e6e"), looks := true }, kinds := [], alts := [], laidByText := true, laidKinds := [.data, .data, .data, .data, .pinned], laidTests := true, laidLooks := .later }
def LibrarianKeepsUptoCardSaid : Prop := Claim7.holds Tryz.pinned (.plain (OpenSpec.upto librarianKeepsSpec)) librarianKeepsUptoCard

/-- THE SECOND FORM's CARD OF 'arlinklaw11.LibrarianInverse'. -/
def librarianInverseUptoCard : Claim7 := { stood := { row := librarianInverseUptoRow, standIns := [], harness := (true, "a575e95e5292005b71f6ad91764fb304f4f97aa941d521efbf6264f610dc7e6e"), looks := true }, kinds := [], alts := [], laidByText := true, laidKinds := [.data, .data, .data, .data, .pinned], laidTests := true, laidLooks := .later }
def LibrarianInverseUptoCardSaid : Prop := Claim7.holds Tryz.pinned (.plain (OpenSpec.upto librarianInverseSpec)) librarianInverseUptoCard
end Rows
end Go.Proofs.YtkegpjjehejaoaaGreatDoor
