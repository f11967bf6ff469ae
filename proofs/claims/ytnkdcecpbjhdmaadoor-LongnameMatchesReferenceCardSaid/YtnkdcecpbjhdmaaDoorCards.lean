/-
  DERIVED. GIVEN WITH THE SEED: THE CARDS: each row of YtnkdcecpbjhdmaaDoorRows.lean that lists a variable, with what it lists TIED to the program's text (the seventh form; the later family's looks); each row that meets fmt, with fmt's text TOLD by the authors' own Lean function (tested against real Go, not proved from fmt's source: count such statements apart). THE CARD IS WHAT COUNTS. Prove the row's statement (the work); the ties are given (YtnkdcecpbjhdmaaDoorTie.lean); close each card by the builder's one call (the guide's Derived/Test/ToyasCard.lean, 'card_holds'). Laid BY PROGRAM, IN A SANDBOX (cutbox-door.mjs). By AI agents, Wed Nov 11 2026. No macro, syntax, notation, axiom, sorry.
-/
import Derived.Test.YtnkdcecpbjhdmaaDoorRows
import GoSem.ClaimSeven
namespace Go.Proofs.YtnkdcecpbjhdmaaDoor
namespace Rows

/-- THE TIED CARD OF 'arlinklaw03.LongnameMatchesReference'. -/
def longnameMatchesReferenceCard : Claim7 := { stood := { row := longnameMatchesReferenceRow, standIns := [], harness := (true, "633020f8cc6583ae8bfd4f07bdf20992a0d614bdae9f021f4599b06dde0a5ae5"), looks := false }, kinds := [], alts := [], laidByText := true, laidKinds := [.data, .data, .data], laidTests := true, laidLooks := .later }
def LongnameMatchesReferenceCardSaid : Prop := Claim7.holds Tryd.pinned (.plain (OpenSpec.ofChange longnameMatchesReferenceSpec)) longnameMatchesReferenceCard

/-- THE TIED CARD OF 'arlinklaw03.LongnameRoundTrip'. -/
def longnameRoundTripCard : Claim7 := { stood := { row := longnameRoundTripRow, standIns := [], harness := (true, "633020f8cc6583ae8bfd4f07bdf20992a0d614bdae9f021f4599b06dde0a5ae5"), looks := false }, kinds := [], alts := [], laidByText := true, laidKinds := [.data, .data, .data], laidTests := true, laidLooks := .later }
def LongnameRoundTripCardSaid : Prop := Claim7.holds Tryd.pinned (.plain (OpenSpec.ofChange longnameRoundTripSpec)) longnameRoundTripCard

/-- THE TIED CARD OF 'arlinklaw03.LongnameTables'. -/
def longnameTablesCard : Claim7 := { stood := { row := longnameTablesRow, standIns := [], harness := (true, "633020f8cc6583ae8bfd4f07bdf20992a0d614bdae9f021f4599b06dde0a5ae5"), looks := false }, kinds := [], alts := [], laidByText := true, laidKinds := [.data, .data, .data], laidTests := true, laidLooks := .later }
def LongnameTablesCardSaid : Prop := Claim7.holds Tryd.pinned (.plain (OpenSpec.ofChange longnameTablesSpec)) longnameTablesCard

/-- THE TIED CARD OF 'arlinklaw03.LongnameOffsets'. -/
def longnameOffsetsCard : Claim7 := { stood := { row := longnameOffsetsRow, standIns := [], harness := (true, "633020f8cc6583ae8bfd4f07bdf20992a0d614bdae9f021f4599b06dde0a5ae5"), looks := false }, kinds := [], alts := [], laidByText := true, laidKinds := [.data, .data, .data], laidTests := true, laidLooks := .later }
def LongnameOffsetsCardSaid : Prop := Claim7.holds Tryd.pinned (.plain (OpenSpec.ofChange longnameOffsetsSpec)) longnameOffsetsCard

/-- THE TIED CARD OF 'arlinklaw03.LongnameKeeps'. -/
def longnameKeepsCard : Claim7 := { stood := { row := longnameKeepsRow, standIns := [], harness := (true, "633020f8cc6583ae8bfd4f07bdf20992a0d614bdae9f021f4599b06dde0a5ae5"), looks := false }, kinds := [], alts := [], laidByText := true, laidKinds := [.data, .data, .data], laidTests := true, laidLooks := .later }
def LongnameKeepsCardSaid : Prop := Claim7.holds Tryd.pinned (.plain (OpenSpec.ofChange longnameKeepsSpec)) longnameKeepsCard

/-- THE TIED CARD OF 'arlinklaw03.LongnameConcat'. -/
def longnameConcatCard : Claim7 := { stood := { row := longnameConcatRow, standIns := [], harness := (true, "633020f8cc6583ae8bfd4f07bdf20992a0d614bdae9f021f4599b06dde0a5ae5"), looks := false }, kinds := [], alts := [], laidByText := true, laidKinds := [.data, .data, .data], laidTests := true, laidLooks := .later }
def LongnameConcatCardSaid : Prop := Claim7.holds Tryd.pinned (.plain (OpenSpec.ofChange longnameConcatSpec)) longnameConcatCard

/-- THE SECOND FORM's CARD OF 'arlinklaw03.LongnameMatchesReference'. -/
def longnameMatchesReferenceUptoCard : Claim7 := { stood := { row := longnameMatchesReferenceUptoRow, standIns := [], harness := (true, "633020f8cc6583ae8bfd4f07bdf20992a0d614bdae9f021f4599b06dde0a5ae5"), looks := false }, kinds := [], alts := [], laidByText := true, laidKinds := [.data, .data, .data], laidTests := true, laidLooks := .later }
def LongnameMatchesReferenceUptoCardSaid : Prop := Claim7.holds Tryd.pinned (.plain (OpenSpec.upto longnameMatchesReferenceSpec)) longnameMatchesReferenceUptoCard

/-- THE SECOND FORM's CARD OF 'arlinklaw03.LongnameRoundTrip'. -/
def longnameRoundTripUptoCard : Claim7 := { stood := { row := longnameRoundTripUptoRow, standIns := [], harness := (true, "633020f8cc6583ae8bfd4f07bdf20992a0d614bdae9f021f4599b06dde0a5ae5"), looks := false }, kinds := [], alts := [], laidByText := true, laidKinds := [.data, .data, .data], laidTests := true, laidLooks := .later }
def LongnameRoundTripUptoCardSaid : Prop := Claim7.holds Tryd.pinned (.plain (OpenSpec.upto longnameRoundTripSpec)) longnameRoundTripUptoCard

/-- THE SECOND FORM's CARD OF 'arlinklaw03.LongnameTables'. -/
def longnameTablesUptoCard : Claim7 := { stood := { row := longnameTablesUptoRow, standIns := [], harness := (true, "633020f8cc6583ae8bfd4f07bdf20992a0d614bdae9f021f4599b06dde0a5ae5"), looks := false }, kinds := [], alts := [], laidByText := true, laidKinds := [.data, .data, .data], laidTests := true, laidLooks := .later }
def LongnameTablesUptoCardSaid : Prop := Claim7.holds Tryd.pinned (.plain (OpenSpec.upto longnameTablesSpec)) longnameTablesUptoCard

/-- THE SECOND FORM's CARD OF 'arlinklaw03.LongnameOffsets'. -/
def longnameOffsetsUptoCard : Claim7 := { stood := { row := longnameOffsetsUptoRow, standIns := [], harness := (true, "633020f8cc6583ae8bfd4f07bdf20992a0d614bdae9f021f4599b06dde0a5ae5"), looks := false }, kinds := [], alts := [], laidByText := true, laidKinds := [.data, .data, .data], laidTests := true, laidLooks := .later }
def LongnameOffsetsUptoCardSaid : Prop := Claim7.holds Tryd.pinned (.plain (OpenSpec.upto longnameOffsetsSpec)) longnameOffsetsUptoCard

/-- THE SECOND FORM's CARD OF 'arlinklaw03.LongnameKeeps'. -/
def longnameKeepsUptoCard : Claim7 := { stood := { row := longnameKeepsUptoRow, standIns := [], harness := (true, "633020f8cc6583ae8bfd4f07bdf20992a0d614bdae9f021f4599b06dde0a5ae5"), looks := false }, kinds := [], alts := [], laidByText := true, laidKinds := [.data, .data, .data], laidTests := true, laidLooks := .later }
def LongnameKeepsUptoCardSaid : Prop := Claim7.holds Tryd.pinned (.plain (OpenSpec.upto longnameKeepsSpec)) longnameKeepsUptoCard

/-- THE SECOND FORM's CARD OF 'arlinklaw03.LongnameConcat'. -/
def longnameConcatUptoCard : Claim7 := { stood := { row := longnameConcatUptoRow, standIns := [], harness := (true, "633020f8cc6583ae8bfd4f07bdf20992a0d614bdae9f021f4599b06dde0a5ae5"), looks := false }, kinds := [], alts := [], laidByText := true, laidKinds := [.data, .data, .data], laidTests := true, laidLooks := .later }
def LongnameConcatUptoCardSaid : Prop := Claim7.holds Tryd.pinned (.plain (OpenSpec.upto longnameConcatSpec)) longnameConcatUptoCard
end Rows
end Go.Proofs.YtnkdcecpbjhdmaaDoor
