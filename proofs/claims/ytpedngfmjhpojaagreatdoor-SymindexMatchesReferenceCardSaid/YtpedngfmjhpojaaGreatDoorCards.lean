/-
  DERIVED. GIVEN WITH THE SEED: THE CARDS: each row of YtpedngfmjhpojaaGreatDoorRows.lean that lists a variable, with what it lists TIED to the program's text (the seventh form; the later family's looks); each row that meets fmt, with fmt's text TOLD by the authors' own Lean function (tested against real Go, not proved from fmt's source: count such statements apart). THE CARD IS WHAT COUNTS. Prove the row's statement (the work); the ties are given (YtpedngfmjhpojaaGreatDoorTie.lean); close each card by the builder's one call (the guide's Derived/Test/ToyasCard.lean, 'card_holds'). Laid BY PROGRAM, IN A SANDBOX (cutbox-door.mjs). By AI agents, Wed Nov 11 2026. No macro, syntax, notation, axiom, sorry.
-/
import Derived.Test.YtpedngfmjhpojaaGreatDoorRows
import GoSem.ClaimSeven
namespace Go.Proofs.YtpedngfmjhpojaaGreatDoor
namespace Rows

/-- THE TIED CARD OF 'arlinklaw08.SymindexMatchesReference'. -/
def symindexMatchesReferenceCard : Claim7 := { stood := { row := symindexMatchesReferenceRow, standIns := [], harness := (true, "ae1ecf1e86fc5b02924e1b3ccece8f708fc2caf9649942e1bcdfec833af225aa"), looks := true }, kinds := [], alts := [], laidByText := true, laidKinds := [.data, .data, .data], laidTests := true, laidLooks := .later }
def SymindexMatchesReferenceCardSaid : Prop := Claim7.holds Tryz.pinned (.plain (OpenSpec.ofChange symindexMatchesReferenceSpec)) symindexMatchesReferenceCard

/-- THE TIED CARD OF 'arlinklaw08.SymindexComplete'. -/
def symindexCompleteCard : Claim7 := { stood := { row := symindexCompleteRow, standIns := [], harness := (true, "ae1ecf1e86fc5b02924e1b3ccece8f708fc2caf9649942e1bcdfec833af225aa"), looks := true }, kinds := [], alts := [], laidByText := true, laidKinds := [.data, .data, .data, .data, .pinned], laidTests := true, laidLooks := .later }
def SymindexCompleteCardSaid : Prop := Claim7.holds Tryz.pinned (.plain (OpenSpec.ofChange symindexCompleteSpec)) symindexCompleteCard

/-- THE TIED CARD OF 'arlinklaw08.SymindexOffsets'. -/
def symindexOffsetsCard : Claim7 := { stood := { row := symindexOffsetsRow, standIns := [], harness := (true, "ae1ecf1e86fc5b02924e1b3ccece8f708fc2caf9649942e1bcdfec833af225aa"), looks := true }, kinds := [], alts := [], laidByText := true, laidKinds := [.data, .data, .data], laidTests := true, laidLooks := .later }
def SymindexOffsetsCardSaid : Prop := Claim7.holds Tryz.pinned (.plain (OpenSpec.ofChange symindexOffsetsSpec)) symindexOffsetsCard

/-- THE TIED CARD OF 'arlinklaw08.SymindexKeeps'. -/
def symindexKeepsCard : Claim7 := { stood := { row := symindexKeepsRow, standIns := [], harness := (true, "ae1ecf1e86fc5b02924e1b3ccece8f708fc2caf9649942e1bcdfec833af225aa"), looks := true }, kinds := [], alts := [], laidByText := true, laidKinds := [.data, .data, .data], laidTests := true, laidLooks := .later }
def SymindexKeepsCardSaid : Prop := Claim7.holds Tryz.pinned (.plain (OpenSpec.ofChange symindexKeepsSpec)) symindexKeepsCard

/-- THE SECOND FORM's CARD OF 'arlinklaw08.SymindexMatchesReference'. -/
def symindexMatchesReferenceUptoCard : Claim7 := { stood := { row := symindexMatchesReferenceUptoRow, standIns := [], harness := (true, "ae1ecf1e86fc5b02924e1b3ccece8f708fc2caf9649942e1bcdfec833af225aa"), looks := true }, kinds := [], alts := [], laidByText := true, laidKinds := [.data, .data, .data], laidTests := true, laidLooks := .later }
def SymindexMatchesReferenceUptoCardSaid : Prop := Claim7.holds Tryz.pinned (.plain (OpenSpec.upto symindexMatchesReferenceSpec)) symindexMatchesReferenceUptoCard

/-- THE SECOND FORM's CARD OF 'arlinklaw08.SymindexComplete'. -/
def symindexCompleteUptoCard : Claim7 := { stood := { row := symindexCompleteUptoRow, standIns := [], harness := (true, "ae1ecf1e86fc5b02924e1b3ccece8f708fc2caf9649942e1bcdfec833af225aa"), looks := true }, kinds := [], alts := [], laidByText := true, laidKinds := [.data, .data, .data, .data, .pinned], laidTests := true, laidLooks := .later }
def SymindexCompleteUptoCardSaid : Prop := Claim7.holds Tryz.pinned (.plain (OpenSpec.upto symindexCompleteSpec)) symindexCompleteUptoCard

/-- THE SECOND FORM's CARD OF 'arlinklaw08.SymindexOffsets'. -/
def symindexOffsetsUptoCard : Claim7 := { stood := { row := symindexOffsetsUptoRow, standIns := [], harness := (true, "ae1ecf1e86fc5b02924e1b3ccece8f708fc2caf9649942e1bcdfec833af225aa"), looks := true }, kinds := [], alts := [], laidByText := true, laidKinds := [.data, .data, .data], laidTests := true, laidLooks := .later }
def SymindexOffsetsUptoCardSaid : Prop := Claim7.holds Tryz.pinned (.plain (OpenSpec.upto symindexOffsetsSpec)) symindexOffsetsUptoCard

/-- THE SECOND FORM's CARD OF 'arlinklaw08.SymindexKeeps'. -/
def symindexKeepsUptoCard : Claim7 := { stood := { row := symindexKeepsUptoRow, standIns := [], harness := (true, "ae1ecf1e86fc5b02924e1b3ccece8f708fc2caf9649942e1bcdfec833af225aa"), looks := true }, kinds := [], alts := [], laidByText := true, laidKinds := [.data, .data, .data], laidTests := true, laidLooks := .later }
def SymindexKeepsUptoCardSaid : Prop := Claim7.holds Tryz.pinned (.plain (OpenSpec.upto symindexKeepsSpec)) symindexKeepsUptoCard
end Rows
end Go.Proofs.YtpedngfmjhpojaaGreatDoor
