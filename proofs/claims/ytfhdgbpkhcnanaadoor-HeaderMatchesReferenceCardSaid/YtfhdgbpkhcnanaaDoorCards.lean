/-
  DERIVED. GIVEN WITH THE SEED: THE CARDS: each row of YtfhdgbpkhcnanaaDoorRows.lean that lists a variable, with what it lists TIED to the program's text (the seventh form; the later family's looks); each row that meets fmt, with fmt's text TOLD by the authors' own Lean function (tested against real Go, not proved from fmt's source: count such statements apart). THE CARD IS WHAT COUNTS. Prove the row's statement (the work); the ties are given (YtfhdgbpkhcnanaaDoorTie.lean); close each card by the builder's one call (the guide's Derived/Test/ToyasCard.lean, 'card_holds'). Laid BY PROGRAM, IN A SANDBOX (cutbox-door.mjs). By AI agents, Wed Nov 11 2026. No macro, syntax, notation, axiom, sorry.
-/
import Derived.Test.YtfhdgbpkhcnanaaDoorRows
import GoSem.ClaimSeven
namespace Go.Proofs.YtfhdgbpkhcnanaaDoor
namespace Rows

/-- THE TIED CARD OF 'arlinklaw02.HeaderMatchesReference'. -/
def headerMatchesReferenceCard : Claim7 := { stood := { row := headerMatchesReferenceRow, standIns := [], harness := (true, "d5bb88d666a0ddbc7d8d42f7e1c20e6606744885cb37ad28ad43a1740443c5c0"), looks := false }, kinds := [], alts := [], laidByText := true, laidKinds := [.data, .pinned], laidTests := true, laidLooks := .later }
def HeaderMatchesReferenceCardSaid : Prop := Claim7.holds Tryd.pinned (.plain (OpenSpec.ofChange headerMatchesReferenceSpec)) headerMatchesReferenceCard

/-- THE TIED CARD OF 'arlinklaw02.HeaderRoundTrip'. -/
def headerRoundTripCard : Claim7 := { stood := { row := headerRoundTripRow, standIns := [], harness := (true, "d5bb88d666a0ddbc7d8d42f7e1c20e6606744885cb37ad28ad43a1740443c5c0"), looks := false }, kinds := [], alts := [], laidByText := true, laidKinds := [.data, .pinned], laidTests := true, laidLooks := .later }
def HeaderRoundTripCardSaid : Prop := Claim7.holds Tryd.pinned (.plain (OpenSpec.ofChange headerRoundTripSpec)) headerRoundTripCard

/-- THE TIED CARD OF 'arlinklaw02.HeaderUnique'. -/
def headerUniqueCard : Claim7 := { stood := { row := headerUniqueRow, standIns := [], harness := (true, "d5bb88d666a0ddbc7d8d42f7e1c20e6606744885cb37ad28ad43a1740443c5c0"), looks := false }, kinds := [], alts := [], laidByText := true, laidKinds := [.data, .pinned], laidTests := true, laidLooks := .later }
def HeaderUniqueCardSaid : Prop := Claim7.holds Tryd.pinned (.plain (OpenSpec.ofChange headerUniqueSpec)) headerUniqueCard

/-- THE TIED CARD OF 'arlinklaw02.HeaderBounds'. -/
def headerBoundsCard : Claim7 := { stood := { row := headerBoundsRow, standIns := [], harness := (true, "d5bb88d666a0ddbc7d8d42f7e1c20e6606744885cb37ad28ad43a1740443c5c0"), looks := false }, kinds := [], alts := [], laidByText := true, laidKinds := [.data, .pinned], laidTests := true, laidLooks := .later }
def HeaderBoundsCardSaid : Prop := Claim7.holds Tryd.pinned (.plain (OpenSpec.ofChange headerBoundsSpec)) headerBoundsCard

/-- THE TIED CARD OF 'arlinklaw02.HeaderKeeps'. -/
def headerKeepsCard : Claim7 := { stood := { row := headerKeepsRow, standIns := [], harness := (true, "d5bb88d666a0ddbc7d8d42f7e1c20e6606744885cb37ad28ad43a1740443c5c0"), looks := false }, kinds := [], alts := [], laidByText := true, laidKinds := [.data, .pinned], laidTests := true, laidLooks := .later }
def HeaderKeepsCardSaid : Prop := Claim7.holds Tryd.pinned (.plain (OpenSpec.ofChange headerKeepsSpec)) headerKeepsCard

/-- THE SECOND FORM's CARD OF 'arlinklaw02.HeaderMatchesReference'. -/
def headerMatchesReferenceUptoCard : Claim7 := { stood := { row := headerMatchesReferenceUptoRow, standIns := [], harness := (true, "d5bb88d666a0ddbc7d8d42f7e1c20e6606744885cb37ad28ad43a1740443c5c0"), looks := false }, kinds := [], alts := [], laidByText := true, laidKinds := [.data, .pinned], laidTests := true, laidLooks := .later }
def HeaderMatchesReferenceUptoCardSaid : Prop := Claim7.holds Tryd.pinned (.plain (OpenSpec.upto headerMatchesReferenceSpec)) headerMatchesReferenceUptoCard

/-- THE SECOND FORM's CARD OF 'arlinklaw02.HeaderRoundTrip'. -/
def headerRoundTripUptoCard : Claim7 := { stood := { row := headerRoundTripUptoRow, standIns := [], harness := (true, "d5bb88d666a0ddbc7d8d42f7e1c20e6606744885cb37ad28ad43a1740443c5c0"), looks := false }, kinds := [], alts := [], laidByText := true, laidKinds := [.data, .pinned], laidTests := true, laidLooks := .later }
def HeaderRoundTripUptoCardSaid : Prop := Claim7.holds Tryd.pinned (.plain (OpenSpec.upto headerRoundTripSpec)) headerRoundTripUptoCard

/-- THE SECOND FORM's CARD OF 'arlinklaw02.HeaderUnique'. -/
def headerUniqueUptoCard : Claim7 := { stood := { row := headerUniqueUptoRow, standIns := [], harness := (true, "d5bb88d666a0ddbc7d8d42f7e1c20e6606744885cb37ad28ad43a1740443c5c0"), looks := false }, kinds := [], alts := [], laidByText := true, laidKinds := [.data, .pinned], laidTests := true, laidLooks := .later }
def HeaderUniqueUptoCardSaid : Prop := Claim7.holds Tryd.pinned (.plain (OpenSpec.upto headerUniqueSpec)) headerUniqueUptoCard

/-- THE SECOND FORM's CARD OF 'arlinklaw02.HeaderBounds'. -/
def headerBoundsUptoCard : Claim7 := { stood := { row := headerBoundsUptoRow, standIns := [], harness := (true, "d5bb88d666a0ddbc7d8d42f7e1c20e6606744885cb37ad28ad43a1740443c5c0"), looks := false }, kinds := [], alts := [], laidByText := true, laidKinds := [.data, .pinned], laidTests := true, laidLooks := .later }
def HeaderBoundsUptoCardSaid : Prop := Claim7.holds Tryd.pinned (.plain (OpenSpec.upto headerBoundsSpec)) headerBoundsUptoCard

/-- THE SECOND FORM's CARD OF 'arlinklaw02.HeaderKeeps'. -/
def headerKeepsUptoCard : Claim7 := { stood := { row := headerKeepsUptoRow, standIns := [], harness := (true, "d5bb88d666a0ddbc7d8d42f7e1c20e6606744885cb37ad28ad43a1740443c5c0"), looks := false }, kinds := [], alts := [], laidByText := true, laidKinds := [.data, .pinned], laidTests := true, laidLooks := .later }
def HeaderKeepsUptoCardSaid : Prop := Claim7.holds Tryd.pinned (.plain (OpenSpec.upto headerKeepsSpec)) headerKeepsUptoCard
end Rows
end Go.Proofs.YtfhdgbpkhcnanaaDoor
