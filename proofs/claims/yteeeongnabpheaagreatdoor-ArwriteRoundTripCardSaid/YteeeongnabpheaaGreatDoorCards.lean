/-
  DERIVED. GIVEN WITH THE SEED: THE CARDS: each row of YteeeongnabpheaaGreatDoorRows.lean that lists a variable, with what it lists TIED to the program's text (the seventh form; the later family's looks); each row that meets fmt, with fmt's text TOLD by the authors' own Lean function (tested against real Go, not proved from fmt's source: count such statements apart). THE CARD IS WHAT COUNTS. Prove the row's statement (the work); the ties are given (YteeeongnabpheaaGreatDoorTie.lean); close each card by the builder's one call (the guide's Derived/Test/ToyasCard.lean, 'card_holds'). Laid BY PROGRAM, IN A SANDBOX (cutbox-door.mjs). By AI agents, Wed Nov 11 2026. No macro, syntax, notation, axiom, sorry.
-/
import Derived.Test.YteeeongnabpheaaGreatDoorRows
import GoSem.ClaimSeven
namespace Go.Proofs.YteeeongnabpheaaGreatDoor
namespace Rows

/-- THE TIED CARD OF 'arlinklaw05.ArwriteRoundTrip'. -/
def arwriteRoundTripCard : Claim7 := { stood := { row := arwriteRoundTripRow, standIns := [], harness := (true, "01e07c060bffd787e59266562abec18b0eea3801b8b49561a67441d93869cefd"), looks := false }, kinds := [], alts := [], laidByText := true, laidKinds := [.data, .data, .data, .data, .pinned], laidTests := true, laidLooks := .later }
def ArwriteRoundTripCardSaid : Prop := Claim7.holds Tryz.pinned (.plain (OpenSpec.ofChange arwriteRoundTripSpec)) arwriteRoundTripCard

/-- THE TIED CARD OF 'arlinklaw05.ArwriteCanonical'. -/
def arwriteCanonicalCard : Claim7 := { stood := { row := arwriteCanonicalRow, standIns := [], harness := (true, "01e07c060bffd787e59266562abec18b0eea3801b8b49561a67441d93869cefd"), looks := false }, kinds := [], alts := [], laidByText := true, laidKinds := [.data, .data, .data, .data, .pinned], laidTests := true, laidLooks := .later }
def ArwriteCanonicalCardSaid : Prop := Claim7.holds Tryz.pinned (.plain (OpenSpec.ofChange arwriteCanonicalSpec)) arwriteCanonicalCard

/-- THE SECOND FORM's CARD OF 'arlinklaw05.ArwriteRoundTrip'. -/
def arwriteRoundTripUptoCard : Claim7 := { stood := { row := arwriteRoundTripUptoRow, standIns := [], harness := (true, "01e07c060bffd787e59266562abec18b0eea3801b8b49561a67441d93869cefd"), looks := false }, kinds := [], alts := [], laidByText := true, laidKinds := [.data, .data, .data, .data, .pinned], laidTests := true, laidLooks := .later }
def ArwriteRoundTripUptoCardSaid : Prop := Claim7.holds Tryz.pinned (.plain (OpenSpec.upto arwriteRoundTripSpec)) arwriteRoundTripUptoCard

/-- THE SECOND FORM's CARD OF 'arlinklaw05.ArwriteCanonical'. -/
def arwriteCanonicalUptoCard : Claim7 := { stood := { row := arwriteCanonicalUptoRow, standIns := [], harness := (true, "01e07c060bffd787e59266562abec18b0eea3801b8b49561a67441d93869cefd"), looks := false }, kinds := [], alts := [], laidByText := true, laidKinds := [.data, .data, .data, .data, .pinned], laidTests := true, laidLooks := .later }
def ArwriteCanonicalUptoCardSaid : Prop := Claim7.holds Tryz.pinned (.plain (OpenSpec.upto arwriteCanonicalSpec)) arwriteCanonicalUptoCard
end Rows
end Go.Proofs.YteeeongnabpheaaGreatDoor
