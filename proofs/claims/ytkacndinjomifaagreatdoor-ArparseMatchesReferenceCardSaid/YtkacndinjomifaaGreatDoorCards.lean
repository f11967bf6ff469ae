/-
  DERIVED. GIVEN WITH THE SEED: THE CARDS: each row of YtkacndinjomifaaGreatDoorRows.lean that lists a variable, with what it lists TIED to the program's text (the seventh form; the later family's looks); each row that meets fmt, with fmt's text TOLD by the authors' own Lean function (tested against real Go, not proved from fmt's source: count such statements apart). THE CARD IS WHAT COUNTS. Prove the row's statement (the work); the ties are given (YtkacndinjomifaaGreatDoorTie.lean); close each card by the builder's one call (the guide's Derived/Test/ToyasCard.lean, 'card_holds'). Laid BY PROGRAM, IN A SANDBOX (cutbox-door.mjs). By AI agents, Wed Nov 11 2026. No macro, syntax, notation, axiom, sorry.
-/
import Derived.Test.YtkacndinjomifaaGreatDoorRows
import GoSem.ClaimSeven
namespace Go.Proofs.YtkacndinjomifaaGreatDoor
namespace Rows

/-- THE TIED CARD OF 'arlinklaw04.ArparseMatchesReference'. -/
def arparseMatchesReferenceCard : Claim7 := { stood := { row := arparseMatchesReferenceRow, standIns := [], harness := (true, "d7a31397d9f45f2d45ff0bd3f5c50a8f64938cb1f74537a77333328c05ff54aa"), looks := false }, kinds := [], alts := [], laidByText := true, laidKinds := [.data, .pinned], laidTests := true, laidLooks := .later }
def ArparseMatchesReferenceCardSaid : Prop := Claim7.holds Tryz.pinned (.plain (OpenSpec.ofChange arparseMatchesReferenceSpec)) arparseMatchesReferenceCard

/-- THE SECOND FORM's CARD OF 'arlinklaw04.ArparseMatchesReference'. -/
def arparseMatchesReferenceUptoCard : Claim7 := { stood := { row := arparseMatchesReferenceUptoRow, standIns := [], harness := (true, "d7a31397d9f45f2d45ff0bd3f5c50a8f64938cb1f74537a77333328c05ff54aa"), looks := false }, kinds := [], alts := [], laidByText := true, laidKinds := [.data, .pinned], laidTests := true, laidLooks := .later }
def ArparseMatchesReferenceUptoCardSaid : Prop := Claim7.holds Tryz.pinned (.plain (OpenSpec.upto arparseMatchesReferenceSpec)) arparseMatchesReferenceUptoCard
end Rows
end Go.Proofs.YtkacndinjomifaaGreatDoor
