/-
  DERIVED. GIVEN WITH THE SEED: THE CARDS: each row of YtpedngfmjhpojaaDoorRows.lean that lists a variable, with what it lists TIED to the program's text (the seventh form; the later family's looks); each row that meets fmt, with fmt's text TOLD by the authors' own Lean function (tested against real Go, not proved from fmt's source: count such statements apart). THE CARD IS WHAT COUNTS. Prove the row's statement (the work); the ties are given (YtpedngfmjhpojaaDoorTie.lean); close each card by the builder's one call (the guide's Derived/Test/ToyasCard.lean, 'card_holds'). Laid BY PROGRAM, IN A SANDBOX (cutbox-door.mjs). By AI agents, Wed Nov 11 2026. No macro, syntax, notation, axiom, sorry.
-/
import Derived.Test.YtpedngfmjhpojaaDoorRows
import GoSem.ClaimSeven
namespace Go.Proofs.YtpedngfmjhpojaaDoor
namespace Rows

/-- THE TIED CARD OF 'arlinklaw08.SymindexNames'. -/
def symindexNamesCard : Claim7 := { stood := { row := symindexNamesRow, standIns := [], harness := (true, "6c1964f203d2c6c7b14fe5198299d7bd4168d736fe1ca5153f15e30a96e91a92"), looks := true }, kinds := [], alts := [], laidByText := true, laidKinds := [.data, .data, .data], laidTests := true, laidLooks := .later }
def SymindexNamesCardSaid : Prop := Claim7.holds Tryd.pinned (.plain (OpenSpec.ofChange symindexNamesSpec)) symindexNamesCard

/-- THE SECOND FORM's CARD OF 'arlinklaw08.SymindexNames'. -/
def symindexNamesUptoCard : Claim7 := { stood := { row := symindexNamesUptoRow, standIns := [], harness := (true, "6c1964f203d2c6c7b14fe5198299d7bd4168d736fe1ca5153f15e30a96e91a92"), looks := true }, kinds := [], alts := [], laidByText := true, laidKinds := [.data, .data, .data], laidTests := true, laidLooks := .later }
def SymindexNamesUptoCardSaid : Prop := Claim7.holds Tryd.pinned (.plain (OpenSpec.upto symindexNamesSpec)) symindexNamesUptoCard
end Rows
end Go.Proofs.YtpedngfmjhpojaaDoor
