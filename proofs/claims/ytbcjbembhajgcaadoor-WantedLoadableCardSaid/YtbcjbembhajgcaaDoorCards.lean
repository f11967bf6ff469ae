/-
  DERIVED. GIVEN WITH THE SEED: THE CARDS: each row of YtbcjbembhajgcaaDoorRows.lean that lists a variable, with what it lists TIED to the program's text (the seventh form; the later family's looks); each row that meets fmt, with fmt's text TOLD by the authors' own Lean function (tested against real Go, not proved from fmt's source: count such statements apart). THE CARD IS WHAT COUNTS. Prove the row's statement (the work); the ties are given (YtbcjbembhajgcaaDoorTie.lean); close each card by the builder's one call (the guide's Derived/Test/ToyasCard.lean, 'card_holds'). Laid BY PROGRAM, IN A SANDBOX (cutbox-door.mjs). By AI agents, Wed Nov 11 2026. No macro, syntax, notation, axiom, sorry.
-/
import Derived.Test.YtbcjbembhajgcaaDoorRows
import GoSem.ClaimSeven
namespace Go.Proofs.YtbcjbembhajgcaaDoor
namespace Rows

/-- THE TIED CARD OF 'arlinklaw15.WantedLoadable'. -/
def wantedLoadableCard : Claim7 := { stood := { row := wantedLoadableRow, standIns := [], harness := (true, "864b6d04a59eef9e07ba291d34ecdf2c353ef1ba5b043bdb8fbba5a9d32ac91b"), looks := true }, kinds := [], alts := [], laidByText := true, laidKinds := [.data], laidTests := true, laidLooks := .later }
def WantedLoadableCardSaid : Prop := Claim7.holds Tryd.pinned (.plain (OpenSpec.ofChange wantedLoadableSpec)) wantedLoadableCard

/-- THE SECOND FORM's CARD OF 'arlinklaw15.WantedLoadable'. -/
def wantedLoadableUptoCard : Claim7 := { stood := { row := wantedLoadableUptoRow, standIns := [], harness := (true, "864b6d04a59eef9e07ba291d34ecdf2c353ef1ba5b043bdb8fbba5a9d32ac91b"), looks := true }, kinds := [], alts := [], laidByText := true, laidKinds := [.data], laidTests := true, laidLooks := .later }
def WantedLoadableUptoCardSaid : Prop := Claim7.holds Tryd.pinned (.plain (OpenSpec.upto wantedLoadableSpec)) wantedLoadableUptoCard
end Rows
end Go.Proofs.YtbcjbembhajgcaaDoor
