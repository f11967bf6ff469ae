/-
  DERIVED. GIVEN WITH THE SEED: THE CARDS: each row of YtfpendpbloeedaaDoorRows.lean that lists a variable, with what it lists TIED to the program's text (the seventh form; the later family's looks); each row that meets fmt, with fmt's text TOLD by the authors' own Lean function (tested against real Go, not proved from fmt's source: count such statements apart). THE CARD IS WHAT COUNTS. Prove the row's statement (the work); the ties are given (YtfpendpbloeedaaDoorTie.lean); close each card by the builder's one call (the guide's Derived/Test/ToyasCard.lean, 'card_holds'). Laid BY PROGRAM, IN A SANDBOX (cutbox-door.mjs). By AI agents, Wed Nov 11 2026. No macro, syntax, notation, axiom, sorry.
-/
import Derived.Test.YtfpendpbloeedaaDoorRows
import GoSem.ClaimSeven
namespace Go.Proofs.YtfpendpbloeedaaDoor
namespace Rows

/-- THE TIED CARD OF 'arlinklaw04.ArparseTotal'. -/
def arparseTotalCard : Claim7 := { stood := { row := arparseTotalRow, standIns := [], harness := (true, "48f2ff196254b2af6b45da2ec089731cc37ebc39530793c05c357d595e7f75e7"), looks := false }, kinds := [], alts := [], laidByText := true, laidKinds := [.data, .pinned], laidTests := true, laidLooks := .later }
def ArparseTotalCardSaid : Prop := Claim7.holds Tryd.pinned (.plain (OpenSpec.ofChange arparseTotalSpec)) arparseTotalCard

/-- THE TIED CARD OF 'arlinklaw04.ArparseAppends'. -/
def arparseAppendsCard : Claim7 := { stood := { row := arparseAppendsRow, standIns := [], harness := (true, "48f2ff196254b2af6b45da2ec089731cc37ebc39530793c05c357d595e7f75e7"), looks := false }, kinds := [], alts := [], laidByText := true, laidKinds := [.data, .pinned], laidTests := true, laidLooks := .later }
def ArparseAppendsCardSaid : Prop := Claim7.holds Tryd.pinned (.plain (OpenSpec.ofChange arparseAppendsSpec)) arparseAppendsCard

/-- THE TIED CARD OF 'arlinklaw04.ArparseSpecial'. -/
def arparseSpecialCard : Claim7 := { stood := { row := arparseSpecialRow, standIns := [], harness := (true, "48f2ff196254b2af6b45da2ec089731cc37ebc39530793c05c357d595e7f75e7"), looks := false }, kinds := [], alts := [], laidByText := true, laidKinds := [.data, .pinned], laidTests := true, laidLooks := .later }
def ArparseSpecialCardSaid : Prop := Claim7.holds Tryd.pinned (.plain (OpenSpec.ofChange arparseSpecialSpec)) arparseSpecialCard

/-- THE TIED CARD OF 'arlinklaw04.ArparseKeeps'. -/
def arparseKeepsCard : Claim7 := { stood := { row := arparseKeepsRow, standIns := [], harness := (true, "48f2ff196254b2af6b45da2ec089731cc37ebc39530793c05c357d595e7f75e7"), looks := false }, kinds := [], alts := [], laidByText := true, laidKinds := [.data, .pinned], laidTests := true, laidLooks := .later }
def ArparseKeepsCardSaid : Prop := Claim7.holds Tryd.pinned (.plain (OpenSpec.ofChange arparseKeepsSpec)) arparseKeepsCard

/-- THE TIED CARD OF 'arlinklaw05.ArwriteMatchesReference'. -/
def arwriteMatchesReferenceCard : Claim7 := { stood := { row := arwriteMatchesReferenceRow, standIns := [], harness := (true, "48f2ff196254b2af6b45da2ec089731cc37ebc39530793c05c357d595e7f75e7"), looks := false }, kinds := [], alts := [], laidByText := true, laidKinds := [.data, .data, .data], laidTests := true, laidLooks := .later }
def ArwriteMatchesReferenceCardSaid : Prop := Claim7.holds Tryd.pinned (.plain (OpenSpec.ofChange arwriteMatchesReferenceSpec)) arwriteMatchesReferenceCard

/-- THE SECOND FORM's CARD OF 'arlinklaw04.ArparseTotal'. -/
def arparseTotalUptoCard : Claim7 := { stood := { row := arparseTotalUptoRow, standIns := [], harness := (true, "48f2ff196254b2af6b45da2ec089731cc37ebc39530793c05c357d595e7f75e7"), looks := false }, kinds := [], alts := [], laidByText := true, laidKinds := [.data, .pinned], laidTests := true, laidLooks := .later }
def ArparseTotalUptoCardSaid : Prop := Claim7.holds Tryd.pinned (.plain (OpenSpec.upto arparseTotalSpec)) arparseTotalUptoCard

/-- THE SECOND FORM's CARD OF 'arlinklaw04.ArparseAppends'. -/
def arparseAppendsUptoCard : Claim7 := { stood := { row := arparseAppendsUptoRow, standIns := [], harness := (true, "48f2ff196254b2af6b45da2ec089731cc37ebc39530793c05c357d595e7f75e7"), looks := false }, kinds := [], alts := [], laidByText := true, laidKinds := [.data, .pinned], laidTests := true, laidLooks := .later }
def ArparseAppendsUptoCardSaid : Prop := Claim7.holds Tryd.pinned (.plain (OpenSpec.upto arparseAppendsSpec)) arparseAppendsUptoCard

/-- THE SECOND FORM's CARD OF 'arlinklaw04.ArparseSpecial'. -/
def arparseSpecialUptoCard : Claim7 := { stood := { row := arparseSpecialUptoRow, standIns := [], harness := (true, "48f2ff196254b2af6b45da2ec089731cc37ebc39530793c05c357d595e7f75e7"), looks := false }, kinds := [], alts := [], laidByText := true, laidKinds := [.data, .pinned], laidTests := true, laidLooks := .later }
def ArparseSpecialUptoCardSaid : Prop := Claim7.holds Tryd.pinned (.plain (OpenSpec.upto arparseSpecialSpec)) arparseSpecialUptoCard

/-- THE SECOND FORM's CARD OF 'arlinklaw04.ArparseKeeps'. -/
def arparseKeepsUptoCard : Claim7 := { stood := { row := arparseKeepsUptoRow, standIns := [], harness := (true, "48f2ff196254b2af6b45da2ec089731cc37ebc39530793c05c357d595e7f75e7"), looks := false }, kinds := [], alts := [], laidByText := true, laidKinds := [.data, .pinned], laidTests := true, laidLooks := .later }
def ArparseKeepsUptoCardSaid : Prop := Claim7.holds Tryd.pinned (.plain (OpenSpec.upto arparseKeepsSpec)) arparseKeepsUptoCard

/-- THE SECOND FORM's CARD OF 'arlinklaw05.ArwriteMatchesReference'. -/
def arwriteMatchesReferenceUptoCard : Claim7 := { stood := { row := arwriteMatchesReferenceUptoRow, standIns := [], harness := (true, "48f2ff196254b2af6b45da2ec089731cc37ebc39530793c05c357d595e7f75e7"), looks := false }, kinds := [], alts := [], laidByText := true, laidKinds := [.data, .data, .data], laidTests := true, laidLooks := .later }
def ArwriteMatchesReferenceUptoCardSaid : Prop := Claim7.holds Tryd.pinned (.plain (OpenSpec.upto arwriteMatchesReferenceSpec)) arwriteMatchesReferenceUptoCard
end Rows
end Go.Proofs.YtfpendpbloeedaaDoor
