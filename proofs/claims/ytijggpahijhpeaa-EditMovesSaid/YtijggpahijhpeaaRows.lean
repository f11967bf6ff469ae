/-
  No cell of these rows narrows 'for every input' (looked for: loops, veiled, ifaces, maps, wideKeys, modest, calm, conditions, laid).
  DERIVED. THE GIVEN ROWS OF THIS SEAT. 5 by the template 'for every input the law returns true; each argument reads behind the call as it read before'; 0 by the template 'total and deterministic' (their statements: YtijggpahijhpeaaTotals.lean).
  GIVEN WITH THE SEED: the statements are not yours to turn. If you find one false, say at which input.
  Laid BY PROGRAM, IN A SANDBOX (cutbox-rows.mjs): the forced cells as the released guide's own fill.sh prints them over the translation 1722e0c60deb129b… (all of the seat's roots in one cut). By AI agents, Wed Nov 11 2026. No macro, syntax, notation, axiom, sorry.
-/
import Derived.Test.YtijggpahijhpeaaChecked
import GoSem.Claim
import GoSem.ClaimJoined
import GoSem.ClaimMapViews
import Derived.JoinedTies
import Derived.KernelRfl
namespace Go.Proofs.Ytijggpahijhpeaa
/- THE CELL 'sum', in the pinned program and in every row, IS THE sha256 OF THE DUMP (.gsa) THAT YtijggpahijhpeaaProg.lean LOADS. Nothing in Lean hashes anything: it is a label: what it is worth is what the hold of that sum in a sandbox is worth. -/
noncomputable def Try.pinned : Pinned := { name := "ytijggpahijhpeaa", sum := "1722e0c60deb129bb84fcfd2c0e0957d8b4d5cdc698d79d55de1df5f3b253bce", checked := Try.checked }
namespace Rows
def none {H : Type} : Left H := { results := [], args := [] }

/-- 'arlinklaw10.EditModel': WHATEVER THE INPUT: true; the input reads as it did. -/
def editModelSpec : ChangeSpec := { name := "editModel", fn := fun _ => fun
  | [d1, d2, d3, d4] => { results := [.lit (.bool true)], args := [d1, d2, d3, d4] }
  | _ => none }
def editModelRow : OpenClaim := { program := "ytijggpahijhpeaa", sum := "1722e0c60deb129bb84fcfd2c0e0957d8b4d5cdc698d79d55de1df5f3b253bce", func := "arlink/arlinklaw10.EditModel", spec := "editModel", unfollowed := true, recurses := true, apart := false }
def EditModelSaid : Prop := editModelRow.holds Try.pinned (OpenSpec.ofChange editModelSpec)

/-- ITS FALSE NEIGHBOUR: 'it returns false'. Refute it at one input. -/
def editModelWrong : ChangeSpec := { name := "editModel", fn := fun _ => fun
  | [d1, d2, d3, d4] => { results := [.lit (.bool false)], args := [d1, d2, d3, d4] }
  | _ => none }
def EditModelWrongFalsely : Prop := editModelRow.holds Try.pinned (OpenSpec.ofChange editModelWrong)

/-- 'arlinklaw10.EditReplaces': WHATEVER THE INPUT: true; the input reads as it did. -/
def editReplacesSpec : ChangeSpec := { name := "editReplaces", fn := fun _ => fun
  | [d1, d2, d3] => { results := [.lit (.bool true)], args := [d1, d2, d3] }
  | _ => none }
def editReplacesRow : OpenClaim := { program := "ytijggpahijhpeaa", sum := "1722e0c60deb129bb84fcfd2c0e0957d8b4d5cdc698d79d55de1df5f3b253bce", func := "arlink/arlinklaw10.EditReplaces", spec := "editReplaces", unfollowed := true, recurses := true, apart := false }
def EditReplacesSaid : Prop := editReplacesRow.holds Try.pinned (OpenSpec.ofChange editReplacesSpec)

/-- ITS FALSE NEIGHBOUR: 'it returns false'. Refute it at one input. -/
def editReplacesWrong : ChangeSpec := { name := "editReplaces", fn := fun _ => fun
  | [d1, d2, d3] => { results := [.lit (.bool false)], args := [d1, d2, d3] }
  | _ => none }
def EditReplacesWrongFalsely : Prop := editReplacesRow.holds Try.pinned (OpenSpec.ofChange editReplacesWrong)

/-- 'arlinklaw10.EditMoves': WHATEVER THE INPUT: true; the input reads as it did. -/
def editMovesSpec : ChangeSpec := { name := "editMoves", fn := fun _ => fun
  | [d1, d2, d3] => { results := [.lit (.bool true)], args := [d1, d2, d3] }
  | _ => none }
def editMovesRow : OpenClaim := { program := "ytijggpahijhpeaa", sum := "1722e0c60deb129bb84fcfd2c0e0957d8b4d5cdc698d79d55de1df5f3b253bce", func := "arlink/arlinklaw10.EditMoves", spec := "editMoves", unfollowed := true, recurses := true, apart := false }
def EditMovesSaid : Prop := editMovesRow.holds Try.pinned (OpenSpec.ofChange editMovesSpec)

/-- ITS FALSE NEIGHBOUR: 'it returns false'. Refute it at one input. -/
def editMovesWrong : ChangeSpec := { name := "editMoves", fn := fun _ => fun
  | [d1, d2, d3] => { results := [.lit (.bool false)], args := [d1, d2, d3] }
  | _ => none }
def EditMovesWrongFalsely : Prop := editMovesRow.holds Try.pinned (OpenSpec.ofChange editMovesWrong)

/-- 'arlinklaw10.EditInverse': WHATEVER THE INPUT: true; the input reads as it did. -/
def editInverseSpec : ChangeSpec := { name := "editInverse", fn := fun _ => fun
  | [d1, d2, d3] => { results := [.lit (.bool true)], args := [d1, d2, d3] }
  | _ => none }
def editInverseRow : OpenClaim := { program := "ytijggpahijhpeaa", sum := "1722e0c60deb129bb84fcfd2c0e0957d8b4d5cdc698d79d55de1df5f3b253bce", func := "arlink/arlinklaw10.EditInverse", spec := "editInverse", unfollowed := true, recurses := true, apart := false }
def EditInverseSaid : Prop := editInverseRow.holds Try.pinned (OpenSpec.ofChange editInverseSpec)

/-- ITS FALSE NEIGHBOUR: 'it returns false'. Refute it at one input. -/
def editInverseWrong : ChangeSpec := { name := "editInverse", fn := fun _ => fun
  | [d1, d2, d3] => { results := [.lit (.bool false)], args := [d1, d2, d3] }
  | _ => none }
def EditInverseWrongFalsely : Prop := editInverseRow.holds Try.pinned (OpenSpec.ofChange editInverseWrong)

/-- 'arlinklaw10.EditKeeps': WHATEVER THE INPUT: true; the input reads as it did. -/
def editKeepsSpec : ChangeSpec := { name := "editKeeps", fn := fun _ => fun
  | [d1, d2, d3, d4] => { results := [.lit (.bool true)], args := [d1, d2, d3, d4] }
  | _ => none }
def editKeepsRow : OpenClaim := { program := "ytijggpahijhpeaa", sum := "1722e0c60deb129bb84fcfd2c0e0957d8b4d5cdc698d79d55de1df5f3b253bce", func := "arlink/arlinklaw10.EditKeeps", spec := "editKeeps", unfollowed := true, recurses := true, apart := false }
def EditKeepsSaid : Prop := editKeepsRow.holds Try.pinned (OpenSpec.ofChange editKeepsSpec)

/-- ITS FALSE NEIGHBOUR: 'it returns false'. Refute it at one input. -/
def editKeepsWrong : ChangeSpec := { name := "editKeeps", fn := fun _ => fun
  | [d1, d2, d3, d4] => { results := [.lit (.bool false)], args := [d1, d2, d3, d4] }
  | _ => none }
def EditKeepsWrongFalsely : Prop := editKeepsRow.holds Try.pinned (OpenSpec.ofChange editKeepsWrong)

/- THE SECOND FORM. 'bulk': how many values and letters a reading holds, each counted each time it is reached (what is shared counts as often as it is met; a slice's spare places count too). A statement '..UptoSaid' is the law's where the arguments, and the package variables that the reading takes, are together of bulk at most 1048576: NARROWER than '..Said'. Prove '..Said' where nothing that the law and all that it calls make is longer than what came in: it says more and counts as full. Else prove '..UptoSaid'. A law counts once. -/
mutual
def uptoBulk {H : Type} : DataW H → Nat
  | .lit (.string bytes) => bytes.length + 1
  | .lit _ => 1
  | .nil => 1
  | .ptr d => uptoBulk d + 1
  | .slice elems spare => uptoBulkAll elems + uptoBulkAll spare + 1
  | .agg parts => uptoBulkAll parts + 1
  | .iface _ d => uptoBulk d + 1
  | .map entries => uptoBulkEntries entries + 1
  | .held _ => 1
def uptoBulkAll {H : Type} : List (DataW H) → Nat
  | [] => 0
  | d :: r => uptoBulk d + uptoBulkAll r
def uptoBulkEntries {H : Type} : List (Lit × DataW H) → Nat
  | [] => 0
  | x :: r => uptoBulkEntry x + uptoBulkEntries r
def uptoBulkEntry {H : Type} : Lit × DataW H → Nat
  | (.string bytes, d) => bytes.length + uptoBulk d + 1
  | (_, d) => uptoBulk d + 1
 end
def uptoSmall : (H : Type) → List (DataW H) → Bool := fun _ ds => decide (uptoBulkAll ds ≤ 1048576)
def OpenSpec.upto (s : _root_.Go.ChangeSpec) : _root_.Go.OpenSpec := { _root_.Go.OpenSpec.ofChange s with cond := some uptoSmall }

/-- 'arlinklaw10.EditModel', WHERE WHAT IT READS IS OF BULK AT MOST 1048576: true; the input reads as it did. -/
def editModelUptoRow : OpenClaim := { program := "ytijggpahijhpeaa", sum := "1722e0c60deb129bb84fcfd2c0e0957d8b4d5cdc698d79d55de1df5f3b253bce", func := "arlink/arlinklaw10.EditModel", spec := "editModel", unfollowed := true, recurses := true, apart := false, narrowed := true }
def EditModelUptoSaid : Prop := editModelUptoRow.holds Try.pinned (OpenSpec.upto editModelSpec)

/-- 'arlinklaw10.EditReplaces', WHERE WHAT IT READS IS OF BULK AT MOST 1048576: true; the input reads as it did. -/
def editReplacesUptoRow : OpenClaim := { program := "ytijggpahijhpeaa", sum := "1722e0c60deb129bb84fcfd2c0e0957d8b4d5cdc698d79d55de1df5f3b253bce", func := "arlink/arlinklaw10.EditReplaces", spec := "editReplaces", unfollowed := true, recurses := true, apart := false, narrowed := true }
def EditReplacesUptoSaid : Prop := editReplacesUptoRow.holds Try.pinned (OpenSpec.upto editReplacesSpec)

/-- 'arlinklaw10.EditMoves', WHERE WHAT IT READS IS OF BULK AT MOST 1048576: true; the input reads as it did. -/
def editMovesUptoRow : OpenClaim := { program := "ytijggpahijhpeaa", sum := "1722e0c60deb129bb84fcfd2c0e0957d8b4d5cdc698d79d55de1df5f3b253bce", func := "arlink/arlinklaw10.EditMoves", spec := "editMoves", unfollowed := true, recurses := true, apart := false, narrowed := true }
def EditMovesUptoSaid : Prop := editMovesUptoRow.holds Try.pinned (OpenSpec.upto editMovesSpec)

/-- 'arlinklaw10.EditInverse', WHERE WHAT IT READS IS OF BULK AT MOST 1048576: true; the input reads as it did. -/
def editInverseUptoRow : OpenClaim := { program := "ytijggpahijhpeaa", sum := "1722e0c60deb129bb84fcfd2c0e0957d8b4d5cdc698d79d55de1df5f3b253bce", func := "arlink/arlinklaw10.EditInverse", spec := "editInverse", unfollowed := true, recurses := true, apart := false, narrowed := true }
def EditInverseUptoSaid : Prop := editInverseUptoRow.holds Try.pinned (OpenSpec.upto editInverseSpec)

/-- 'arlinklaw10.EditKeeps', WHERE WHAT IT READS IS OF BULK AT MOST 1048576: true; the input reads as it did. -/
def editKeepsUptoRow : OpenClaim := { program := "ytijggpahijhpeaa", sum := "1722e0c60deb129bb84fcfd2c0e0957d8b4d5cdc698d79d55de1df5f3b253bce", func := "arlink/arlinklaw10.EditKeeps", spec := "editKeeps", unfollowed := true, recurses := true, apart := false, narrowed := true }
def EditKeepsUptoSaid : Prop := editKeepsUptoRow.holds Try.pinned (OpenSpec.upto editKeepsSpec)

end Rows
end Go.Proofs.Ytijggpahijhpeaa
