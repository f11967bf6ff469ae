/-
  librarian: LibrarianConsistent, from the program's
-/
import Derived.Test.YtkegpjjehejaoaaGreatDoorZLg
import Derived.Test.YtkegpjjehejaoaaGreatDoorZCoa
set_option maxRecDepth 100000
set_option maxHeartbeats 16000000
set_option linter.unusedSimpArgs false
set_option linter.unusedVariables false
namespace Go.Proofs.YtkegpjjehejaoaaGreatDoor
open Go.RowKit Go.Proofs
namespace JL
open JB
open JS (Oth qdh)
open JN (qfp)
open JR (Mem RdM qeb qa6 qcv ar)
open JW (core MOk lens qbi RdM0)
open Go.Proofs.YtkegpjjehejaoaaGreatDoor.Six (Few qfs)
open JE (qak qc2 qex qc1 qep qey qbd qjd qgf qar qay)
end JL
end Go.Proofs.YtkegpjjehejaoaaGreatDoor
