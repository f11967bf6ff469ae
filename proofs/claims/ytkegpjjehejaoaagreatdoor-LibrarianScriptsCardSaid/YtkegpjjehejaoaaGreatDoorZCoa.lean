/-
  consist: the state of opening in memory; what is read of an
-/
import Derived.Test.YtkegpjjehejaoaaGreatDoorZCa
import Derived.Test.YtkegpjjehejaoaaGreatDoorZSe
import Derived.Test.YtkegpjjehejaoaaGreatDoorZAf
import Derived.Test.YtkegpjjehejaoaaGreatDoorZMl
import Derived.BigQuiet
import Derived.BigRegion
import Derived.Deep.RegionHeld3
import Derived.Test.YtkegpjjehejaoaaGreatDoorZMb
import Derived.Deep.WholeRow
set_option maxRecDepth 100000
set_option maxHeartbeats 16000000
set_option linter.unusedSimpArgs false
set_option linter.unusedVariables false
namespace Go.Proofs.YtkegpjjehejaoaaGreatDoor
open Go.RowKit Go.Proofs
namespace JK
open JB
open JS (Oth)
open JR (Mem St Pm ar Arc RdA RdM RdI qeb qge But)
open Go.Proofs.YtkegpjjehejaoaaGreatDoor.Six (qen RdL qpg)
open JA (En RdE qaq qti qzx qwk qhe)
end JK
namespace JK
open JB
open JS (Oth)
open JR (Mem St Pm ar Arc RdA RdM RdI qeb qge But)
open Go.Proofs.YtkegpjjehejaoaaGreatDoor.Six (qen RdL qpg qus kSS qij qbc qx9 qx6)
open JA (En RdE qaq qti qzx qwk qhe)
end JK
namespace JK
open JB
open JN (Gnd)
open JS (Oth)
open JR (Mem St Pm ar Arc RdA RdM RdI qeb qge But)
open Go.Proofs.YtkegpjjehejaoaaGreatDoor.Six (qen RdL qpg)
open JA (En RdE qaq qti qzx qwk qhe qtk Qc6 neq_ent)
end JK
namespace JK
open JB
open JH (qb2 qcf)
end JK
namespace JK
open JB
open JN (Gnd)
open JR (Mem St Pm ar Arc RdA RdM RdI qeb qge But)
open Go.Proofs.YtkegpjjehejaoaaGreatDoor.Six (qen RdL qpg)
open JA (En RdE qaq qti qzx qwk qhe)
end JK
namespace JK
open JB
open JN (Gnd)
open JR (Mem St Pm ar Arc RdA RdM RdI qeb qge But qa6)
open Go.Proofs.YtkegpjjehejaoaaGreatDoor.Six (qen RdL qpg)
open JA (En RdE qaq qti qzx qwk qhe)
open JH (qcf)
end JK
end Go.Proofs.YtkegpjjehejaoaaGreatDoor
