/-
  longname: entryNames, the iterator over a table's names.
-/
import Derived.Test.YtndjnmeblpjlhaaDoorYLne
import Derived.RangeFuncBox
import Derived.RangeFuncNested
import Derived.RangeFuncBound
import Derived.RangeFuncCalls
import Derived.RangeFuncLeaves
import Derived.Shelf.Abstract
import Derived.Shelf.RegionOpen
import Derived.OwnWalkIn
import Derived.TacticsInMore
import Derived.LoopNIn
import Derived.LoopIn
import Derived.Maps.AppendAt
namespace Go.Proofs.YtndjnmeblpjlhaaDoor.Lnm
open Go.RowKit Go.Shelf Go.Proofs Go.Proofs.YtndjnmeblpjlhaaDoor.Byt Go.Proofs.YtndjnmeblpjlhaaDoor.Str3 Go.Proofs.YtndjnmeblpjlhaaDoor.Dec

attribute [local go_sem] Oper.semAt_some

end Go.Proofs.YtndjnmeblpjlhaaDoor.Lnm
