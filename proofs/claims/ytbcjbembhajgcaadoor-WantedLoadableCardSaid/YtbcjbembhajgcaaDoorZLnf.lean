/-
  longname: entryNames, the iterator over a table's names.
-/
import Derived.Test.YtbcjbembhajgcaaDoorZLne
import Derived.RangeFuncBox
import Derived.RangeFuncNested
import Derived.RangeFuncBound
import Derived.RangeFuncCalls
import Derived.RangeFuncLeaves
import Derived.Shelf.Abstract
import Derived.Shelf.RegionOpen
import Derived.OwnWalkIn
import Derived.TacticsInMore
import Derived.LoopNIn
import Derived.LoopIn
import Derived.Maps.AppendAt
namespace Go.Proofs.YtbcjbembhajgcaaDoor.Lnm
open Go.RowKit Go.Shelf Go.Proofs Go.Proofs.YtbcjbembhajgcaaDoor.Byt Go.Proofs.YtbcjbembhajgcaaDoor.Str3 Go.Proofs.YtbcjbembhajgcaaDoor.Dec

attribute [local go_sem] Oper.semAt_some

end Go.Proofs.YtbcjbembhajgcaaDoor.Lnm
