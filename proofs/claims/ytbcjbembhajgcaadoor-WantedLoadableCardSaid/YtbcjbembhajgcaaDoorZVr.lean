/-
  symtab's reference: Resolved, SameResolved; the law's state.
  symtab's reference: SameResolved, of lists that are the same.
-/
import Derived.Test.YtbcjbembhajgcaaDoorZVn
import Derived.Test.YtbcjbembhajgcaaDoorZVe
import Derived.BigQuiet
namespace Go.Proofs.YtbcjbembhajgcaaDoor.Tab
open Go.RowKit Go.Proofs Go.Proofs.YtbcjbembhajgcaaDoor.Byt
open Go.Proofs.YtbcjbembhajgcaaDoor.Obj (Sy RdS SCells)
open Go.Proofs.YtbcjbembhajgcaaDoor.Bnd

end Go.Proofs.YtbcjbembhajgcaaDoor.Tab

namespace Go.Proofs.YtbcjbembhajgcaaDoor.Tab
open Go.RowKit Go.Proofs Go.Proofs.YtbcjbembhajgcaaDoor.Byt
open Go.Proofs.YtbcjbembhajgcaaDoor.Bnd

end Go.Proofs.YtbcjbembhajgcaaDoor.Tab
