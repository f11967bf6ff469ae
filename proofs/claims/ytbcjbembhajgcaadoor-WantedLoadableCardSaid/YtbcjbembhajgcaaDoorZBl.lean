/-
  bind: the law's all.
-/
import Derived.Test.YtbcjbembhajgcaaDoorZBi
namespace Go.Proofs.YtbcjbembhajgcaaDoor.Bnd
open Go.RowKit Go.Proofs Go.Proofs.YtbcjbembhajgcaaDoor.Byt
open Go.Proofs.YtbcjbembhajgcaaDoor.Obj (Sy)
open Go.Proofs.YtbcjbembhajgcaaDoor.Arp (RdI)

end Go.Proofs.YtbcjbembhajgcaaDoor.Bnd
