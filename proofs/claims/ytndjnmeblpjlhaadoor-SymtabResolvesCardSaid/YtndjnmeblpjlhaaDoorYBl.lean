/-
  bind: the law's all.
-/
import Derived.Test.YtndjnmeblpjlhaaDoorYBi
namespace Go.Proofs.YtndjnmeblpjlhaaDoor.Bnd
open Go.RowKit Go.Proofs Go.Proofs.YtndjnmeblpjlhaaDoor.Byt
open Go.Proofs.YtndjnmeblpjlhaaDoor.Obj (Sy)
open Go.Proofs.YtndjnmeblpjlhaaDoor.Arp (RdI)

end Go.Proofs.YtndjnmeblpjlhaaDoor.Bnd
