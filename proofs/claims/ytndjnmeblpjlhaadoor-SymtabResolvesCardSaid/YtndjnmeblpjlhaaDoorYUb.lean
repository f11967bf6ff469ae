/-
  SymtabMatchesReference, walked.
-/
import Derived.Test.YtndjnmeblpjlhaaDoorYUa
namespace Go.Proofs.YtndjnmeblpjlhaaDoor.Tab
open Go.RowKit Go.Proofs Go.Proofs.YtndjnmeblpjlhaaDoor.Byt
open Go.Proofs.YtndjnmeblpjlhaaDoor.Obj (Sy RdS SCells)
open Go.Proofs.YtndjnmeblpjlhaaDoor.Bnd

end Go.Proofs.YtndjnmeblpjlhaaDoor.Tab
