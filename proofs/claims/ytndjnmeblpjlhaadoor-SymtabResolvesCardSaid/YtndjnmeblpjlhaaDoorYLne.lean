/-
  longname: Build.
-/
import Derived.Test.YtndjnmeblpjlhaaDoorYMh
import Derived.Test.YtndjnmeblpjlhaaDoorYMg
namespace Go.Proofs.YtndjnmeblpjlhaaDoor.Lnm
open Go.RowKit Go.Proofs Go.Proofs.YtndjnmeblpjlhaaDoor.Byt Go.Proofs.YtndjnmeblpjlhaaDoor.Str3 Go.Proofs.YtndjnmeblpjlhaaDoor.Dec

end Go.Proofs.YtndjnmeblpjlhaaDoor.Lnm
