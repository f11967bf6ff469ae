/-
  longname: Build.
-/
import Derived.Test.YtbcjbembhajgcaaDoorZMh
import Derived.Test.YtbcjbembhajgcaaDoorZMg
namespace Go.Proofs.YtbcjbembhajgcaaDoor.Lnm
open Go.RowKit Go.Proofs Go.Proofs.YtbcjbembhajgcaaDoor.Byt Go.Proofs.YtbcjbembhajgcaaDoor.Str3 Go.Proofs.YtbcjbembhajgcaaDoor.Dec

end Go.Proofs.YtbcjbembhajgcaaDoor.Lnm
