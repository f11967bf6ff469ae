/-
  longname: Build.
-/
import Derived.Test.YtechacnflegliaaDoorYMh
import Derived.Test.YtechacnflegliaaDoorYMg
namespace Go.Proofs.YtechacnflegliaaDoor.Lnm
open Go.RowKit Go.Proofs Go.Proofs.YtechacnflegliaaDoor.Byt Go.Proofs.YtechacnflegliaaDoor.Str3 Go.Proofs.YtechacnflegliaaDoor.Dec

end Go.Proofs.YtechacnflegliaaDoor.Lnm
