/-
  No contract of the library is wanted here.
-/
import Derived.Test.YtechacnflegliaaDoorProg
namespace Go.Proofs.YtechacnflegliaaDoor.Shelf2
end Go.Proofs.YtechacnflegliaaDoor.Shelf2
