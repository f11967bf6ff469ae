/-
  header.Decode at every byte slice.
-/
import Derived.Test.YteeeongnabpheaaDoorHdk
import Derived.Test.YteeeongnabpheaaDoorHdl
namespace Go.Proofs.YteeeongnabpheaaDoor.Hdr
open Go.RowKit Go.Proofs Go.Proofs.YteeeongnabpheaaDoor.Byt Go.Proofs.YteeeongnabpheaaDoor.Str Go.Proofs.YteeeongnabpheaaDoor.Dec

end Go.Proofs.YteeeongnabpheaaDoor.Hdr
