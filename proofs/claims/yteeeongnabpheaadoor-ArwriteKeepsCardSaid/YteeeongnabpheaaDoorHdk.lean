/-
  header.Decode: the fields, of the table of long names.
-/
import Derived.Test.YteeeongnabpheaaDoorMc
import Derived.Laws.EntriesVeiled
import Derived.Deep.LoopGhost
namespace Go.Proofs.YteeeongnabpheaaDoor.Hdr
open Go.RowKit Go.Proofs Go.Proofs.YteeeongnabpheaaDoor.Byt Go.Proofs.YteeeongnabpheaaDoor.Str Go.Proofs.YteeeongnabpheaaDoor.Dec

end Go.Proofs.YteeeongnabpheaaDoor.Hdr
