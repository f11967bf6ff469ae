/-
  header.Encode at every header: a Name that does not fit; the table of long names.
  header.Encode at every header: other Names.
  header.Encode and header.Fits at every header; the header of the reference turned into a header.
-/
import Derived.Test.YtijggpahijhpeaaZMb
import Derived.Laws.EntriesVeiled
import Derived.Deep.LoopGhost
namespace Go.Proofs.Ytijggpahijhpeaa.Hdr
open Go.RowKit Go.Proofs Go.Proofs.Ytijggpahijhpeaa.Byt Go.Proofs.Ytijggpahijhpeaa.Str Go.Proofs.Ytijggpahijhpeaa.Dec

end Go.Proofs.Ytijggpahijhpeaa.Hdr

namespace Go.Proofs.Ytijggpahijhpeaa.Hdr
open Go.RowKit Go.Proofs Go.Proofs.Ytijggpahijhpeaa.Byt Go.Proofs.Ytijggpahijhpeaa.Str Go.Proofs.Ytijggpahijhpeaa.Dec

end Go.Proofs.Ytijggpahijhpeaa.Hdr

namespace Go.Proofs.Ytijggpahijhpeaa.Hdr
open Go.RowKit Go.Proofs Go.Proofs.Ytijggpahijhpeaa.Byt Go.Proofs.Ytijggpahijhpeaa.Str Go.Proofs.Ytijggpahijhpeaa.Dec

end Go.Proofs.Ytijggpahijhpeaa.Hdr
