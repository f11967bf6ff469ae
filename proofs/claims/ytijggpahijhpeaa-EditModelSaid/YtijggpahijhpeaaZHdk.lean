/-
  header.Decode: the fields, of the table of long names.
  header.Decode: the fields, of other members.
  header.Decode at every byte slice.
-/
import Derived.Test.YtijggpahijhpeaaZMc
import Derived.Laws.EntriesVeiled
import Derived.Deep.LoopGhost
namespace Go.Proofs.Ytijggpahijhpeaa.Hdr
open Go.RowKit Go.Proofs Go.Proofs.Ytijggpahijhpeaa.Byt Go.Proofs.Ytijggpahijhpeaa.Str Go.Proofs.Ytijggpahijhpeaa.Dec

end Go.Proofs.Ytijggpahijhpeaa.Hdr

namespace Go.Proofs.Ytijggpahijhpeaa.Hdr
open Go.RowKit Go.Proofs Go.Proofs.Ytijggpahijhpeaa.Byt Go.Proofs.Ytijggpahijhpeaa.Str Go.Proofs.Ytijggpahijhpeaa.Dec

end Go.Proofs.Ytijggpahijhpeaa.Hdr

namespace Go.Proofs.Ytijggpahijhpeaa.Hdr
open Go.RowKit Go.Proofs Go.Proofs.Ytijggpahijhpeaa.Byt Go.Proofs.Ytijggpahijhpeaa.Str Go.Proofs.Ytijggpahijhpeaa.Dec

end Go.Proofs.Ytijggpahijhpeaa.Hdr
