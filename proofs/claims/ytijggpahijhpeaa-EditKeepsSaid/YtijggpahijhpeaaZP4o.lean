/-
  arparse: paddedSize, firstPart.
-/
import Derived.Test.YtijggpahijhpeaaZMk
import Derived.Test.YtijggpahijhpeaaZHdk
import Derived.BigQuiet
namespace Go.Proofs.Ytijggpahijhpeaa.Arp
open Go.RowKit Go.Proofs Go.Proofs.Ytijggpahijhpeaa.Byt Go.Proofs.Ytijggpahijhpeaa.Dec Go.Proofs.Ytijggpahijhpeaa.Lnm Go.Proofs.Ytijggpahijhpeaa.Hdr

end Go.Proofs.Ytijggpahijhpeaa.Arp
