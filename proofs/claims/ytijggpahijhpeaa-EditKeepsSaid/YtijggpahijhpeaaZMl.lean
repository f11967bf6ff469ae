/-
  arparse: firstPart at every byte slice. arparse: parts, the iterator over an archive's parts.
-/
import Derived.Test.YtijggpahijhpeaaZP4o
import Derived.Test.YtijggpahijhpeaaZLnf
namespace Go.Proofs.Ytijggpahijhpeaa.Arp
open Go.RowKit Go.Proofs Go.Proofs.Ytijggpahijhpeaa.Byt Go.Proofs.Ytijggpahijhpeaa.Dec Go.Proofs.Ytijggpahijhpeaa.Lnm Go.Proofs.Ytijggpahijhpeaa.Hdr

end Go.Proofs.Ytijggpahijhpeaa.Arp

namespace Go.Proofs.Ytijggpahijhpeaa.Arp
open Go.RowKit Go.Shelf Go.Proofs Go.Proofs.Ytijggpahijhpeaa.Byt Go.Proofs.Ytijggpahijhpeaa.Dec Go.Proofs.Ytijggpahijhpeaa.Lnm Go.Proofs.Ytijggpahijhpeaa.Hdr

attribute [local go_sem] Oper.semAt_some

end Go.Proofs.Ytijggpahijhpeaa.Arp
