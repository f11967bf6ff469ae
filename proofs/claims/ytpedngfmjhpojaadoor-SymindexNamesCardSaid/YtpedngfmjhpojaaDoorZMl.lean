/-
  arparse: firstPart at every byte slice. arparse: parts, the iterator over an archive's parts.
-/
import Derived.Test.YtpedngfmjhpojaaDoorZP4o
import Derived.Test.YtpedngfmjhpojaaDoorZLnf
namespace Go.Proofs.YtpedngfmjhpojaaDoor.Arp
open Go.RowKit Go.Proofs Go.Proofs.YtpedngfmjhpojaaDoor.Byt Go.Proofs.YtpedngfmjhpojaaDoor.Dec Go.Proofs.YtpedngfmjhpojaaDoor.Lnm Go.Proofs.YtpedngfmjhpojaaDoor.Hdr

end Go.Proofs.YtpedngfmjhpojaaDoor.Arp

namespace Go.Proofs.YtpedngfmjhpojaaDoor.Arp
open Go.RowKit Go.Shelf Go.Proofs Go.Proofs.YtpedngfmjhpojaaDoor.Byt Go.Proofs.YtpedngfmjhpojaaDoor.Dec Go.Proofs.YtpedngfmjhpojaaDoor.Lnm Go.Proofs.YtpedngfmjhpojaaDoor.Hdr

attribute [local go_sem] Oper.semAt_some

end Go.Proofs.YtpedngfmjhpojaaDoor.Arp
