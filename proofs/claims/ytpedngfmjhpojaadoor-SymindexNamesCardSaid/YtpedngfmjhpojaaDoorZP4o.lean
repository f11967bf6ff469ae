/-
  arparse: paddedSize, firstPart.
-/
import Derived.Test.YtpedngfmjhpojaaDoorZMk
import Derived.Test.YtpedngfmjhpojaaDoorZHdl
import Derived.BigQuiet
namespace Go.Proofs.YtpedngfmjhpojaaDoor.Arp
open Go.RowKit Go.Proofs Go.Proofs.YtpedngfmjhpojaaDoor.Byt Go.Proofs.YtpedngfmjhpojaaDoor.Dec Go.Proofs.YtpedngfmjhpojaaDoor.Lnm Go.Proofs.YtpedngfmjhpojaaDoor.Hdr

end Go.Proofs.YtpedngfmjhpojaaDoor.Arp
