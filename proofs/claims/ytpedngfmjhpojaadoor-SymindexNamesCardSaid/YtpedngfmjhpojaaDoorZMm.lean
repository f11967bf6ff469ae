/-
  arparse: the collector in memory; addMap, addTable. arparse: what the parsing turns; addMember. arparse: add. arparse: Is.
-/
import Derived.Test.YtpedngfmjhpojaaDoorZMk
import Derived.Test.YtpedngfmjhpojaaDoorZLnf
import Derived.Test.YtpedngfmjhpojaaDoorZP4o
import Derived.Test.YtpedngfmjhpojaaDoorZMg
import Derived.Deep.AppendLies
namespace Go.Proofs.YtpedngfmjhpojaaDoor.Arp
open Go.RowKit Go.Proofs Go.Proofs.YtpedngfmjhpojaaDoor.Byt Go.Proofs.YtpedngfmjhpojaaDoor.Dec Go.Proofs.YtpedngfmjhpojaaDoor.Lnm Go.Proofs.YtpedngfmjhpojaaDoor.Hdr

end Go.Proofs.YtpedngfmjhpojaaDoor.Arp

namespace Go.Proofs.YtpedngfmjhpojaaDoor.Arp
open Go.RowKit Go.Proofs Go.Proofs.YtpedngfmjhpojaaDoor.Byt Go.Proofs.YtpedngfmjhpojaaDoor.Dec Go.Proofs.YtpedngfmjhpojaaDoor.Lnm Go.Proofs.YtpedngfmjhpojaaDoor.Hdr
open Go.Proofs.YtpedngfmjhpojaaDoor.Sls (Oth Fr)

end Go.Proofs.YtpedngfmjhpojaaDoor.Arp

namespace Go.Proofs.YtpedngfmjhpojaaDoor.Arp
open Go.RowKit Go.Proofs Go.Proofs.YtpedngfmjhpojaaDoor.Byt Go.Proofs.YtpedngfmjhpojaaDoor.Dec Go.Proofs.YtpedngfmjhpojaaDoor.Lnm Go.Proofs.YtpedngfmjhpojaaDoor.Hdr

end Go.Proofs.YtpedngfmjhpojaaDoor.Arp

namespace Go.Proofs.YtpedngfmjhpojaaDoor.Arp
open Go.RowKit Go.Proofs Go.Proofs.YtpedngfmjhpojaaDoor.Byt Go.Proofs.YtpedngfmjhpojaaDoor.Dec Go.Proofs.YtpedngfmjhpojaaDoor.Lnm

end Go.Proofs.YtpedngfmjhpojaaDoor.Arp
