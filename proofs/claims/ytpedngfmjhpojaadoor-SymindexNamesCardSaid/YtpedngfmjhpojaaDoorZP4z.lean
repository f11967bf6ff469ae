/-
  What the laws of arparse want of slices of members and of numbers: append of a slice that is read; the header of an appended member.
-/
import Derived.Test.YtpedngfmjhpojaaDoorZMn
import Derived.Test.YtpedngfmjhpojaaDoorZOa
import Derived.Test.YtpedngfmjhpojaaDoorZMk
namespace Go.Proofs.YtpedngfmjhpojaaDoor.Arp
open Go.RowKit Go.Proofs Go.Proofs.YtpedngfmjhpojaaDoor.Byt Go.Proofs.YtpedngfmjhpojaaDoor.Dec Go.Proofs.YtpedngfmjhpojaaDoor.Lnm Go.Proofs.YtpedngfmjhpojaaDoor.Hdr
end Go.Proofs.YtpedngfmjhpojaaDoor.Arp
