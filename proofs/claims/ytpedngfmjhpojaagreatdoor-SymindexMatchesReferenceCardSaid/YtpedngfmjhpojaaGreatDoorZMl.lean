/-
  arparse: firstPart at every byte slice. arparse: parts, the iterator over an archive's parts.
-/
import Derived.Test.YtpedngfmjhpojaaGreatDoorZP4o
import Derived.Test.YtpedngfmjhpojaaGreatDoorZLnf
namespace Go.Proofs.YtpedngfmjhpojaaGreatDoor.Arp
open Go.RowKit Go.Proofs Go.Proofs.YtpedngfmjhpojaaGreatDoor.Byt Go.Proofs.YtpedngfmjhpojaaGreatDoor.Dec Go.Proofs.YtpedngfmjhpojaaGreatDoor.Lnm Go.Proofs.YtpedngfmjhpojaaGreatDoor.Hdr

end Go.Proofs.YtpedngfmjhpojaaGreatDoor.Arp

namespace Go.Proofs.YtpedngfmjhpojaaGreatDoor.Arp
open Go.RowKit Go.Shelf Go.Proofs Go.Proofs.YtpedngfmjhpojaaGreatDoor.Byt Go.Proofs.YtpedngfmjhpojaaGreatDoor.Dec Go.Proofs.YtpedngfmjhpojaaGreatDoor.Lnm Go.Proofs.YtpedngfmjhpojaaGreatDoor.Hdr

attribute [local go_sem] Oper.semAt_some

end Go.Proofs.YtpedngfmjhpojaaGreatDoor.Arp
