/-
  What the laws of arparse want of slices of members and of numbers: append of a slice that is read; the header of an appended member.
-/
import Derived.Test.YtpedngfmjhpojaaGreatDoorZMn
import Derived.Test.YtpedngfmjhpojaaGreatDoorZOa
import Derived.Test.YtpedngfmjhpojaaGreatDoorZMk
namespace Go.Proofs.YtpedngfmjhpojaaGreatDoor.Arp
open Go.RowKit Go.Proofs Go.Proofs.YtpedngfmjhpojaaGreatDoor.Byt Go.Proofs.YtpedngfmjhpojaaGreatDoor.Dec Go.Proofs.YtpedngfmjhpojaaGreatDoor.Lnm Go.Proofs.YtpedngfmjhpojaaGreatDoor.Hdr
end Go.Proofs.YtpedngfmjhpojaaGreatDoor.Arp
