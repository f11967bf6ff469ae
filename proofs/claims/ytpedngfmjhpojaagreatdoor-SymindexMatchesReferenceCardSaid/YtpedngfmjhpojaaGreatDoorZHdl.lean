/-
  header.Decode: the fields, of other members.
  header.Decode at every byte slice.
-/
import Derived.Test.YtpedngfmjhpojaaGreatDoorZMc
import Derived.Laws.EntriesVeiled
import Derived.Deep.LoopGhost
import Derived.Test.YtpedngfmjhpojaaGreatDoorZHdk
namespace Go.Proofs.YtpedngfmjhpojaaGreatDoor.Hdr
open Go.RowKit Go.Proofs Go.Proofs.YtpedngfmjhpojaaGreatDoor.Byt Go.Proofs.YtpedngfmjhpojaaGreatDoor.Str Go.Proofs.YtpedngfmjhpojaaGreatDoor.Dec

end Go.Proofs.YtpedngfmjhpojaaGreatDoor.Hdr

namespace Go.Proofs.YtpedngfmjhpojaaGreatDoor.Hdr
open Go.RowKit Go.Proofs Go.Proofs.YtpedngfmjhpojaaGreatDoor.Byt Go.Proofs.YtpedngfmjhpojaaGreatDoor.Str Go.Proofs.YtpedngfmjhpojaaGreatDoor.Dec

end Go.Proofs.YtpedngfmjhpojaaGreatDoor.Hdr
