/-
  header.Decode: the fields, of the table of long names.
-/
import Derived.Test.YtpedngfmjhpojaaGreatDoorZMc
import Derived.Laws.EntriesVeiled
import Derived.Deep.LoopGhost
namespace Go.Proofs.YtpedngfmjhpojaaGreatDoor.Hdr
open Go.RowKit Go.Proofs Go.Proofs.YtpedngfmjhpojaaGreatDoor.Byt Go.Proofs.YtpedngfmjhpojaaGreatDoor.Str Go.Proofs.YtpedngfmjhpojaaGreatDoor.Dec

end Go.Proofs.YtpedngfmjhpojaaGreatDoor.Hdr
