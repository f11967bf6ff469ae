/-
  What was parsed from any bytes can be written (mathematics).
-/
import Derived.Test.YtjobmkodgodloaaGreatDoorZWr
import Derived.Test.YtjobmkodgodloaaGreatDoorZWp
namespace Go.Proofs.YtjobmkodgodloaaGreatDoor.Arw
open Go.RowKit Go.Proofs Go.Proofs.YtjobmkodgodloaaGreatDoor.Byt Go.Proofs.YtjobmkodgodloaaGreatDoor.Dec Go.Proofs.YtjobmkodgodloaaGreatDoor.Lnm Go.Proofs.YtjobmkodgodloaaGreatDoor.Hdr Go.Proofs.YtjobmkodgodloaaGreatDoor.Arp

end Go.Proofs.YtjobmkodgodloaaGreatDoor.Arw
