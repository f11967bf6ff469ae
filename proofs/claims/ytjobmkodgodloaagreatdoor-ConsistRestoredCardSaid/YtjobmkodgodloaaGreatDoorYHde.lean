/-
  header.Encode at every header: a Name that does not fit; the table of long names.
  header.Encode at every header: other Names.
  header.Encode and header.Fits at every header; the header of the reference turned into a header.
-/
import Derived.Test.YtjobmkodgodloaaGreatDoorYMb
import Derived.Laws.EntriesVeiled
import Derived.Deep.LoopGhost
namespace Go.Proofs.YtjobmkodgodloaaGreatDoor.Hdr
open Go.RowKit Go.Proofs Go.Proofs.YtjobmkodgodloaaGreatDoor.Byt Go.Proofs.YtjobmkodgodloaaGreatDoor.Str Go.Proofs.YtjobmkodgodloaaGreatDoor.Dec

end Go.Proofs.YtjobmkodgodloaaGreatDoor.Hdr

namespace Go.Proofs.YtjobmkodgodloaaGreatDoor.Hdr
open Go.RowKit Go.Proofs Go.Proofs.YtjobmkodgodloaaGreatDoor.Byt Go.Proofs.YtjobmkodgodloaaGreatDoor.Str Go.Proofs.YtjobmkodgodloaaGreatDoor.Dec

end Go.Proofs.YtjobmkodgodloaaGreatDoor.Hdr

namespace Go.Proofs.YtjobmkodgodloaaGreatDoor.Hdr
open Go.RowKit Go.Proofs Go.Proofs.YtjobmkodgodloaaGreatDoor.Byt Go.Proofs.YtjobmkodgodloaaGreatDoor.Str Go.Proofs.YtjobmkodgodloaaGreatDoor.Dec

end Go.Proofs.YtjobmkodgodloaaGreatDoor.Hdr
