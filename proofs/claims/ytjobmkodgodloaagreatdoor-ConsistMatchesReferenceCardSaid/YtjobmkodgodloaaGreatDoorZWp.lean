/-
  arparse's reference: Copy; what of members counts for an archive.
-/
import Derived.Test.YtjobmkodgodloaaGreatDoorZWm
import Derived.Test.YtjobmkodgodloaaGreatDoorZWs
namespace Go.Proofs.YtjobmkodgodloaaGreatDoor.Arw
open Go.RowKit Go.Proofs Go.Proofs.YtjobmkodgodloaaGreatDoor.Byt Go.Proofs.YtjobmkodgodloaaGreatDoor.Dec Go.Proofs.YtjobmkodgodloaaGreatDoor.Lnm Go.Proofs.YtjobmkodgodloaaGreatDoor.Hdr Go.Proofs.YtjobmkodgodloaaGreatDoor.Arp
open Go.Proofs.YtjobmkodgodloaaGreatDoor.Sls (Fr blk Oth)

def core (x : Mem) : Mem := { x with ptr := none, cap := 0 }
theorem fitsM_core (x : Mem) : fitsM (core x) = fitsM x := rfl
theorem fitL_core : ∀ (k : Nat) (xs : List Mem), fitL k (xs.map core) = fitL k xs
 | _, [] => rfl
 | k, x :: r => by
   rw [List.map_cons, fitL, fitL, fitsM_core, fitL_core (k + 1) r]
end Go.Proofs.YtjobmkodgodloaaGreatDoor.Arw
