/-
  arparse's reference: Copy; what of members counts for an archive.
-/
import Derived.Test.YtpedngfmjhpojaaGreatDoorYWm
import Derived.Test.YtpedngfmjhpojaaGreatDoorYWs
namespace Go.Proofs.YtpedngfmjhpojaaGreatDoor.Arw
open Go.RowKit Go.Proofs Go.Proofs.YtpedngfmjhpojaaGreatDoor.Byt Go.Proofs.YtpedngfmjhpojaaGreatDoor.Dec Go.Proofs.YtpedngfmjhpojaaGreatDoor.Lnm Go.Proofs.YtpedngfmjhpojaaGreatDoor.Hdr Go.Proofs.YtpedngfmjhpojaaGreatDoor.Arp
open Go.Proofs.YtpedngfmjhpojaaGreatDoor.Sls (Fr blk Oth)

/-- A member but for where its data lies. -/
def core (x : Mem) : Mem := { x with ptr := none, cap := 0 }
theorem fitsM_core (x : Mem) : fitsM (core x) = fitsM x := rfl
theorem fitL_core : ∀ (k : Nat) (xs : List Mem), fitL k (xs.map core) = fitL k xs
  | _, [] => rfl
  | k, x :: r => by
    rw [List.map_cons, fitL, fitL, fitsM_core, fitL_core (k + 1) r]
theorem nms_core (xs : List Mem) : nms (xs.map core) = nms xs := by unfold nms; rw [List.map_map]; rfl
theorem offAt_core (o : Nat) (xs : List Mem) (k : Nat) : offAt o (xs.map core) k = offAt o xs k := by
  unfold offAt
  rw [← List.map_take, List.map_map]
  rfl
theorem base_core (hm : Bool) (ms : Nat) (xs : List Mem) : base hm ms (xs.map core) = base hm ms xs := by
  unfold base
  rw [nms_core]
theorem offL_core (o : Nat) (xs : List Mem) : offL o (xs.map core) = offL o xs := by
  unfold offL
  rw [List.length_map]
  exact List.map_congr_left fun k _ => offAt_core o xs k
end Go.Proofs.YtpedngfmjhpojaaGreatDoor.Arw
