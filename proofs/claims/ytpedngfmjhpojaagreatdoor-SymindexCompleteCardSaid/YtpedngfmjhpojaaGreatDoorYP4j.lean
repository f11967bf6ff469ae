/-
  b[from:to] of a byte slice, wherever its bounds lie (at the capacity, too).
-/
import Derived.Test.YtpedngfmjhpojaaGreatDoorYMa
namespace Go.Proofs.YtpedngfmjhpojaaGreatDoor.Byt
open Go.RowKit Go.Proofs

end Go.Proofs.YtpedngfmjhpojaaGreatDoor.Byt
