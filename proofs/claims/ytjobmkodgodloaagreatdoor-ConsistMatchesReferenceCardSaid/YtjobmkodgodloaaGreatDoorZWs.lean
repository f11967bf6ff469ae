/-
  The frame of the laws of arwrite: members as arguments.
-/
import Derived.Test.YtjobmkodgodloaaGreatDoorZMo
import Derived.Test.YtjobmkodgodloaaGreatDoorZWa
import Derived.Deep.Fields
import Derived.Deep.Slices
namespace Go.Proofs.YtjobmkodgodloaaGreatDoor.Frame
open Go.ChangeShapes Go.WideShapes Go.ChangeAt Go.RowKit Go.Proofs Go.Deep
set_option maxRecDepth 100000

def MB (x : Arp.Mem) : Prop := x.name.size ≤ maxLen ∧ (-9223372036854775808 ≤ x.time ∧ x.time < 9223372036854775808) ∧ (-9223372036854775808 ≤ x.uid ∧ x.uid < 9223372036854775808) ∧ (-9223372036854775808 ≤ x.gid ∧ x.gid < 9223372036854775808) ∧ (-9223372036854775808 ≤ x.mode ∧ x.mode < 9223372036854775808) ∧ (x.len ≤ x.cap ∧ x.cap ≤ maxLen)
theorem MB.cap {x : Arp.Mem} (h : MB x) : x.len ≤ x.cap ∧ x.cap ≤ maxLen := h.2.2.2.2.2
theorem MB.ok {x : Arp.Mem} (h : MB x) (h1 : x.name.size ≤ 300) (h2 : x.len ≤ 1000) : Arw.MOk x := ⟨h1, h2, h.2.1.2, h.2.2.1.2, h.2.2.2.1.2, h.2.2.2.2.1.2⟩
end Go.Proofs.YtjobmkodgodloaaGreatDoor.Frame
