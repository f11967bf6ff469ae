/-
  What the laws of arparse want of slices of members and of numbers: append of a slice that is read; the header of an appended member.
-/
import Derived.Test.YtijggpahijhpeaaZMn
import Derived.Test.YtijggpahijhpeaaZOa
import Derived.Test.YtijggpahijhpeaaZMk
namespace Go.Proofs.Ytijggpahijhpeaa.Arp
open Go.RowKit Go.Proofs Go.Proofs.Ytijggpahijhpeaa.Byt Go.Proofs.Ytijggpahijhpeaa.Dec Go.Proofs.Ytijggpahijhpeaa.Lnm Go.Proofs.Ytijggpahijhpeaa.Hdr
theorem mcells_one : ∀ xs : List Mem, ∀ u ∈ mcells xs, u.oneCell' = true
  | [], u, h => by simp [mcells] at h
  | x :: r, u, h => by
    rw [mcells, List.mem_append] at h
    rcases h with h | h
    · simp only [List.mem_cons, List.not_mem_nil, or_false] at h
      rcases h with rfl | rfl | rfl | rfl | rfl | rfl <;> rfl
    · exact mcells_one r u h
end Go.Proofs.Ytijggpahijhpeaa.Arp
