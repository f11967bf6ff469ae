/-
  The reference's Decode: a number read, and what stands before the fields. The reference's Decode: the errors before the fields. The reference's Decode: the fields.
-/
import Derived.Test.YtpedngfmjhpojaaGreatDoorYMf
import Derived.Test.YtpedngfmjhpojaaGreatDoorYHdl
import Derived.Deep.LoopGhost
namespace Go.Proofs.YtpedngfmjhpojaaGreatDoor.Hdr
open Go.RowKit Go.Proofs Go.Proofs.YtpedngfmjhpojaaGreatDoor.Byt Go.Proofs.YtpedngfmjhpojaaGreatDoor.Str Go.Proofs.YtpedngfmjhpojaaGreatDoor.Dec

/-- Which fields have been read well. -/
def okc (l : List UInt8) (k j : Nat) : Bool := if j < k then (rdF (isTab (nm l)) j (part l j)).isSome else false
def okcells (l : List UInt8) (k : Nat) : Array Value := #[.bool (okc l k 0), .bool (okc l k 1), .bool (okc l k 2), .bool (okc l k 3), .bool (okc l k 4)]
end Go.Proofs.YtpedngfmjhpojaaGreatDoor.Hdr

namespace Go.Proofs.YtpedngfmjhpojaaGreatDoor.Hdr
open Go.RowKit Go.Proofs Go.Proofs.YtpedngfmjhpojaaGreatDoor.Byt Go.Proofs.YtpedngfmjhpojaaGreatDoor.Str Go.Proofs.YtpedngfmjhpojaaGreatDoor.Dec

end Go.Proofs.YtpedngfmjhpojaaGreatDoor.Hdr

namespace Go.Proofs.YtpedngfmjhpojaaGreatDoor.Hdr
open Go.RowKit Go.Proofs Go.Proofs.YtpedngfmjhpojaaGreatDoor.Byt Go.Proofs.YtpedngfmjhpojaaGreatDoor.Str Go.Proofs.YtpedngfmjhpojaaGreatDoor.Dec

/-- After k fields: the three blocks that the call has laid. -/
structure RS (w : World) (l : List UInt8) (k : Nat) (W : World) : Prop where
  res : W.heap[w.heap.size]? = some (.cells #[.string ⟨#[]⟩, .int .i64 0, .int .i64 0, .int .i64 0, .int .i64 0, .int .i64 0] 100 (0, 0))
  hdr : W.heap[w.heap.size + 1]? = some (.cells (hcells l k) 100 (0, 0))
  oks : W.heap[w.heap.size + 2]? = some (.cells (okcells l k) 4 (0, 0))
  bel : Below w.heap.size w W
theorem RS.size {w W : World} {l : List UInt8} {k : Nat} (h : RS w l k W) : w.heap.size + 2 < W.heap.size := (Array.getElem?_eq_some_iff.1 h.oks).1
theorem RS.call {w W W' : World} {l : List UInt8} {k : Nat} (h : RS w l k W) (hb : Below W.heap.size W W') : RS w l k W' := by
  have hz := h.size
  exact ⟨(hb.block _ (by omega)).trans h.res, (hb.block _ (by omega)).trans h.hdr, (hb.block _ (by omega)).trans h.oks, h.bel.trans (hb.mono (by omega))⟩
end Go.Proofs.YtpedngfmjhpojaaGreatDoor.Hdr
