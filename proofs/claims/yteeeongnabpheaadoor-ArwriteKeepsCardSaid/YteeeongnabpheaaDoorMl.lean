/-
  arparse: firstPart at every byte slice.
  arparse: parts, the iterator over an archive's parts.
-/
import Derived.Test.YteeeongnabpheaaDoorP4o
import Derived.Test.YteeeongnabpheaaDoorLnf
namespace Go.Proofs.YteeeongnabpheaaDoor.Arp
open Go.RowKit Go.Proofs Go.Proofs.YteeeongnabpheaaDoor.Byt Go.Proofs.YteeeongnabpheaaDoor.Dec Go.Proofs.YteeeongnabpheaaDoor.Lnm Go.Proofs.YteeeongnabpheaaDoor.Hdr

end Go.Proofs.YteeeongnabpheaaDoor.Arp

namespace Go.Proofs.YteeeongnabpheaaDoor.Arp
open Go.RowKit Go.Shelf Go.Proofs Go.Proofs.YteeeongnabpheaaDoor.Byt Go.Proofs.YteeeongnabpheaaDoor.Dec Go.Proofs.YteeeongnabpheaaDoor.Lnm Go.Proofs.YteeeongnabpheaaDoor.Hdr

attribute [local go_sem] Oper.semAt_some

/-- Rows of a type stay. -/
def Stay (t : TypeId) (W W' : World) : Prop := ∀ (g : Nat) (cs : Array Value) (m : Nat × Nat), W.heap[g]? = some (Obj.cells cs t m) → W'.heap[g]? = some (Obj.cells cs t m)
theorem Stay.refl (t : TypeId) (W : World) : Stay t W W := fun _ _ _ h => h
theorem Stay.trans {t : TypeId} {a b c : World} (h : Stay t a b) (k : Stay t b c) : Stay t a c := fun g cs m q => k g cs m (h g cs m q)
theorem Stay.below {t : TypeId} {a b : World} (h : Below a.heap.size a b) : Stay t a b := fun g _ _ q => by rw [h.block g (Array.getElem?_eq_some_iff.1 q).1]; exact q
/-- What the iterator hands on for the part at an offset. -/
def encP (A : Option Addr) (c : Nat) (xs : List UInt8) (x : Nat) : Array Value := #[.int .i64 (x : Int), partV (cutp A c x) (c - x) (xs.drop x)]

end Go.Proofs.YteeeongnabpheaaDoor.Arp
