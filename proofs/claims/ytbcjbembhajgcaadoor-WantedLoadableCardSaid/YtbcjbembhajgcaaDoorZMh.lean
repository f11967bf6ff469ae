/-
  The mathematics of names and of the table of long names: no program in it. longname: Valid and Short, and the reference's. What the library's tables hold; strconv.Itoa, bytes.Cut; longname's firstName. longname: the offset in a field; whether a name begins there. longname: Resolve.
-/
import Derived.Test.YtbcjbembhajgcaaDoorZMa
import Derived.Lib.IndexMore
import Derived.Lib.IndexAny
import Derived.Lib.Strings
import Derived.Lib.ItoaNum
import Derived.Test.YtbcjbembhajgcaaDoorZMg
import Derived.Test.YtbcjbembhajgcaaDoorZShelf2
import Derived.Lib.LaidTab
import Derived.Lib.ItoaMem
namespace Go.Proofs.YtbcjbembhajgcaaDoor.Lnm
open Go.Proofs.YtbcjbembhajgcaaDoor.Dec

/-- A byte that a name may have. -/
def okB (c : UInt8) : Bool := c != 47 && (c != 10 && c != 0)
end Go.Proofs.YtbcjbembhajgcaaDoor.Lnm

namespace Go.Proofs.YtbcjbembhajgcaaDoor.Lnm
open Go.RowKit Go.Proofs Go.Proofs.YtbcjbembhajgcaaDoor.Byt Go.Proofs.YtbcjbembhajgcaaDoor.Str3 Go.Proofs.YtbcjbembhajgcaaDoor.Dec

/-- The first i bytes may be in a name. -/
def OkTo (l : List UInt8) (i : Nat) : Prop := ∀ c ∈ l.take i, okB c = true
theorem OkTo.succ {l : List UInt8} {i : Nat} {c : UInt8} (h : OkTo l i) (h2 : l[i]? = some c) (h3 : okB c = true) : OkTo l (i + 1) := by
  obtain ⟨hi, rfl⟩ := List.getElem?_eq_some_iff.1 h2
  unfold OkTo at h ⊢
  rw [List.take_succ_eq_append_getElem hi]
  intro c hc
  rcases List.mem_append.1 hc with hc | hc
  · exact h c hc
  · rw [List.mem_singleton] at hc; rw [hc]; exact h3

end Go.Proofs.YtbcjbembhajgcaaDoor.Lnm

namespace Go.Proofs.YtbcjbembhajgcaaDoor.Lnm
open Go.RowKit Go.Proofs Go.Proofs.YtbcjbembhajgcaaDoor.Byt Go.Proofs.YtbcjbembhajgcaaDoor.Str3 Go.Proofs.YtbcjbembhajgcaaDoor.Dec

end Go.Proofs.YtbcjbembhajgcaaDoor.Lnm

namespace Go.Proofs.YtbcjbembhajgcaaDoor.Lnm
open Go.RowKit Go.Proofs Go.Proofs.YtbcjbembhajgcaaDoor.Byt Go.Proofs.YtbcjbembhajgcaaDoor.Str3 Go.Proofs.YtbcjbembhajgcaaDoor.Dec

end Go.Proofs.YtbcjbembhajgcaaDoor.Lnm

namespace Go.Proofs.YtbcjbembhajgcaaDoor.Lnm
open Go.RowKit Go.Proofs Go.Proofs.YtbcjbembhajgcaaDoor.Byt Go.Proofs.YtbcjbembhajgcaaDoor.Str3 Go.Proofs.YtbcjbembhajgcaaDoor.Dec

def rs (o : Option ByteArray) : ByteArray := match o with | some s => s | none => ⟨#[]⟩
end Go.Proofs.YtbcjbembhajgcaaDoor.Lnm
