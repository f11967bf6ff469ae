/-
  The mathematics of names and of the table of long names: no program in it. longname: Valid and Short, and the reference's. What the library's tables hold; strconv.Itoa, bytes.Cut; longname's firstName. longname: the offset in a field; whether a name begins there. longname: Resolve.
-/
import Derived.Test.YtndjnmeblpjlhaaDoorYMa
import Derived.Lib.IndexMore
import Derived.Lib.IndexAny
import Derived.Lib.Strings
import Derived.Lib.ItoaNum
import Derived.Test.YtndjnmeblpjlhaaDoorYMg
import Derived.Test.YtndjnmeblpjlhaaDoorYShelf2
import Derived.Lib.LaidTab
import Derived.Lib.ItoaMem
namespace Go.Proofs.YtndjnmeblpjlhaaDoor.Lnm
open Go.Proofs.YtndjnmeblpjlhaaDoor.Dec

/-- The bytes of a string; the string of bytes. -/
def bts (s : ByteArray) : List UInt8 := s.data.toList
def str (l : List UInt8) : ByteArray := ⟨l.toArray⟩
theorem str_bts (s : ByteArray) : str (bts s) = s := by cases s; simp [bts, str]
theorem bts_inj {a b : ByteArray} (h : bts a = bts b) : a = b := by rw [← str_bts a, ← str_bts b, h]
/-- A byte that a name may have. -/
def okB (c : UInt8) : Bool := c != 47 && (c != 10 && c != 0)
end Go.Proofs.YtndjnmeblpjlhaaDoor.Lnm

namespace Go.Proofs.YtndjnmeblpjlhaaDoor.Lnm
open Go.RowKit Go.Proofs Go.Proofs.YtndjnmeblpjlhaaDoor.Byt Go.Proofs.YtndjnmeblpjlhaaDoor.Str3 Go.Proofs.YtndjnmeblpjlhaaDoor.Dec

/-- The first i bytes may be in a name. -/
def OkTo (l : List UInt8) (i : Nat) : Prop := ∀ c ∈ l.take i, okB c = true
theorem OkTo.succ {l : List UInt8} {i : Nat} {c : UInt8} (h : OkTo l i) (h2 : l[i]? = some c) (h3 : okB c = true) : OkTo l (i + 1) := by
  obtain ⟨hi, rfl⟩ := List.getElem?_eq_some_iff.1 h2
  unfold OkTo at h ⊢
  rw [List.take_succ_eq_append_getElem hi]
  intro c hc
  rcases List.mem_append.1 hc with hc | hc
  · exact h c hc
  · rw [List.mem_singleton] at hc; rw [hc]; exact h3

end Go.Proofs.YtndjnmeblpjlhaaDoor.Lnm

namespace Go.Proofs.YtndjnmeblpjlhaaDoor.Lnm
open Go.RowKit Go.Proofs Go.Proofs.YtndjnmeblpjlhaaDoor.Byt Go.Proofs.YtndjnmeblpjlhaaDoor.Str3 Go.Proofs.YtndjnmeblpjlhaaDoor.Dec

end Go.Proofs.YtndjnmeblpjlhaaDoor.Lnm

namespace Go.Proofs.YtndjnmeblpjlhaaDoor.Lnm
open Go.RowKit Go.Proofs Go.Proofs.YtndjnmeblpjlhaaDoor.Byt Go.Proofs.YtndjnmeblpjlhaaDoor.Str3 Go.Proofs.YtndjnmeblpjlhaaDoor.Dec

end Go.Proofs.YtndjnmeblpjlhaaDoor.Lnm

namespace Go.Proofs.YtndjnmeblpjlhaaDoor.Lnm
open Go.RowKit Go.Proofs Go.Proofs.YtndjnmeblpjlhaaDoor.Byt Go.Proofs.YtndjnmeblpjlhaaDoor.Str3 Go.Proofs.YtndjnmeblpjlhaaDoor.Dec

def rs (o : Option ByteArray) : ByteArray := match o with | some s => s | none => ⟨#[]⟩
end Go.Proofs.YtndjnmeblpjlhaaDoor.Lnm
