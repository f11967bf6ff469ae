/-
  The mathematics of names and of the table of long names: no program in it. longname: Valid and Short, and the reference's. What the library's tables hold; strconv.Itoa, bytes.Cut; longname's firstName. longname: the offset in a field; whether a name begins there. longname: Resolve.
-/
import Derived.Test.YtijggpahijhpeaaZMa
import Derived.Lib.IndexMore
import Derived.Lib.IndexAny
import Derived.Lib.Strings
import Derived.Lib.ItoaNum
import Derived.Test.YtijggpahijhpeaaZMg
import Derived.Test.YtijggpahijhpeaaZShelf
import Derived.Lib.LaidTab
import Derived.Lib.ItoaMem
namespace Go.Proofs.Ytijggpahijhpeaa.Lnm
open Go.Proofs.Ytijggpahijhpeaa.Dec

/-- The bytes of a string; the string of bytes. -/
def bts (s : ByteArray) : List UInt8 := s.data.toList
def str (l : List UInt8) : ByteArray := ⟨l.toArray⟩
theorem str_bts (s : ByteArray) : str (bts s) = s := by cases s; simp [bts, str]
theorem bts_inj {a b : ByteArray} (h : bts a = bts b) : a = b := by rw [← str_bts a, ← str_bts b, h]
/-- A byte that a name may have. -/
def okB (c : UInt8) : Bool := c != 47 && (c != 10 && c != 0)
/-- The bytes of a name. -/
def vld (l : List UInt8) : Bool := decide (1 ≤ l.length) && (decide (l.length ≤ 255) && l.all okB)
/-- The bytes of a short name. -/
def sht (l : List UInt8) : Bool := vld l && (decide (l.length ≤ 15) && !Lib.hasSuffix l [32])
/-- The table of names. -/
def tab : List ByteArray → List UInt8
  | [] => []
  | n :: r => bts n ++ ([47, 10] ++ tab r)
/-- All are names. -/
def allV (ns : List ByteArray) : Bool := ns.all fun n => vld (bts n)
def longs (ns : List ByteArray) : List ByteArray := ns.filter fun n => !sht (bts n)
/-- The name at the front, if there is one. -/
def first (l : List UInt8) : List UInt8 := if 0 ≤ Lib.index l [47, 10] ∧ vld (l.take (Lib.index l [47, 10]).toNat) = true then l.take (Lib.index l [47, 10]).toNat else []

/-- The names of a table, up to the first entry that is none: an empty one stands for it. -/
def seq (l : List UInt8) : List ByteArray :=
  if h0 : l = [] then [] else if first l = [] then [str []] else str (first l) :: seq (l.drop ((first l).length + 2))
termination_by l.length
decreasing_by
  have : 0 < l.length := List.length_pos_iff.2 h0
  rw [List.length_drop]
  omega
/-- The table is one. -/
def good (l : List UInt8) : Bool := (seq l).all fun n => n.size != 0
end Go.Proofs.Ytijggpahijhpeaa.Lnm

namespace Go.Proofs.Ytijggpahijhpeaa.Lnm
open Go.RowKit Go.Proofs Go.Proofs.Ytijggpahijhpeaa.Byt Go.Proofs.Ytijggpahijhpeaa.Str3 Go.Proofs.Ytijggpahijhpeaa.Dec

/-- The first i bytes may be in a name. -/
def OkTo (l : List UInt8) (i : Nat) : Prop := ∀ c ∈ l.take i, okB c = true
theorem OkTo.succ {l : List UInt8} {i : Nat} {c : UInt8} (h : OkTo l i) (h2 : l[i]? = some c) (h3 : okB c = true) : OkTo l (i + 1) := by
  obtain ⟨hi, rfl⟩ := List.getElem?_eq_some_iff.1 h2
  unfold OkTo at h ⊢
  rw [List.take_succ_eq_append_getElem hi]
  intro c hc
  rcases List.mem_append.1 hc with hc | hc
  · exact h c hc
  · rw [List.mem_singleton] at hc; rw [hc]; exact h3

end Go.Proofs.Ytijggpahijhpeaa.Lnm

namespace Go.Proofs.Ytijggpahijhpeaa.Lnm
open Go.RowKit Go.Proofs Go.Proofs.Ytijggpahijhpeaa.Byt Go.Proofs.Ytijggpahijhpeaa.Str3 Go.Proofs.Ytijggpahijhpeaa.Dec

/-- Bytes as numbers. -/
def nums (l : List UInt8) : List Int := l.map fun c => (c.toNat : Int)
theorem nums_length (l : List UInt8) : (nums l).length = l.length := by simp [nums]
theorem nums_at {l : List UInt8} {i : Nat} (h : i < l.length) : (nums l).getD i 0 = (l[i].toNat : Int) := by
  unfold nums
  simp [List.getD_eq_getElem?_getD, List.getElem?_eq_getElem h]
end Go.Proofs.Ytijggpahijhpeaa.Lnm

namespace Go.Proofs.Ytijggpahijhpeaa.Lnm
open Go.RowKit Go.Proofs Go.Proofs.Ytijggpahijhpeaa.Byt Go.Proofs.Ytijggpahijhpeaa.Str3 Go.Proofs.Ytijggpahijhpeaa.Dec

/-- Whether an entry begins at k. -/
def beg (l : List UInt8) (k : Nat) : Bool := decide (k < l.length) && (k == 0 || l[k - 1]? == some 10)

/-- The offset in a field. -/
def poff : List UInt8 → Option Nat
  | 47 :: d => if d.length ≤ 15 then (match parse 10 d with | some n => if nd 10 n = d.length then some n else none | none => none) else none
  | _ => none
/-- What Poff gives. -/
def pk (o : Option Nat) : Int := match o with | some k => (k : Int) | none => 0

end Go.Proofs.Ytijggpahijhpeaa.Lnm

namespace Go.Proofs.Ytijggpahijhpeaa.Lnm
open Go.RowKit Go.Proofs Go.Proofs.Ytijggpahijhpeaa.Byt Go.Proofs.Ytijggpahijhpeaa.Str3 Go.Proofs.Ytijggpahijhpeaa.Dec

/-- The short name in a field. -/
def shortOf (f : List UInt8) : Option ByteArray := if Lib.hasSuffix f [47] = true ∧ sht (Lib.trimSuffix f [47]) = true then some (str (Lib.trimSuffix f [47])) else none
/-- The name at an offset. -/
def longAt (f l : List UInt8) : Option ByteArray := match poff f with | some k => if beg l k = true ∧ first (l.drop k) ≠ [] then some (str (first (l.drop k))) else none | none => none
/-- What Resolve gives. -/
def resv (f l : List UInt8) : Option ByteArray := match shortOf f with | some n => some n | none => longAt f l
def rs (o : Option ByteArray) : ByteArray := match o with | some s => s | none => ⟨#[]⟩
def re (o : Option ByteArray) : Int := match o with | some _ => 0 | none => 6

end Go.Proofs.Ytijggpahijhpeaa.Lnm
