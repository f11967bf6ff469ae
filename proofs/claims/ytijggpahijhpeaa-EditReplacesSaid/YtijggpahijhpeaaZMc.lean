/-
  What header.Decode gives: the plain mathematics. header.Decode: the errors before the fields. header.Decode: what a round needs, and what is in memory. Encoding and decoding undo each other: the plain mathematics.
-/
import Derived.Test.YtijggpahijhpeaaZMb
import Derived.Lib.TrimByte
import Derived.Laws.EntriesVeiled
import Derived.Deep.LoopGhost
namespace Go.Proofs.Ytijggpahijhpeaa.Hdr
open Go.RowKit Go.Proofs Go.Proofs.Ytijggpahijhpeaa.Byt Go.Proofs.Ytijggpahijhpeaa.Str Go.Proofs.Ytijggpahijhpeaa.Dec

/-- The bytes of a field. -/
def part (l : List UInt8) (k : Nat) : List UInt8 := (l.drop (off k)).take (wd k)
/-- A field read. -/
def rdF (tab : Bool) (k : Nat) (x : List UInt8) : Option Nat := if (mo k && tab) = true then (if spaces x = true then some 0 else none) else parse (bs k) x
/-- The name field without trailing spaces. -/
def nm (l : List UInt8) : ByteArray := ⟨(Lib.trimRightB (l.take 16) 32).toArray⟩
/-- The fields up to one are well formed. -/
def allRd (l : List UInt8) : Nat → Bool
  | 0 => true
  | k + 1 => allRd l k && (rdF (isTab (nm l)) k (part l k)).isSome
/-- The error number of Decode. -/
def derr (l : List UInt8) : Int :=
  if l.length < 60 then 2 else if (l.drop 58).take 2 ≠ [96, 10] then 4 else if nameOk (nm l) = false then 6 else if allRd l 5 = false then 3 else 0
/-- The name and the numbers of Decode. -/
def dname (l : List UInt8) : ByteArray := if derr l = 0 then nm l else ⟨#[]⟩
def dnum (l : List UInt8) (k : Nat) : Int := if derr l = 0 then (((rdF (isTab (nm l)) k (part l k)).getD 0 : Nat) : Int) else 0

end Go.Proofs.Ytijggpahijhpeaa.Hdr

namespace Go.Proofs.Ytijggpahijhpeaa.Hdr
open Go.RowKit Go.Proofs Go.Proofs.Ytijggpahijhpeaa.Byt Go.Proofs.Ytijggpahijhpeaa.Str Go.Proofs.Ytijggpahijhpeaa.Dec

end Go.Proofs.Ytijggpahijhpeaa.Hdr

namespace Go.Proofs.Ytijggpahijhpeaa.Hdr
open Go.RowKit Go.Proofs Go.Proofs.Ytijggpahijhpeaa.Byt Go.Proofs.Ytijggpahijhpeaa.Str Go.Proofs.Ytijggpahijhpeaa.Dec

end Go.Proofs.Ytijggpahijhpeaa.Hdr

namespace Go.Proofs.Ytijggpahijhpeaa.Hdr
open Go.RowKit Go.Proofs Go.Proofs.Ytijggpahijhpeaa.Byt Go.Proofs.Ytijggpahijhpeaa.Str Go.Proofs.Ytijggpahijhpeaa.Dec

end Go.Proofs.Ytijggpahijhpeaa.Hdr
