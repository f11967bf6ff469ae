/-
  append of a string's bytes onto a byte slice of the call's own. strings.IndexRune in the two bytes 10, 0, at a rune beyond ASCII: it is not there. strings.ContainsAny at the two bytes 10, 0: whether one of them is among the bytes of a string, whatever its bytes are. The small functions of header and of its reference: which names fit, spaces, the descriptions of the fields. The descriptions of the fields, and the functions in them. Spaces appended, spaces made, the variables of the fields, and which names fit by the reference. What header.Encode gives: the plain mathematics.
-/
import Derived.Test.YtbcjbembhajgcaaDoorZMa
import Derived.Lib.AppendStr
import Derived.Test.YtbcjbembhajgcaaDoorZShelf
import Derived.Laws.Runes
import Derived.Laws.RangeAny
import Derived.Deep.LoopGhost
import Derived.Lib.DecodeN
import Derived.Deep.WholeRow
import Derived.Deep.Cut
namespace Go.Proofs.YtbcjbembhajgcaaDoor.Byt
open Go.RowKit Go.Proofs

end Go.Proofs.YtbcjbembhajgcaaDoor.Byt

namespace Go.Proofs.YtbcjbembhajgcaaDoor.Str
open Go.RowKit Go.Proofs Go.Proofs.YtbcjbembhajgcaaDoor.Byt

end Go.Proofs.YtbcjbembhajgcaaDoor.Str

namespace Go.Proofs.YtbcjbembhajgcaaDoor.Str
open Go.RowKit Go.Proofs Go.Proofs.YtbcjbembhajgcaaDoor.Byt

end Go.Proofs.YtbcjbembhajgcaaDoor.Str

namespace Go.Proofs.YtbcjbembhajgcaaDoor.Hdr
open Go.RowKit Go.Proofs Go.Proofs.YtbcjbembhajgcaaDoor.Byt Go.Proofs.YtbcjbembhajgcaaDoor.Str Go.Proofs.YtbcjbembhajgcaaDoor.Dec

end Go.Proofs.YtbcjbembhajgcaaDoor.Hdr

namespace Go.Proofs.YtbcjbembhajgcaaDoor.Hdr
open Go.RowKit Go.Proofs Go.Proofs.YtbcjbembhajgcaaDoor.Byt Go.Proofs.YtbcjbembhajgcaaDoor.Str Go.Proofs.YtbcjbembhajgcaaDoor.Dec

end Go.Proofs.YtbcjbembhajgcaaDoor.Hdr

namespace Go.Proofs.YtbcjbembhajgcaaDoor.Hdr
open Go.RowKit Go.Proofs Go.Proofs.YtbcjbembhajgcaaDoor.Byt Go.Proofs.YtbcjbembhajgcaaDoor.Str Go.Proofs.YtbcjbembhajgcaaDoor.Dec

end Go.Proofs.YtbcjbembhajgcaaDoor.Hdr

namespace Go.Proofs.YtbcjbembhajgcaaDoor.Hdr
open Go.RowKit Go.Proofs Go.Proofs.YtbcjbembhajgcaaDoor.Byt Go.Proofs.YtbcjbembhajgcaaDoor.Str Go.Proofs.YtbcjbembhajgcaaDoor.Dec

def wd : Nat → Nat | 0 => 12 | 1 => 6 | 2 => 6 | 3 => 8 | _ => 10
def bs : Nat → Nat | 3 => 8 | _ => 10
def mo : Nat → Bool | 4 => false | _ => true
/-- Where a field begins. -/
def off : Nat → Nat | 0 => 16 | k + 1 => off k + wd k
end Go.Proofs.YtbcjbembhajgcaaDoor.Hdr
