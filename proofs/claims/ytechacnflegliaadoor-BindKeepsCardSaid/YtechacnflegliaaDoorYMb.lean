/-
  append of a string's bytes onto a byte slice of the call's own. strings.IndexRune in the two bytes 10, 0, at a rune beyond ASCII: it is not there. strings.ContainsAny at the two bytes 10, 0: whether one of them is among the bytes of a string, whatever its bytes are. The small functions of header and of its reference: which names fit, spaces, the descriptions of the fields. The descriptions of the fields, and the functions in them. Spaces appended, spaces made, the variables of the fields, and which names fit by the reference. What header.Encode gives: the plain mathematics.
-/
import Derived.Test.YtechacnflegliaaDoorYMa
import Derived.Lib.AppendStr
import Derived.Test.YtechacnflegliaaDoorYShelf
import Derived.Laws.Runes
import Derived.Laws.RangeAny
import Derived.Deep.LoopGhost
import Derived.Lib.DecodeN
import Derived.Deep.WholeRow
import Derived.Deep.Cut
namespace Go.Proofs.YtechacnflegliaaDoor.Byt
open Go.RowKit Go.Proofs

end Go.Proofs.YtechacnflegliaaDoor.Byt

namespace Go.Proofs.YtechacnflegliaaDoor.Str
open Go.RowKit Go.Proofs Go.Proofs.YtechacnflegliaaDoor.Byt

end Go.Proofs.YtechacnflegliaaDoor.Str

namespace Go.Proofs.YtechacnflegliaaDoor.Str
open Go.RowKit Go.Proofs Go.Proofs.YtechacnflegliaaDoor.Byt

end Go.Proofs.YtechacnflegliaaDoor.Str

namespace Go.Proofs.YtechacnflegliaaDoor.Hdr
open Go.RowKit Go.Proofs Go.Proofs.YtechacnflegliaaDoor.Byt Go.Proofs.YtechacnflegliaaDoor.Str Go.Proofs.YtechacnflegliaaDoor.Dec

end Go.Proofs.YtechacnflegliaaDoor.Hdr

namespace Go.Proofs.YtechacnflegliaaDoor.Hdr
open Go.RowKit Go.Proofs Go.Proofs.YtechacnflegliaaDoor.Byt Go.Proofs.YtechacnflegliaaDoor.Str Go.Proofs.YtechacnflegliaaDoor.Dec

end Go.Proofs.YtechacnflegliaaDoor.Hdr

namespace Go.Proofs.YtechacnflegliaaDoor.Hdr
open Go.RowKit Go.Proofs Go.Proofs.YtechacnflegliaaDoor.Byt Go.Proofs.YtechacnflegliaaDoor.Str Go.Proofs.YtechacnflegliaaDoor.Dec

end Go.Proofs.YtechacnflegliaaDoor.Hdr

namespace Go.Proofs.YtechacnflegliaaDoor.Hdr
open Go.RowKit Go.Proofs Go.Proofs.YtechacnflegliaaDoor.Byt Go.Proofs.YtechacnflegliaaDoor.Str Go.Proofs.YtechacnflegliaaDoor.Dec

def wd : Nat → Nat | 0 => 12 | 1 => 6 | 2 => 6 | 3 => 8 | _ => 10
def bs : Nat → Nat | 3 => 8 | _ => 10
end Go.Proofs.YtechacnflegliaaDoor.Hdr
