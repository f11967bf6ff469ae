/-
  No contract of the library is wanted here.
-/
import Derived.Lib.IndexMore
import Derived.Lib.IndexAny
import Derived.Lib.Strings
import Derived.Lib.ItoaNum
import Derived.Lib.LaidTab
import Derived.Lib.ItoaMem
import Derived.Lib.AppendStr
import Derived.Lib.TrimByte
import Derived.Lib.Bytes
import Derived.Lib.IndexBytes
import Derived.Deep.WholeRow
import Derived.Deep.MidRow
import Derived.Test.YtcaepgggffkjpaaProg
namespace Go.Proofs.Ytcaepgggffkjpaa.Shelf
end Go.Proofs.Ytcaepgggffkjpaa.Shelf
