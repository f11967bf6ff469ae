/-
  longname: Build.
-/
import Derived.Test.YtijggpahijhpeaaZMh
import Derived.Test.YtijggpahijhpeaaZMg
namespace Go.Proofs.Ytijggpahijhpeaa.Lnm
open Go.RowKit Go.Proofs Go.Proofs.Ytijggpahijhpeaa.Byt Go.Proofs.Ytijggpahijhpeaa.Str3 Go.Proofs.Ytijggpahijhpeaa.Dec

/-- What Build gives. -/
def bo (ns : List ByteArray) : List UInt8 := if allV ns = true then tab (longs ns) else []
def be (ns : List ByteArray) : Int := if allV ns = true then 0 else 6
end Go.Proofs.Ytijggpahijhpeaa.Lnm
