/-
  The reference of arparse: Parse.
  The frame of arwrite's laws that parse: what five tables give; the reference's Parse.
-/
import Derived.Test.YtpedngfmjhpojaaGreatDoorYP4z
import Derived.Test.YtpedngfmjhpojaaGreatDoorYMe
import Derived.Test.YtpedngfmjhpojaaGreatDoorYP4j
import Derived.Deep.CutRange
import Derived.Test.YtpedngfmjhpojaaGreatDoorYWs
namespace Go.Proofs.YtpedngfmjhpojaaGreatDoor.Arp
open Go.RowKit Go.Proofs Go.Proofs.YtpedngfmjhpojaaGreatDoor.Byt Go.Proofs.YtpedngfmjhpojaaGreatDoor.Dec Go.Proofs.YtpedngfmjhpojaaGreatDoor.Lnm Go.Proofs.YtpedngfmjhpojaaGreatDoor.Hdr
open Go.Proofs.YtpedngfmjhpojaaGreatDoor.Sls (Oth)

end Go.Proofs.YtpedngfmjhpojaaGreatDoor.Arp

namespace Go.Proofs.YtpedngfmjhpojaaGreatDoor.Frame
open Go.ChangeShapes Go.WideShapes Go.ChangeAt Go.RowKit Go.Proofs Go.Deep Go.Proofs.YtpedngfmjhpojaaGreatDoor.Lnm

theorem gndp5_of (W : World) (hsh : W.ShapedOpen Tryz.prog) (hL : laidMetH Tryz.prog [("math/bits.deBruijn32tab", Rows.laid_math_bits_deBruijn32tab), ("math/bits.deBruijn64tab", Rows.laid_math_bits_deBruijn64tab), ("internal/strconv.uint64pow10", Rows.laid_internal_strconv_uint64pow10), ("unicode/utf8.acceptRanges", Rows.laid_unicode_utf8_acceptRanges), ("unicode/utf8.first", Rows.laid_unicode_utf8_first)] W) : GndP W := by
  refine ⟨gnd_of W hsh hL, ?_, show 1 = 1 from rfl⟩
  rw [MakeChecks.laidMetH_plain _ _ _ (by kernel_rfl)] at hL
  have hL3 := hL.tail.tail
  have e : (Rows.laid_internal_strconv_uint64pow10 : DataW Unit) = Lib.tabData .u64 Lib.pow10Tab := by kernel_rfl
  rw [e] at hL3
  exact Lib.tabIs_of_head named_pow (t := 218) (e := 212) (n := 20) (by kernel_rfl) Tryz.underlying218 Tryz.underlying212 (by kernel_rfl) (by kernel_rfl) hL3
end Go.Proofs.YtpedngfmjhpojaaGreatDoor.Frame

namespace Go.Proofs.YtpedngfmjhpojaaGreatDoor.Arp
open Go.RowKit Go.Proofs Go.Proofs.YtpedngfmjhpojaaGreatDoor.Byt Go.Proofs.YtpedngfmjhpojaaGreatDoor.Dec Go.Proofs.YtpedngfmjhpojaaGreatDoor.Lnm Go.Proofs.YtpedngfmjhpojaaGreatDoor.Hdr
end Go.Proofs.YtpedngfmjhpojaaGreatDoor.Arp
