/-
  The frame of arwrite's laws that parse: what five tables give; the reference's Parse.
-/
import Derived.Test.YteeeongnabpheaaGreatDoorWs
import Derived.Test.YteeeongnabpheaaGreatDoorP5a
namespace Go.Proofs.YteeeongnabpheaaGreatDoor.Frame
open Go.ChangeShapes Go.WideShapes Go.ChangeAt Go.RowKit Go.Proofs Go.Deep Go.Proofs.YteeeongnabpheaaGreatDoor.Lnm

theorem gndp5_of (W : World) (hsh : W.ShapedOpen Tryz.prog) (hL : laidMetH Tryz.prog [("math/bits.deBruijn32tab", Rows.laid_math_bits_deBruijn32tab), ("math/bits.deBruijn64tab", Rows.laid_math_bits_deBruijn64tab), ("internal/strconv.uint64pow10", Rows.laid_internal_strconv_uint64pow10), ("unicode/utf8.acceptRanges", Rows.laid_unicode_utf8_acceptRanges), ("unicode/utf8.first", Rows.laid_unicode_utf8_first)] W) : GndP W := by
  refine ⟨gnd_of W hsh hL, ?_, show 1 = 1 from rfl⟩
  rw [MakeChecks.laidMetH_plain _ _ _ (by kernel_rfl)] at hL
  have hL3 := hL.tail.tail
  have e : (Rows.laid_internal_strconv_uint64pow10 : DataW Unit) = Lib.tabData .u64 Lib.pow10Tab := by kernel_rfl
  rw [e] at hL3
  exact Lib.tabIs_of_head named_pow (t := 172) (e := 162) (n := 20) (by kernel_rfl) Tryz.underlying172 Tryz.underlying162 (by kernel_rfl) (by kernel_rfl) hL3
end Go.Proofs.YteeeongnabpheaaGreatDoor.Frame

namespace Go.Proofs.YteeeongnabpheaaGreatDoor.Arp
open Go.RowKit Go.Proofs Go.Proofs.YteeeongnabpheaaGreatDoor.Byt Go.Proofs.YteeeongnabpheaaGreatDoor.Dec Go.Proofs.YteeeongnabpheaaGreatDoor.Lnm Go.Proofs.YteeeongnabpheaaGreatDoor.Hdr
theorem rparse_any (A : Option Addr) (n c : Nat) (l : List UInt8) (w : World) (hr : Rd w w.heap.size A n l) (hnc : n ≤ c) (hn : n < 100000) :
    Calls Tryz.prog 14 #[.slice A n c] w (Parses l w) := by
  by_cases h8 : n < 8
  · exact rparse_2 A n c l w hr h8
  · cases hi : isAr l
    · exact rparse_1 A n c l w hr hnc h8 hi
    · obtain ⟨b, o, rfl, _⟩ := Rd_where hr (by omega)
      exact rparse_go b o n c l w hr hnc hn hi
end Go.Proofs.YteeeongnabpheaaGreatDoor.Arp
