/-
  header.Decode at every byte slice.
-/
import Derived.Test.YteeeongnabpheaaGreatDoorHdk
import Derived.Test.YteeeongnabpheaaGreatDoorHdl
namespace Go.Proofs.YteeeongnabpheaaGreatDoor.Hdr
open Go.RowKit Go.Proofs Go.Proofs.YteeeongnabpheaaGreatDoor.Byt Go.Proofs.YteeeongnabpheaaGreatDoor.Str Go.Proofs.YteeeongnabpheaaGreatDoor.Dec

theorem decode_any (K : Nat) (A : Option Addr) (n c : Nat) (l : List UInt8) (w : World) (hr : Rd w K A n l) (hK : K ≤ w.heap.size) (hc : n ≤ c) :
    Calls Tryz.prog 63 #[.slice A n c] w (Decodes l w) := by
  by_cases h : n < 60
  · exact decode_2 K A n c l w hr h
  · obtain ⟨b, o, rfl, _⟩ := Rd_where hr (by omega)
    have h60 : 60 ≤ n := by omega
    by_cases hx : (l.drop 58).take 2 = [96, 10]
    · cases h6 : nameOk (nm l)
      · exact decode_6 K b o n c l w hr hK h60 hc hx h6
      · cases htab : isTab (nm l)
        · exact decode_mem K b o n c l w hr hK h60 hc hx h6 htab
        · exact decode_tab K b o n c l w hr hK h60 hc hx h6 htab
    · exact decode_4 K b o n c l w hr hK h60 hc hx
end Go.Proofs.YteeeongnabpheaaGreatDoor.Hdr
