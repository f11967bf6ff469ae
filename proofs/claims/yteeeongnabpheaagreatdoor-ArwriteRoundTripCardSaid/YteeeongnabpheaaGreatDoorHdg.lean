/-
  header.Encode and header.Fits at every header; the header of the reference turned into a header.
-/
import Derived.Test.YteeeongnabpheaaGreatDoorHde
import Derived.Test.YteeeongnabpheaaGreatDoorHdf
namespace Go.Proofs.YteeeongnabpheaaGreatDoor.Hdr
open Go.RowKit Go.Proofs Go.Proofs.YteeeongnabpheaaGreatDoor.Byt Go.Proofs.YteeeongnabpheaaGreatDoor.Str Go.Proofs.YteeeongnabpheaaGreatDoor.Dec

theorem encode_any (s : ByteArray) (t u g m z : Int) (w : World) (hs : s.size ≤ 140737488355328) (l0 : t < 9223372036854775808) (l1 : u < 9223372036854775808) (l2 : g < 9223372036854775808) (l3 : m < 9223372036854775808) (l4 : z < 9223372036854775808) :
    Calls Tryz.prog 38 #[.agg #[.string s, .int .i64 t, .int .i64 u, .int .i64 g, .int .i64 m, .int .i64 z]] w (Encodes s (num t u g m z) w) := by
  cases h : nameOk s
  · exact encode_name s t u g m z w hs h
  · cases htab : isTab s
    · exact encode_mem s t u g m z w h htab l0 l1 l2 l3 l4
    · exact encode_tab s t u g m z w h htab l0 l1 l2 l3 l4

theorem fits_any (s : ByteArray) (t u g m z : Int) (w : World) (hs : s.size ≤ 140737488355328) (l0 : t < 9223372036854775808) (l1 : u < 9223372036854775808) (l2 : g < 9223372036854775808) (l3 : m < 9223372036854775808) (l4 : z < 9223372036854775808) :
    Calls Tryz.prog 55 #[.agg #[.string s, .int .i64 t, .int .i64 u, .int .i64 g, .int .i64 m, .int .i64 z]] w fun e w' => e = .returned (.int .i64 (eerr s (num t u g m z))) ∧ Below w.heap.size w w' := by
  have HE := hid fun w' => encode_any s t u g m z w' hs l0 l1 l2 l3 l4
  go_enter Tryz.func55, Tryz.ntmps55
  go_wp2_with fail
  refine (HE.out _).mono ?_
  rintro e w1 ⟨v, rfl, _, hb1⟩
  go_wp2_with fail
  go_ret
  exact ⟨rfl, ((Below.refl _ _).alloc (Nat.le_refl _) _).trans (hb1.mono (by simp))⟩

end Go.Proofs.YteeeongnabpheaaGreatDoor.Hdr
