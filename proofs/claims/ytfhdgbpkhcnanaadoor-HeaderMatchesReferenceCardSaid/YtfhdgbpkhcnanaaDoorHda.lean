/-
  The small functions of header and of its reference: which names fit, spaces, the descriptions of the fields.
-/
import Derived.Test.YtfhdgbpkhcnanaaDoorStrb
import Derived.Test.YtfhdgbpkhcnanaaDoorBys
import Derived.Test.YtfhdgbpkhcnanaaDoorDeci
namespace Go.Proofs.YtfhdgbpkhcnanaaDoor.Hdr
open Go.RowKit Go.Proofs Go.Proofs.YtfhdgbpkhcnanaaDoor.Byt Go.Proofs.YtfhdgbpkhcnanaaDoor.Str Go.Proofs.YtfhdgbpkhcnanaaDoor.Dec

/-- The list of a string's bytes. -/
def by_ (s : ByteArray) : List UInt8 := s.data.toList
theorem by_length (s : ByteArray) : (by_ s).length = s.size := Array.length_toList (xs := s.data)

/-- A Name that fits. -/
def nameOk (s : ByteArray) : Bool := decide (1 ≤ s.size) && (decide (s.size ≤ 16) && (!bad (by_ s) && !Lib.hasSuffix (by_ s) [32]))

theorem nameFits_any (s : ByteArray) (w : World) (hs : s.size ≤ 140737488355328) :
    Calls Tryd.prog 17 #[.string s] w fun e w' => e = .returned (.bool (nameOk s)) ∧ Below w.heap.size w w' := by
  by_cases h1 : 1 ≤ s.size
  · by_cases h2 : s.size ≤ 16
    · have Hr : Hid (nameOk s = (!bad (by_ s) && !Lib.hasSuffix (by_ s) [32])) := hid (by simp [nameOk, h1, h2])
      have Hc := hid (containsAny_any s w (by omega))
      cases hb : bad s.data.toList
      · cases hp : Lib.hasSuffix s.data.toList [32]
        · have Hr' : Hid (nameOk s = true) := hid (by rw [Hr.out]; unfold by_; rw [hb, hp]; rfl)
          clear Hr
          go_enter Tryd.func17, Tryd.ntmps17
          go_wp2_with (first | (go_at_call 29; refine Hc.out.mono ?_; rintro e w' ⟨rfl, hw⟩; rw [hb]) | (go_at_call 30; refine (Tryd.strings_HasSuffix _ _ _ (by omega)).mono ?_; rintro e w'' ⟨rfl, hw2⟩; rw [hw2, hp]))
          go_ret
          exact ⟨ret_bool Hr'.out.symm, hw⟩
        · have Hr' : Hid (nameOk s = false) := hid (by rw [Hr.out]; unfold by_; rw [hb, hp]; rfl)
          clear Hr
          go_enter Tryd.func17, Tryd.ntmps17
          go_wp2_with (first | (go_at_call 29; refine Hc.out.mono ?_; rintro e w' ⟨rfl, hw⟩; rw [hb]) | (go_at_call 30; refine (Tryd.strings_HasSuffix _ _ _ (by omega)).mono ?_; rintro e w'' ⟨rfl, hw2⟩; rw [hw2, hp]))
          go_ret
          exact ⟨ret_bool Hr'.out.symm, hw⟩
      · have Hr' : Hid (nameOk s = false) := hid (by rw [Hr.out]; unfold by_; rw [hb]; rfl)
        clear Hr
        go_enter Tryd.func17, Tryd.ntmps17
        go_wp2_with (first | (go_at_call 29; refine Hc.out.mono ?_; rintro e w' ⟨rfl, hw⟩; rw [hb]) | (go_at_call 30; refine (Tryd.strings_HasSuffix _ _ _ (by omega)).mono ?_; rintro e w'' ⟨rfl, hw2⟩; rw [hw2, hp]))
        go_ret
        exact ⟨ret_bool Hr'.out.symm, hw⟩
    · have Hr' : Hid (nameOk s = false) := hid (by simp [nameOk, h2])
      go_enter Tryd.func17, Tryd.ntmps17
      go_wp2_with fail
      go_ret
      exact ⟨ret_bool Hr'.out.symm, Below.refl _ _⟩
  · have Hr' : Hid (nameOk s = false) := hid (by simp [nameOk, h1])
    go_enter Tryd.func17, Tryd.ntmps17
    go_wp2_with fail
    go_ret
    exact ⟨ret_bool Hr'.out.symm, Below.refl _ _⟩

/-- The name of the table of long names. -/
def isTab (s : ByteArray) : Bool := s.toList == [47, 47]

theorem absent_any (a b : Int) (mo : Bool) (v : Value) (s : ByteArray) (w : World) :
    Calls Tryd.prog 20 #[.agg #[.int .i64 a, .int .i64 b, .bool mo, v], .string s] w fun e w' => e = .returned (.bool (mo && isTab s)) ∧ Below w.heap.size w w' := by
  cases mo
  · go_enter Tryd.func20, Tryd.ntmps20
    go_wp2_with fail
    go_ret
    exact ⟨rfl, (Below.refl _ _).alloc (Nat.le_refl _) _⟩
  · go_enter Tryd.func20, Tryd.ntmps20
    go_wp2_with fail
    go_ret
    exact ⟨rfl, (Below.refl _ _).alloc (Nat.le_refl _) _⟩

end Go.Proofs.YtfhdgbpkhcnanaaDoor.Hdr
