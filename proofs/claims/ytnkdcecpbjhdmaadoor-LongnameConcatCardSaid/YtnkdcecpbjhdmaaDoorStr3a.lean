/-
  strings.IndexRune in the three bytes 47, 10, 0, at a rune beyond ASCII: it is not there.
-/
import Derived.Test.YtnkdcecpbjhdmaaDoorByt
import Derived.Test.YtnkdcecpbjhdmaaDoorShelf
import Derived.Laws.Runes
import Derived.Laws.RangeAny
import Derived.Deep.LoopGhost
namespace Go.Proofs.YtnkdcecpbjhdmaaDoor.Str3
open Go.RowKit Go.Proofs Go.Proofs.YtnkdcecpbjhdmaaDoor.Byt

/-- A call that leaves the world alone, at a world that has drawn twice. -/
theorem still_twice {P : Program} {f : FuncId} {xs : Array Value} {W : World} {i j : Nat} {u : Value} (hc : Calls P f xs (W.drewN (i + j)) fun e V => e = .returned u ∧ V = W.drewN (i + j)) :
    Calls P f xs (W.drewN (i + j)) fun e V => e = .returned u ∧ ∃ k, V = W.drewN (i + k) := by
  refine hc.mono ?_
  rintro e V ⟨h1, h2⟩
  exact ⟨h1, j, h2⟩

theorem not_err {r : Int} (h : r ≠ 65533) : (r == 65533) = false := by simpa using h

set_option maxRecDepth 100000 in
/-- Not a code point, or not one that may be encoded. -/
theorem indexRune_invalid (r : Int) (w : World) (h : 128 ≤ r) (he : (r == 65533) = false) (hv : Lib.validRune r = false) :
    Calls Tryd.prog 46 #[.string ⟨#[47, 10, 0]⟩, .int .i32 r] w fun e w' => e = .returned (.int .i64 (-1)) ∧ Below w.heap.size w w' := by
  go_enter Tryd.func46, Tryd.ntmps46
  go_wp2_with (go_at_call 61; refine (Tryd.utf8_ValidRune _ _).mono ?_; rintro e w' ⟨rfl, rfl⟩; rw [hv])
  try rw [Exit.noGoto_ret]
  go_ret
  exact ⟨rfl, Below.refl _ _⟩

set_option maxRecDepth 100000 in
/-- The error's rune. -/
theorem indexRune_error (w : World) :
    Calls Tryd.prog 46 #[.string ⟨#[47, 10, 0]⟩, .int .i32 65533] w fun e w' => e = .returned (.int .i64 (-1)) ∧ Below w.heap.size w w' := by
  go_enter Tryd.func46, Tryd.ntmps46
  go_wp2_with fail
  go_loopg [5, 6] 3 (fun g _ _ wx => ∃ i : Nat, i + g = 3 ∧ wx = w.iter ⟨#[47, 10, 0]⟩ i)
  case atStart => exact ⟨0, by omega, rfl⟩
  case round =>
    obtain ⟨i, hi, rfl⟩ := hrel
    cases gk with
    | zero =>
      obtain rfl : i = 3 := by omega
      have hnx := fun ty => run_next_end (P := Tryd.prog) w ⟨#[47, 10, 0]⟩ 3 ty (by decide)
      go_wp2
      try rw [Exit.noGoto_ret]
      go_ret
      exact ⟨rfl, (Below.refl _ _).alloc (Nat.le_refl _) _⟩
    | succ g =>
      have hi2 : i = 0 ∨ i = 1 ∨ i = 2 := by omega
      rcases hi2 with rfl | rfl | rfl
      · have hnx := fun ty => run_next_ascii (P := Tryd.prog) w ⟨#[47, 10, 0]⟩ 0 ty (by decide) (by decide)
        go_wp2
        go_roundg g
        case measure => omega
        case rel => exact ⟨1, by omega, rfl⟩
      · have hnx := fun ty => run_next_ascii (P := Tryd.prog) w ⟨#[47, 10, 0]⟩ 1 ty (by decide) (by decide)
        go_wp2
        go_roundg g
        case measure => omega
        case rel => exact ⟨2, by omega, rfl⟩
      · have hnx := fun ty => run_next_ascii (P := Tryd.prog) w ⟨#[47, 10, 0]⟩ 2 ty (by decide) (by decide)
        go_wp2
        go_roundg g
        case measure => omega
        case rel => exact ⟨3, by omega, rfl⟩

theorem index_high (b : UInt8) (h : 128 ≤ b.toNat) : Lib.indexByte [0] b = -1 := by
  have hb : b ≠ 0 := by rintro rfl; simp at h
  have h0 : Lib.indexByte [] b = -1 := rfl
  unfold Lib.indexByte
  simp [hb.symm, h0]

set_option maxRecDepth 100000 in
/-- A code point. -/
theorem indexRune_valid (r : Int) (w : World) (h : 128 ≤ r) (he : (r == 65533) = false) (hv : Lib.validRune r = true) :
    Calls Tryd.prog 46 #[.string ⟨#[47, 10, 0]⟩, .int .i32 r] w fun e w' => e = .returned (.int .i64 (-1)) ∧ Below w.heap.size w w' := by
  have hv' : Utf8.valid r = true := by
    unfold Lib.validRune at hv
    unfold Utf8.valid
    simp at hv ⊢
    omega
  obtain ⟨f1, f2, f3⟩ := encode_facts r hv' h
  obtain ⟨E, hE⟩ : ∃ E, Utf8.encode r = E := ⟨_, rfl⟩
  rw [hE] at f1 f2 f3
  have F3 := hid f3
  have Hv := hid hv'
  clear f3 hv'
  by_cases h2 : E.size = 2
  · obtain ⟨a, b, rfl⟩ : ∃ a b : UInt8, E = ⟨#[a, b]⟩ := by
      obtain ⟨⟨l⟩⟩ := E
      match l, h2 with
      | [a, b], _ => exact ⟨a, b, rfl⟩
    have hb : 128 ≤ b.toNat := F3.out (by show 2 - 1 < 2; omega)
    have hne : ((((⟨#[47, 10, 0]⟩ : ByteArray)[1]'(by decide)).toNat : Int) != (((⟨#[a, b]⟩ : ByteArray)[1]'(show 1 < 2 by omega)).toNat : Int)) = true := by
      show (((10 : Nat) : Int) != (b.toNat : Int)) = true
      simp; omega
    have hib : Lib.indexByte [0] ((⟨#[a, b]⟩ : ByteArray)[1]'(show 1 < 2 by omega)) = -1 := index_high b hb
    clear F3 f1 f2 h2
    go_enter Tryd.func46, Tryd.ntmps46
    go_wp2_with (go_at_call 61; refine (Tryd.utf8_ValidRune _ _).mono ?_; rintro e w' ⟨rfl, rfl⟩; rw [hv])
    go_step3
    go_wp2
    refine wp_loop_rounds 1 ?_
    rw [rounds_succ]
    go_wp2
    go_step3
    go_wp2
    go_quiet (fail)
    go_wp2_with fail
    go_quiet ((go_at_call 60; exact still_twice (Tryd.strings_IndexByte _ _ _)))
    go_wp2
    rw [Exit.noGoto_ret]
    go_wp2
    rw [Exit.noGoto_ret]
    go_ret
    exact ⟨rfl, ⟨rfl, rfl, rfl, Nat.le_refl _, fun _ _ => rfl⟩⟩
  · by_cases h3 : E.size = 3
    · obtain ⟨a, a1, b, rfl⟩ : ∃ a a1 b : UInt8, E = ⟨#[a, a1, b]⟩ := by
        obtain ⟨⟨l⟩⟩ := E
        match l, h3 with
        | [a, a1, b], _ => exact ⟨a, a1, b, rfl⟩
      have hb : 128 ≤ b.toNat := F3.out (by show 3 - 1 < 3; omega)
      have hne : ((((⟨#[47, 10, 0]⟩ : ByteArray)[2]'(by decide)).toNat : Int) != (((⟨#[a, a1, b]⟩ : ByteArray)[2]'(show 2 < 3 by omega)).toNat : Int)) = true := by
        show (((0 : Nat) : Int) != (b.toNat : Int)) = true
        simp; omega
      clear F3 f1 f2 h2 h3
      go_enter Tryd.func46, Tryd.ntmps46
      go_wp2_with (go_at_call 61; refine (Tryd.utf8_ValidRune _ _).mono ?_; rintro e w' ⟨rfl, rfl⟩; rw [hv])
      go_step3
      go_wp2
      refine wp_loop_rounds 1 ?_
      rw [rounds_succ]
      go_wp2
      go_step3
      go_wp2
      go_quiet (fail)
      go_wp2_with fail
      go_quiet ((go_at_call 60; exact still_twice (Tryd.strings_IndexByte _ _ _)))
      go_wp2
      rw [Exit.noGoto_ret]
      go_wp2
      rw [Exit.noGoto_ret]
      go_ret
      exact ⟨rfl, ⟨rfl, rfl, rfl, Nat.le_refl _, fun _ _ => rfl⟩⟩
    · have f1' : 4 ≤ E.size := by omega
      clear F3 f1 h2 h3
      go_enter Tryd.func46, Tryd.ntmps46
      go_wp2_with (go_at_call 61; refine (Tryd.utf8_ValidRune _ _).mono ?_; rintro e w' ⟨rfl, rfl⟩; rw [hv])
      go_step3
      go_wp2
      refine wp_loop_rounds 1 ?_
      rw [rounds_succ]
      go_wp2
      rw [Exit.noGoto_ret]
      go_ret
      exact ⟨rfl, Below.refl _ _⟩
/-- Every rune beyond ASCII. -/
theorem indexRune_high (r : Int) (w : World) (h : 128 ≤ r) :
    Calls Tryd.prog 46 #[.string ⟨#[47, 10, 0]⟩, .int .i32 r] w fun e w' => e = .returned (.int .i64 (-1)) ∧ Below w.heap.size w w' := by
  by_cases he : r = 65533
  · subst he; exact indexRune_error w
  · cases hv : Lib.validRune r
    · exact indexRune_invalid r w h (not_err he) hv
    · exact indexRune_valid r w h (not_err he) hv
end Go.Proofs.YtnkdcecpbjhdmaaDoor.Str3
