/-
  strings.ContainsAny at the three bytes 47, 10, 0: whether one of them is among the bytes of a string, whatever its bytes are.
-/
import Derived.Test.YtnkdcecpbjhdmaaDoorStr3a
import Derived.Lib.DecodeN
namespace Go.Proofs.YtnkdcecpbjhdmaaDoor.Str3
open Go.RowKit Go.Proofs Go.Proofs.YtnkdcecpbjhdmaaDoor.Byt

theorem wide_tail {n b0 b1 b2 b3 : Nat} (h : 128 ≤ b0) : ∀ j, j < (Lib.decodeN n b0 b1 b2 b3).2 → j = 0 ∨ (j = 1 ∧ 128 ≤ b1) ∨ (j = 2 ∧ 128 ≤ b2) ∨ (j = 3 ∧ 128 ≤ b3) := by
  intro j
  unfold Lib.decodeN
  rw [if_neg (by omega)]
  repeat' split
  all_goals (intro hj; simp only at hj; omega)

theorem get_list (s : ByteArray) (i : Nat) (b : UInt8) (h : s.data.toList[i]? = some b) : s.get! i = b := by
  obtain ⟨⟨l⟩⟩ := s
  simp only at h
  obtain ⟨h1, h2⟩ := List.getElem?_eq_some_iff.1 h
  subst h2
  show (Array.mk l)[i]! = _
  simp [getElem!_pos, h1]

/-- The bytes of one rune beyond ASCII. -/
theorem high_tail (s : ByteArray) (pos : Nat) (h : 128 ≤ (s.get! pos).toNat) (j : Nat) (b : UInt8) (h1 : pos ≤ j) (h2 : j < pos + (Utf8.decode s pos).2) (hb : s.data.toList[j]? = some b) : 128 ≤ b.toNat := by
  rw [Lib.decode_at] at h2
  have hb' := get_list s j b hb
  obtain ⟨k, rfl⟩ : ∃ k, j = pos + k := ⟨j - pos, by omega⟩
  rcases wide_tail h k (Nat.lt_of_add_lt_add_left h2) with rfl | ⟨rfl, h3⟩ | ⟨rfl, h3⟩ | ⟨rfl, h3⟩
  · rw [← hb']; exact h
  all_goals rw [← hb']; exact h3

/-- A step of an iterator over a string that lies in some block. -/
theorem next_more {P : Program} (w : World) (g : Nat) (s : ByteArray) (pos : Nat) (ty : TypeId) (hg : w.heap[g]? = some (.stringIter s pos)) (h : pos < s.size) :
    (Instr.next (.pointer (some ⟨g, 0, none⟩)) true ty).run P w =
      .ok (.tuple #[.bool true, .int .i64 pos, .int .i32 (Utf8.decode s pos).1]) { w with heap := w.heap.setIfInBounds g (.stringIter s (pos + (Utf8.decode s pos).2)) } := by
  simp only [Instr.next, getObj, setObj, Sem.run_bind, Sem.run, hg, Result.andThen, h, if_true]
  simp [goInt]
theorem next_end {P : Program} (w : World) (g : Nat) (s : ByteArray) (pos : Nat) (ty : TypeId) (hg : w.heap[g]? = some (.stringIter s pos)) (h : ¬ pos < s.size) :
    (Instr.next (.pointer (some ⟨g, 0, none⟩)) true ty).run P w = .ok (.tuple #[.bool false]) w := by
  simp [Instr.next, getObj, Sem.run, hg, h]

/-- The three bytes that no name has. -/
def bad (l : List UInt8) : Bool := Lib.containsAny l [47, 10, 0]

/-- At a round's head: the iterator, and what has been passed. -/
def IterAt (w : World) (s : ByteArray) (i : Nat) (wx : World) : Prop :=
  wx.heap[w.heap.size]? = some (.stringIter s i) ∧ Below w.heap.size w wx ∧ Lib.NoAny s.data.toList [47, 10, 0] i

theorem IterAt.start (w : World) (s : ByteArray) : IterAt w s 0 (w.iter s 0) :=
  ⟨World.iter_heap w s 0, (Below.refl _ _).alloc (Nat.le_refl _) _, Lib.NoAny.zero _ _⟩

theorem not_in {b : UInt8} (h : 128 ≤ b.toNat) : ([47, 10, 0] : List UInt8).contains b = false := by
  have h1 : b ≠ 10 := by rintro rfl; simp at h
  have h2 : b ≠ 0 := by rintro rfl; simp at h
  have h3 : b ≠ 47 := by rintro rfl; simp at h
  simp [h1, h2, h3]

/-- The iterator moved on. -/
def moved (w : World) (wx : World) (s : ByteArray) (j : Nat) : World := { wx with heap := wx.heap.setIfInBounds w.heap.size (.stringIter s j) }
theorem moved_below {w wx : World} {s : ByteArray} {j : Nat} (h : Below w.heap.size w wx) : Below w.heap.size w (moved w wx s j) := by
  refine ⟨h.os, h.tape, h.output, by simpa [moved] using h.size, fun k hk => ?_⟩
  rw [← h.block k hk]
  simp only [moved]
  rw [Array.getElem?_setIfInBounds_ne (by omega)]
theorem moved_at {w wx : World} {s : ByteArray} {i j : Nat} (h : wx.heap[w.heap.size]? = some (.stringIter s i)) : (moved w wx s j).heap[w.heap.size]? = some (.stringIter s j) := by
  have := (Array.getElem?_eq_some_iff.1 h).1
  simp [moved, this]
theorem moved_size (w wx : World) (s : ByteArray) (j : Nat) : (moved w wx s j).heap.size = wx.heap.size := by simp [moved]

/-- What came behind the step of the iterator leaves it there. -/
theorem IterAt.step {w wx wy : World} {s : ByteArray} {i j : Nat} (h : IterAt w s i wx) (hb : Below (moved w wx s j).heap.size (moved w wx s j) wy) (hn : Lib.NoAny s.data.toList [47, 10, 0] j) : IterAt w s j wy := by
  have hlt := (Array.getElem?_eq_some_iff.1 h.1).1
  refine ⟨?_, (moved_below h.2.1).trans (hb.mono ?_), hn⟩
  · rw [hb.block _ (by rw [moved_size]; exact hlt)]; exact moved_at h.1
  · rw [moved_size]; omega

set_option maxRecDepth 100000 in
set_option maxHeartbeats 1000000 in
theorem indexAny_short (s : ByteArray) (w : World) (h8 : s.size ≤ 8) :
    Calls Tryd.prog 37 #[.string s, .string ⟨#[47, 10, 0]⟩] w fun e w' => e = .returned (.int .i64 (Lib.indexAny s.data.toList [47, 10, 0])) ∧ Below w.heap.size w w' := by
  have h8z : decide ((8 : Int) < (s.size : Int)) = false := decide_eq_false (by omega)
  go_enter Tryd.func37, Tryd.ntmps37
  go_wp2_with (go_at_call 47; refine (Tryd.strings_shouldUseASCIISet _ _).mono ?_; rintro e w' ⟨rfl, hw⟩; rw [hw, h8z])
  go_loopg [9, 10] s.size (fun g _ _ wx => ∃ i : Nat, s.size - i ≤ g ∧ IterAt w s i wx)
  case atStart => exact ⟨0, by omega, IterAt.start _ _⟩
  case round =>
    obtain ⟨i, hi, hat⟩ := hrel
    by_cases hlt : i < s.size
    · cases gk with
      | zero => omega
      | succ g =>
      have hnx : ∀ ty, (Instr.next (.pointer (some ⟨w.heap.size, 0, none⟩)) true ty).run Tryd.prog wr = .ok (.tuple #[.bool true, .int .i64 i, .int .i32 (Utf8.decode s i).1]) (moved w wr s (i + (Utf8.decode s i).2)) :=
        fun ty => next_more wr w.heap.size s i ty hat.1 hlt
      obtain ⟨x, hx⟩ : ∃ x : UInt8, s[i]'hlt = x := ⟨_, rfl⟩
      have hxl : s.data.toList[i]? = some x := by rw [← hx]; exact Lib.data_getElem? s i hlt
      by_cases hx128 : x.toNat < 128
      · rw [decode_ascii s i hlt (by rw [hx]; exact hx128), hx] at hnx
        have hcon := Lib.contains_iff_indexByte [47, 10, 0] x
        have hback : ((x.toNat : Int)).toNat.toUInt8 = x := by simp
        have Hx := hid hxl
        have Hi := hid hi
        have Hl := hid hlt
        have Hat := hid hat
        clear hxl hx hat hi hlt
        cases hin : ([47, 10, 0] : List UInt8).contains x
        · rw [hin] at hcon
          have hlt0 : ¬ ((0 : Int) ≤ Lib.indexByte [47, 10, 0] x) := of_decide_eq_false hcon.symm
          have Hin := hid hin
          clear hcon hin
          go_wp2_with (go_at_call 46; refine (Tryd.strings_IndexRune_ascii _ _ _ (by omega) (by omega)).mono ?_; rintro e w' ⟨rfl, hw⟩; rw [hw, hback])
          go_roundg g
          case measure => omega
          case rel => exact ⟨i + 1, by have := Hi.out; omega, Hat.out.step (Below.refl _ _) (Hat.out.2.2.succ Hx.out Hin.out)⟩
        · rw [hin] at hcon
          have hge0 : (0 : Int) ≤ Lib.indexByte [47, 10, 0] x := of_decide_eq_true hcon.symm
          have Hin := hid hin
          clear hcon hin
          go_wp2_with (go_at_call 46; refine (Tryd.strings_IndexRune_ascii _ _ _ (by omega) (by omega)).mono ?_; rintro e w' ⟨rfl, hw⟩; rw [hw, hback])
          go_ret
          exact ⟨by rw [Lib.indexAny_hit Hat.out.2.2 Hx.out Hin.out]; rfl, moved_below Hat.out.2.1⟩
      · have hd := decode_high s i hlt (by rw [hx]; omega)
        have hg : s.get! i = x := get_list s i x hxl
        have hno : Lib.NoAny s.data.toList [47, 10, 0] (i + (Utf8.decode s i).2) := by
          intro j b hj hb
          by_cases h : j < i
          · exact hat.2.2 j b h hb
          · exact not_in (high_tail s i (by rw [hg]; omega) j b (by omega) hj hb)
        generalize (Utf8.decode s i).1 = r at *
        generalize (Utf8.decode s i).2 = k at *
        obtain ⟨hd1, hd2⟩ := hd
        have Hi := hid hi
        have Hat := hid hat
        have Hno := hid hno
        clear hxl hx hat hi hlt hg hno
        go_wp2_with (go_at_call 46; refine (indexRune_high _ _ (by omega)).mono ?_; rintro e w1 ⟨rfl, hb1⟩)
        go_roundg g
        case measure => omega
        case rel => exact ⟨i + k, by have := Hi.out; omega, Hat.out.step hb1 Hno.out⟩
    · have hnx := fun ty => next_end (P := Tryd.prog) wr w.heap.size s i ty hat.1 hlt
      have Hat := hid hat
      have Hlt := hid hlt
      clear hat hlt hi
      go_wp2
      go_ret
      exact ⟨by rw [Lib.indexAny_none (fun j b hj hb => Hat.out.2.2 j b (by have h1 := (List.getElem?_eq_some_iff.1 hb).1; have h2 := Hlt.out; rw [← Lib.size_eq] at h1; omega) hb)]; rfl, Hat.out.2.1⟩

theorem zero69 (w : World) : (zeroValue 72).run Tryd.prog w = .ok (.agg (Array.replicate 256 (.bool false))) w := by kernel_rfl

theorem indexAny_any (s : ByteArray) (w : World) (hs : s.size < 4294967281) :
    Calls Tryd.prog 37 #[.string s, .string ⟨#[47, 10, 0]⟩] w fun e w' => e = .returned (.int .i64 (Lib.indexAny s.data.toList [47, 10, 0])) ∧ Below w.heap.size w w' := by
  by_cases h8 : 8 < s.size
  · refine (Tryd.strings_IndexAny_long zero69 s ⟨#[47, 10, 0]⟩ w (by decide) h8 hs (by decide) (fun j b hb => ?_)).mono fun e w' ⟨he, hw⟩ => ⟨he, ?_⟩
    · have := List.mem_of_getElem? hb
      simp at this
      rcases this with rfl | rfl | rfl <;> decide
    · rw [hw]
      exact ((Below.refl _ _).alloc (Nat.le_refl _) _).alloc (by simp) _
  · exact indexAny_short s w (by omega)

theorem containsAny_any (s : ByteArray) (w : World) (hs : s.size < 4294967281) :
    Calls Tryd.prog 28 #[.string s, .string ⟨#[47, 10, 0]⟩] w fun e w' => e = .returned (.bool (bad s.data.toList)) ∧ Below w.heap.size w w' := by
  have Hi := hid (indexAny_any s w hs)
  go_enter Tryd.func28, Tryd.ntmps28
  go_wp2_with (go_at_call 37; refine Hi.out.mono ?_; rintro e w' ⟨rfl, hw⟩)
  go_ret
  exact ⟨rfl, hw⟩
end Go.Proofs.YtnkdcecpbjhdmaaDoor.Str3
