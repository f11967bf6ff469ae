/-
  append of a string's bytes onto a byte slice of the call's own. strings.IndexRune in the two bytes 10, 0, at a rune beyond ASCII: it is not there. strings.ContainsAny at the two bytes 10, 0: whether one of them is among the bytes of a string, whatever its bytes are. The small functions of header and of its reference: which names fit, spaces, the descriptions of the fields. The descriptions of the fields, and the functions in them. Spaces appended, spaces made, the variables of the fields, and which names fit by the reference. What header.Encode gives: the plain mathematics.
-/
import Derived.Test.YtjobmkodgodloaaGreatDoorYMa
import Derived.Lib.AppendStr
import Derived.Test.YtjobmkodgodloaaGreatDoorYShelf
import Derived.Laws.Runes
import Derived.Laws.RangeAny
import Derived.Deep.LoopGhost
import Derived.Lib.DecodeN
import Derived.Deep.WholeRow
import Derived.Deep.Cut
namespace Go.Proofs.YtjobmkodgodloaaGreatDoor.Byt
open Go.RowKit Go.Proofs

theorem enc_str (s : ByteArray) : Lib.strCells s = enc s.data.toList := rfl

end Go.Proofs.YtjobmkodgodloaaGreatDoor.Byt

namespace Go.Proofs.YtjobmkodgodloaaGreatDoor.Str
open Go.RowKit Go.Proofs Go.Proofs.YtjobmkodgodloaaGreatDoor.Byt

theorem still_twice {P : Program} {f : FuncId} {xs : Array Value} {W : World} {i j : Nat} {u : Value} (hc : Calls P f xs (W.drewN (i + j)) fun e V => e = .returned u ∧ V = W.drewN (i + j)) :
   Calls P f xs (W.drewN (i + j)) fun e V => e = .returned u ∧ ∃ k, V = W.drewN (i + k) := by
 refine hc.mono ?_
 rintro e V ⟨h1, h2⟩
 exact ⟨h1, j, h2⟩

theorem not_err {r : Int} (h : r ≠ 65533) : (r == 65533) = false := by simpa using h

set_option maxRecDepth 100000 in
theorem indexRune_invalid (r : Int) (w : World) (h : 128 ≤ r) (he : (r == 65533) = false) (hv : Lib.validRune r = false) :
   Calls Tryz.prog 148 #[.string ⟨#[10, 0]⟩, .int .i32 r] w fun e w' => e = .returned (.int .i64 (-1)) ∧ Below w.heap.size w w' := by
 go_enter Tryz.func148, Tryz.ntmps148
 go_wp2_with (go_at_call 155; refine (Tryz.utf8_ValidRune _ _).mono ?_; rintro e w' ⟨rfl, rfl⟩; rw [hv])
 try rw [Exit.noGoto_ret]
 go_ret
 exact ⟨rfl, Below.refl _ _⟩

set_option maxRecDepth 100000 in
theorem indexRune_error (w : World) :
   Calls Tryz.prog 148 #[.string ⟨#[10, 0]⟩, .int .i32 65533] w fun e w' => e = .returned (.int .i64 (-1)) ∧ Below w.heap.size w w' := by
 go_enter Tryz.func148, Tryz.ntmps148
 go_wp2_with fail
 go_loopg [5, 6] 2 (fun g _ _ wx => ∃ i : Nat, i + g = 2 ∧ wx = w.iter ⟨#[10, 0]⟩ i)
 case atStart => exact ⟨0, by omega, rfl⟩
 case round =>
   obtain ⟨i, hi, rfl⟩ := hrel
   cases gk with
   | zero =>
     obtain rfl : i = 2 := by omega
     have hnx := fun ty => run_next_end (P := Tryz.prog) w ⟨#[10, 0]⟩ 2 ty (by decide)
     go_wp2
     try rw [Exit.noGoto_ret]
     go_ret
     exact ⟨rfl, (Below.refl _ _).alloc (Nat.le_refl _) _⟩
   | succ g =>
     have hi2 : i = 0 ∨ i = 1 := by omega
     rcases hi2 with rfl | rfl
     · have hnx := fun ty => run_next_ascii (P := Tryz.prog) w ⟨#[10, 0]⟩ 0 ty (by decide) (by decide)
       go_wp2
       go_roundg g
       case measure => omega
       case rel => exact ⟨1, by omega, rfl⟩
     · have hnx := fun ty => run_next_ascii (P := Tryz.prog) w ⟨#[10, 0]⟩ 1 ty (by decide) (by decide)
       go_wp2
       go_roundg g
       case measure => omega
       case rel => exact ⟨2, by omega, rfl⟩

set_option maxRecDepth 100000 in
theorem indexRune_valid (r : Int) (w : World) (h : 128 ≤ r) (he : (r == 65533) = false) (hv : Lib.validRune r = true) :
   Calls Tryz.prog 148 #[.string ⟨#[10, 0]⟩, .int .i32 r] w fun e w' => e = .returned (.int .i64 (-1)) ∧ Below w.heap.size w w' := by
 have hv' : Utf8.valid r = true := by
   unfold Lib.validRune at hv
   unfold Utf8.valid
   simp at hv ⊢
   omega
 obtain ⟨f1, f2, f3⟩ := encode_facts r hv' h
 obtain ⟨E, hE⟩ : ∃ E, Utf8.encode r = E := ⟨_, rfl⟩
 rw [hE] at f1 f2 f3
 have F3 := hid f3
 have Hv := hid hv'
 clear f3 hv'
 by_cases h2 : E.size = 2
 · obtain ⟨a, b, rfl⟩ : ∃ a b : UInt8, E = ⟨#[a, b]⟩ := by
     obtain ⟨⟨l⟩⟩ := E
     match l, h2 with
     | [a, b], _ => exact ⟨a, b, rfl⟩
   have hb : 128 ≤ b.toNat := F3.out (by show 2 - 1 < 2; omega)
   have hne : ((((⟨#[10, 0]⟩ : ByteArray)[1]'(by decide)).toNat : Int) != (((⟨#[a, b]⟩ : ByteArray)[1]'(show 1 < 2 by omega)).toNat : Int)) = true := by
     show (((0 : Nat) : Int) != (b.toNat : Int)) = true
     simp; omega
   clear F3 f1 f2 h2
   go_enter Tryz.func148, Tryz.ntmps148
   go_wp2_with (go_at_call 155; refine (Tryz.utf8_ValidRune _ _).mono ?_; rintro e w' ⟨rfl, rfl⟩; rw [hv])
   go_step3
   go_wp2
   refine wp_loop_rounds 1 ?_
   rw [rounds_succ]
   go_wp2
   go_step3
   go_wp2
   go_quiet (fail)
   go_wp2_with fail
   go_quiet ((go_at_call 151; exact still_twice (Tryz.strings_IndexByte _ _ _)))
   go_wp2
   rw [Exit.noGoto_ret]
   go_wp2
   rw [Exit.noGoto_ret]
   go_ret
   exact ⟨rfl, ⟨rfl, rfl, rfl, Nat.le_refl _, fun _ _ => rfl⟩⟩
 · have f1' : 3 ≤ E.size := by omega
   clear F3 f1 h2
   go_enter Tryz.func148, Tryz.ntmps148
   go_wp2_with (go_at_call 155; refine (Tryz.utf8_ValidRune _ _).mono ?_; rintro e w' ⟨rfl, rfl⟩; rw [hv])
   go_step3
   go_wp2
   refine wp_loop_rounds 1 ?_
   rw [rounds_succ]
   go_wp2
   rw [Exit.noGoto_ret]
   go_ret
   exact ⟨rfl, Below.refl _ _⟩
theorem indexRune_high (r : Int) (w : World) (h : 128 ≤ r) :
   Calls Tryz.prog 148 #[.string ⟨#[10, 0]⟩, .int .i32 r] w fun e w' => e = .returned (.int .i64 (-1)) ∧ Below w.heap.size w w' := by
 by_cases he : r = 65533
 · subst he; exact indexRune_error w
 · cases hv : Lib.validRune r
   · exact indexRune_invalid r w h (not_err he) hv
   · exact indexRune_valid r w h (not_err he) hv
end Go.Proofs.YtjobmkodgodloaaGreatDoor.Str

namespace Go.Proofs.YtjobmkodgodloaaGreatDoor.Str
open Go.RowKit Go.Proofs Go.Proofs.YtjobmkodgodloaaGreatDoor.Byt

theorem wide_tail {n b0 b1 b2 b3 : Nat} (h : 128 ≤ b0) : ∀ j, j < (Lib.decodeN n b0 b1 b2 b3).2 → j = 0 ∨ (j = 1 ∧ 128 ≤ b1) ∨ (j = 2 ∧ 128 ≤ b2) ∨ (j = 3 ∧ 128 ≤ b3) := by
 intro j
 unfold Lib.decodeN
 rw [if_neg (by omega)]
 repeat' split
 all_goals (intro hj; simp only at hj; omega)

theorem get_list (s : ByteArray) (i : Nat) (b : UInt8) (h : s.data.toList[i]? = some b) : s.get! i = b := by
 obtain ⟨⟨l⟩⟩ := s
 simp only at h
 obtain ⟨h1, h2⟩ := List.getElem?_eq_some_iff.1 h
 subst h2
 show (Array.mk l)[i]! = _
 simp [getElem!_pos, h1]

theorem high_tail (s : ByteArray) (pos : Nat) (h : 128 ≤ (s.get! pos).toNat) (j : Nat) (b : UInt8) (h1 : pos ≤ j) (h2 : j < pos + (Utf8.decode s pos).2) (hb : s.data.toList[j]? = some b) : 128 ≤ b.toNat := by
 rw [Lib.decode_at] at h2
 have hb' := get_list s j b hb
 obtain ⟨k, rfl⟩ : ∃ k, j = pos + k := ⟨j - pos, by omega⟩
 rcases wide_tail h k (Nat.lt_of_add_lt_add_left h2) with rfl | ⟨rfl, h3⟩ | ⟨rfl, h3⟩ | ⟨rfl, h3⟩
 · rw [← hb']; exact h
 all_goals rw [← hb']; exact h3

theorem next_more {P : Program} (w : World) (g : Nat) (s : ByteArray) (pos : Nat) (ty : TypeId) (hg : w.heap[g]? = some (.stringIter s pos)) (h : pos < s.size) :
   (Instr.next (.pointer (some ⟨g, 0, none⟩)) true ty).run P w =
     .ok (.tuple #[.bool true, .int .i64 pos, .int .i32 (Utf8.decode s pos).1]) { w with heap := w.heap.setIfInBounds g (.stringIter s (pos + (Utf8.decode s pos).2)) } := by
 simp only [Instr.next, getObj, setObj, Sem.run_bind, Sem.run, hg, Result.andThen, h, if_true]
 simp [goInt]
theorem next_end {P : Program} (w : World) (g : Nat) (s : ByteArray) (pos : Nat) (ty : TypeId) (hg : w.heap[g]? = some (.stringIter s pos)) (h : ¬ pos < s.size) :
   (Instr.next (.pointer (some ⟨g, 0, none⟩)) true ty).run P w = .ok (.tuple #[.bool false]) w := by
 simp [Instr.next, getObj, Sem.run, hg, h]

def bad (l : List UInt8) : Bool := Lib.containsAny l [10, 0]

def IterAt (w : World) (s : ByteArray) (i : Nat) (wx : World) : Prop :=
 wx.heap[w.heap.size]? = some (.stringIter s i) ∧ Below w.heap.size w wx ∧ Lib.NoAny s.data.toList [10, 0] i

theorem IterAt.start (w : World) (s : ByteArray) : IterAt w s 0 (w.iter s 0) :=
 ⟨World.iter_heap w s 0, (Below.refl _ _).alloc (Nat.le_refl _) _, Lib.NoAny.zero _ _⟩

theorem not_in {b : UInt8} (h : 128 ≤ b.toNat) : ([10, 0] : List UInt8).contains b = false := by
 have h1 : b ≠ 10 := by rintro rfl; simp at h
 have h2 : b ≠ 0 := by rintro rfl; simp at h
 simp [h1, h2]

def moved (w : World) (wx : World) (s : ByteArray) (j : Nat) : World := { wx with heap := wx.heap.setIfInBounds w.heap.size (.stringIter s j) }
theorem moved_below {w wx : World} {s : ByteArray} {j : Nat} (h : Below w.heap.size w wx) : Below w.heap.size w (moved w wx s j) := by
 refine ⟨h.os, h.tape, h.output, by simpa [moved] using h.size, fun k hk => ?_⟩
 rw [← h.block k hk]
 simp only [moved]
 rw [Array.getElem?_setIfInBounds_ne (by omega)]
theorem moved_at {w wx : World} {s : ByteArray} {i j : Nat} (h : wx.heap[w.heap.size]? = some (.stringIter s i)) : (moved w wx s j).heap[w.heap.size]? = some (.stringIter s j) := by
 have := (Array.getElem?_eq_some_iff.1 h).1
 simp [moved, this]
theorem moved_size (w wx : World) (s : ByteArray) (j : Nat) : (moved w wx s j).heap.size = wx.heap.size := by simp [moved]

theorem IterAt.step {w wx wy : World} {s : ByteArray} {i j : Nat} (h : IterAt w s i wx) (hb : Below (moved w wx s j).heap.size (moved w wx s j) wy) (hn : Lib.NoAny s.data.toList [10, 0] j) : IterAt w s j wy := by
 have hlt := (Array.getElem?_eq_some_iff.1 h.1).1
 refine ⟨?_, (moved_below h.2.1).trans (hb.mono ?_), hn⟩
 · rw [hb.block _ (by rw [moved_size]; exact hlt)]; exact moved_at h.1
 · rw [moved_size]; omega

set_option maxRecDepth 100000 in
set_option maxHeartbeats 1000000 in
theorem indexAny_short (s : ByteArray) (w : World) (h8 : s.size ≤ 8) :
   Calls Tryz.prog 139 #[.string s, .string ⟨#[10, 0]⟩] w fun e w' => e = .returned (.int .i64 (Lib.indexAny s.data.toList [10, 0])) ∧ Below w.heap.size w w' := by
 have h8z : decide ((8 : Int) < (s.size : Int)) = false := decide_eq_false (by omega)
 go_enter Tryz.func139, Tryz.ntmps139
 go_wp2_with (go_at_call 149; refine (Tryz.strings_shouldUseASCIISet _ _).mono ?_; rintro e w' ⟨rfl, hw⟩; rw [hw, h8z])
 go_loopg [9, 10] s.size (fun g _ _ wx => ∃ i : Nat, s.size - i ≤ g ∧ IterAt w s i wx)
 case atStart => exact ⟨0, by omega, IterAt.start _ _⟩
 case round =>
   obtain ⟨i, hi, hat⟩ := hrel
   by_cases hlt : i < s.size
   · cases gk with
     | zero => omega
     | succ g =>
     have hnx : ∀ ty, (Instr.next (.pointer (some ⟨w.heap.size, 0, none⟩)) true ty).run Tryz.prog wr = .ok (.tuple #[.bool true, .int .i64 i, .int .i32 (Utf8.decode s i).1]) (moved w wr s (i + (Utf8.decode s i).2)) :=
       fun ty => next_more wr w.heap.size s i ty hat.1 hlt
     obtain ⟨x, hx⟩ : ∃ x : UInt8, s[i]'hlt = x := ⟨_, rfl⟩
     have hxl : s.data.toList[i]? = some x := by rw [← hx]; exact Lib.data_getElem? s i hlt
     by_cases hx128 : x.toNat < 128
     · rw [decode_ascii s i hlt (by rw [hx]; exact hx128), hx] at hnx
       have hcon := Lib.contains_iff_indexByte [10, 0] x
       have hback : ((x.toNat : Int)).toNat.toUInt8 = x := by simp
       have Hx := hid hxl
       have Hi := hid hi
       have Hl := hid hlt
       have Hat := hid hat
       clear hxl hx hat hi hlt
       cases hin : ([10, 0] : List UInt8).contains x
       · rw [hin] at hcon
         have hlt0 : ¬ ((0 : Int) ≤ Lib.indexByte [10, 0] x) := of_decide_eq_false hcon.symm
         have Hin := hid hin
         clear hcon hin
         go_wp2_with (go_at_call 148; refine (Tryz.strings_IndexRune_ascii _ _ _ (by omega) (by omega)).mono ?_; rintro e w' ⟨rfl, hw⟩; rw [hw, hback])
         go_roundg g
         case measure => omega
         case rel => exact ⟨i + 1, by have := Hi.out; omega, Hat.out.step (Below.refl _ _) (Hat.out.2.2.succ Hx.out Hin.out)⟩
       · rw [hin] at hcon
         have hge0 : (0 : Int) ≤ Lib.indexByte [10, 0] x := of_decide_eq_true hcon.symm
         have Hin := hid hin
         clear hcon hin
         go_wp2_with (go_at_call 148; refine (Tryz.strings_IndexRune_ascii _ _ _ (by omega) (by omega)).mono ?_; rintro e w' ⟨rfl, hw⟩; rw [hw, hback])
         go_ret
         exact ⟨by rw [Lib.indexAny_hit Hat.out.2.2 Hx.out Hin.out]; rfl, moved_below Hat.out.2.1⟩
     · have hd := decode_high s i hlt (by rw [hx]; omega)
       have hg : s.get! i = x := get_list s i x hxl
       have hno : Lib.NoAny s.data.toList [10, 0] (i + (Utf8.decode s i).2) := by
         intro j b hj hb
         by_cases h : j < i
         · exact hat.2.2 j b h hb
         · exact not_in (high_tail s i (by rw [hg]; omega) j b (by omega) hj hb)
       generalize (Utf8.decode s i).1 = r at *
       generalize (Utf8.decode s i).2 = k at *
       obtain ⟨hd1, hd2⟩ := hd
       have Hi := hid hi
       have Hat := hid hat
       have Hno := hid hno
       clear hxl hx hat hi hlt hg hno
       go_wp2_with (go_at_call 148; refine (indexRune_high _ _ (by omega)).mono ?_; rintro e w1 ⟨rfl, hb1⟩)
       go_roundg g
       case measure => omega
       case rel => exact ⟨i + k, by have := Hi.out; omega, Hat.out.step hb1 Hno.out⟩
   · have hnx := fun ty => next_end (P := Tryz.prog) wr w.heap.size s i ty hat.1 hlt
     have Hat := hid hat
     have Hlt := hid hlt
     clear hat hlt hi
     go_wp2
     go_ret
     exact ⟨by rw [Lib.indexAny_none (fun j b hj hb => Hat.out.2.2 j b (by have h1 := (List.getElem?_eq_some_iff.1 hb).1; have h2 := Hlt.out; rw [← Lib.size_eq] at h1; omega) hb)]; rfl, Hat.out.2.1⟩

theorem zero69 (w : World) : (zeroValue 181).run Tryz.prog w = .ok (.agg (Array.replicate 256 (.bool false))) w := by kernel_rfl

theorem indexAny_any (s : ByteArray) (w : World) (hs : s.size < 4294967281) :
   Calls Tryz.prog 139 #[.string s, .string ⟨#[10, 0]⟩] w fun e w' => e = .returned (.int .i64 (Lib.indexAny s.data.toList [10, 0])) ∧ Below w.heap.size w w' := by
 by_cases h8 : 8 < s.size
 · refine (Tryz.strings_IndexAny_long zero69 s ⟨#[10, 0]⟩ w (by decide) h8 hs (by decide) (fun j b hb => ?_)).mono fun e w' ⟨he, hw⟩ => ⟨he, ?_⟩
   · have := List.mem_of_getElem? hb
     simp at this
     rcases this with rfl | rfl <;> decide
   · rw [hw]
     exact ((Below.refl _ _).alloc (Nat.le_refl _) _).alloc (by simp) _
 · exact indexAny_short s w (by omega)

theorem containsAny_any (s : ByteArray) (w : World) (hs : s.size < 4294967281) :
   Calls Tryz.prog 112 #[.string s, .string ⟨#[10, 0]⟩] w fun e w' => e = .returned (.bool (bad s.data.toList)) ∧ Below w.heap.size w w' := by
 have Hi := hid (indexAny_any s w hs)
 go_enter Tryz.func112, Tryz.ntmps112
 go_wp2_with (go_at_call 139; refine Hi.out.mono ?_; rintro e w' ⟨rfl, hw⟩)
 go_ret
 exact ⟨rfl, hw⟩
end Go.Proofs.YtjobmkodgodloaaGreatDoor.Str

namespace Go.Proofs.YtjobmkodgodloaaGreatDoor.Hdr
open Go.RowKit Go.Proofs Go.Proofs.YtjobmkodgodloaaGreatDoor.Byt Go.Proofs.YtjobmkodgodloaaGreatDoor.Str Go.Proofs.YtjobmkodgodloaaGreatDoor.Dec

def by_ (s : ByteArray) : List UInt8 := s.data.toList
theorem by_length (s : ByteArray) : (by_ s).length = s.size := Array.length_toList (xs := s.data)

def nameOk (s : ByteArray) : Bool := decide (1 ≤ s.size) && (decide (s.size ≤ 16) && (!bad (by_ s) && !Lib.hasSuffix (by_ s) [32]))

theorem nameFits_any (s : ByteArray) (w : World) (hs : s.size ≤ 140737488355328) :
   Calls Tryz.prog 90 #[.string s] w fun e w' => e = .returned (.bool (nameOk s)) ∧ Below w.heap.size w w' := by
 by_cases h1 : 1 ≤ s.size
 · by_cases h2 : s.size ≤ 16
   · have Hr : Hid (nameOk s = (!bad (by_ s) && !Lib.hasSuffix (by_ s) [32])) := hid (by simp [nameOk, h1, h2])
     have Hc := hid (containsAny_any s w (by omega))
     cases hb : bad s.data.toList
     · cases hp : Lib.hasSuffix s.data.toList [32]
       · have Hr' : Hid (nameOk s = true) := hid (by rw [Hr.out]; unfold by_; rw [hb, hp]; rfl)
         clear Hr
         go_enter Tryz.func90, Tryz.ntmps90
         go_wp2_with (first | (go_at_call 112; refine Hc.out.mono ?_; rintro e w' ⟨rfl, hw⟩; rw [hb]) | (go_at_call 113; refine (Tryz.strings_HasSuffix _ _ _ (by omega)).mono ?_; rintro e w'' ⟨rfl, hw2⟩; rw [hw2, hp]))
         go_ret
         exact ⟨ret_bool Hr'.out.symm, hw⟩
       · have Hr' : Hid (nameOk s = false) := hid (by rw [Hr.out]; unfold by_; rw [hb, hp]; rfl)
         clear Hr
         go_enter Tryz.func90, Tryz.ntmps90
         go_wp2_with (first | (go_at_call 112; refine Hc.out.mono ?_; rintro e w' ⟨rfl, hw⟩; rw [hb]) | (go_at_call 113; refine (Tryz.strings_HasSuffix _ _ _ (by omega)).mono ?_; rintro e w'' ⟨rfl, hw2⟩; rw [hw2, hp]))
         go_ret
         exact ⟨ret_bool Hr'.out.symm, hw⟩
     · have Hr' : Hid (nameOk s = false) := hid (by rw [Hr.out]; unfold by_; rw [hb]; rfl)
       clear Hr
       go_enter Tryz.func90, Tryz.ntmps90
       go_wp2_with (first | (go_at_call 112; refine Hc.out.mono ?_; rintro e w' ⟨rfl, hw⟩; rw [hb]) | (go_at_call 113; refine (Tryz.strings_HasSuffix _ _ _ (by omega)).mono ?_; rintro e w'' ⟨rfl, hw2⟩; rw [hw2, hp]))
       go_ret
       exact ⟨ret_bool Hr'.out.symm, hw⟩
   · have Hr' : Hid (nameOk s = false) := hid (by simp [nameOk, h2])
     go_enter Tryz.func90, Tryz.ntmps90
     go_wp2_with fail
     go_ret
     exact ⟨ret_bool Hr'.out.symm, Below.refl _ _⟩
 · have Hr' : Hid (nameOk s = false) := hid (by simp [nameOk, h1])
   go_enter Tryz.func90, Tryz.ntmps90
   go_wp2_with fail
   go_ret
   exact ⟨ret_bool Hr'.out.symm, Below.refl _ _⟩

def isTab (s : ByteArray) : Bool := s.toList == [47, 47]

theorem absent_any (a b : Int) (mo : Bool) (v : Value) (s : ByteArray) (w : World) :
   Calls Tryz.prog 92 #[.agg #[.int .i64 a, .int .i64 b, .bool mo, v], .string s] w fun e w' => e = .returned (.bool (mo && isTab s)) ∧ Below w.heap.size w w' := by
 cases mo
 · go_enter Tryz.func92, Tryz.ntmps92
   go_wp2_with fail
   go_ret
   exact ⟨rfl, (Below.refl _ _).alloc (Nat.le_refl _) _⟩
 · go_enter Tryz.func92, Tryz.ntmps92
   go_wp2_with fail
   go_ret
   exact ⟨rfl, (Below.refl _ _).alloc (Nat.le_refl _) _⟩

end Go.Proofs.YtjobmkodgodloaaGreatDoor.Hdr

namespace Go.Proofs.YtjobmkodgodloaaGreatDoor.Hdr
open Go.RowKit Go.Proofs Go.Proofs.YtjobmkodgodloaaGreatDoor.Byt Go.Proofs.YtjobmkodgodloaaGreatDoor.Str Go.Proofs.YtjobmkodgodloaaGreatDoor.Dec

theorem wpList_built (d : Option Nat) {ops : Array Oper} {rest : List Oper} {o : Oper} {a : Act} {Q : Exit → Act → World → Prop} {w : World} (_ : o.dst = d) (hgd : o.guard = none) (t : TypeId) (ps : Array (Nat × Operand)) (ho : o.op = .build t ps) (vs : Array (Nat × Value)) (v : Value) (hrun : (Instr.build t vs).run Tryz.prog w = .ok v w)
   (hvs : ps.map (fun x => (x.1, a.eval x.2)) = vs) (h : wpList Tryz.prog ops Q rest (a.put o.dst v) w) : wpList Tryz.prog ops Q (o :: rest) a w := by
 refine wpList_plain hgd fun K' hK' => ?_
 unfold Oper.wp execOp
 simp only [ho, hvs, Sem.run_bind, Sem.run_pure, hrun, Result.andThen_ok]
 exact hK' _ _ h

theorem wpList_stored {ops : Array Oper} {rest : List Oper} {o : Oper} {a : Act} {Q : Exit → Act → World → Prop} {w w' : World} (hd : o.dst = none) (hgd : o.guard = none) (t : TypeId) (p x : Operand) (ho : o.op = .store t p x) (vp vx : Value) (hp : a.eval p = vp) (hx : a.eval x = vx)
   (hrun : (Instr.storeAt t vp vx).run Tryz.prog w = .ok () w') (h : wpList Tryz.prog ops Q rest a w') : wpList Tryz.prog ops Q (o :: rest) a w := by
 refine wpList_plain hgd fun K' hK' => ?_
 unfold Oper.wp execOp
 simp only [ho, hp, hx, Sem.run_bind, Sem.run_pure, hrun, Result.andThen_ok]
 rw [Oper.upon_skip]
 have e : ∀ v, a.put o.dst v = a := fun v => by rw [hd]; rfl
 rw [e]
 exact hK' _ _ h

def row0 : Array Value := #[.int .i64 12, .int .i64 10, .bool true, .func (.func 114) #[] #[]]
def row1 : Array Value := #[.int .i64 6, .int .i64 10, .bool true, .func (.func 115) #[] #[]]
def row2 : Array Value := #[.int .i64 6, .int .i64 10, .bool true, .func (.func 116) #[] #[]]
def row3 : Array Value := #[.int .i64 8, .int .i64 8, .bool true, .func (.func 117) #[] #[]]
def row4 : Array Value := #[.int .i64 10, .int .i64 10, .bool false, .func (.func 118) #[] #[]]
def rows : Array Value := row0 ++ row1 ++ row2 ++ row3 ++ row4
theorem built0 (w : World) : (Instr.build 157 #[(0, .int .i64 12), (1, .int .i64 10), (2, .bool true), (3, .func (.func 114) #[] #[])]).run Tryz.prog w = .ok (.agg row0) w := by kernel_rfl
theorem built1 (w : World) : (Instr.build 157 #[(0, .int .i64 6), (1, .int .i64 10), (2, .bool true), (3, .func (.func 115) #[] #[])]).run Tryz.prog w = .ok (.agg row1) w := by kernel_rfl
theorem built2 (w : World) : (Instr.build 157 #[(0, .int .i64 6), (1, .int .i64 10), (2, .bool true), (3, .func (.func 116) #[] #[])]).run Tryz.prog w = .ok (.agg row2) w := by kernel_rfl
theorem built3 (w : World) : (Instr.build 157 #[(0, .int .i64 8), (1, .int .i64 8), (2, .bool true), (3, .func (.func 117) #[] #[])]).run Tryz.prog w = .ok (.agg row3) w := by kernel_rfl
theorem built4 (w : World) : (Instr.build 157 #[(0, .int .i64 10), (1, .int .i64 10), (2, .bool false), (3, .func (.func 118) #[] #[])]).run Tryz.prog w = .ok (.agg row4) w := by kernel_rfl
theorem builtAll (w : World) : (Instr.build 158 #[(0, .agg row0), (1, .agg row1), (2, .agg row2), (3, .agg row3), (4, .agg row4)]).run Tryz.prog w = .ok (.agg rows) w := by kernel_rfl
theorem at0 (w : World) : (Instr.index 158 (.agg rows) (.int .i64 0)).run Tryz.prog w = .ok (.agg row0) w := by kernel_rfl
theorem at1 (w : World) : (Instr.index 158 (.agg rows) (.int .i64 1)).run Tryz.prog w = .ok (.agg row1) w := by kernel_rfl
theorem at2 (w : World) : (Instr.index 158 (.agg rows) (.int .i64 2)).run Tryz.prog w = .ok (.agg row2) w := by kernel_rfl
theorem at3 (w : World) : (Instr.index 158 (.agg rows) (.int .i64 3)).run Tryz.prog w = .ok (.agg row3) w := by kernel_rfl
theorem at4 (w : World) : (Instr.index 158 (.agg rows) (.int .i64 4)).run Tryz.prog w = .ok (.agg row4) w := by kernel_rfl

set_option maxRecDepth 100000 in
set_option maxHeartbeats 1000000 in
theorem fields_any (w : World) :
   Calls Tryz.prog 91 #[] w fun e w' => e = .returned (.agg rows) ∧ Below w.heap.size w w' := by
 go_enter Tryz.func91, Tryz.ntmps91
 go_upto_region 1 with (fail)
 go_step
 refine wpList_built (some 1) rfl rfl _ _ rfl _ _ (built0 _) (by kernel_rfl) ?_
 refine wpList_built (some 2) rfl rfl _ _ rfl _ _ (built1 _) (by kernel_rfl) ?_
 refine wpList_built (some 3) rfl rfl _ _ rfl _ _ (built2 _) (by kernel_rfl) ?_
 refine wpList_built (some 4) rfl rfl _ _ rfl _ _ (built3 _) (by kernel_rfl) ?_
 refine wpList_built (some 5) rfl rfl _ _ rfl _ _ (built4 _) (by kernel_rfl) ?_
 refine wpList_built (some 6) rfl rfl _ _ rfl _ _ (builtAll _) (by kernel_rfl) ?_
 refine wpList_stored rfl rfl _ _ _ rfl _ _ rfl rfl (run_storeAt_new w 158 _ rows (by kernel_rfl) (by kernel_rfl) (by kernel_rfl)) ?_
 go_wp2
 have hl := run_loadVar_new (P := Tryz.prog) w 158 rows 5 157 Tryz.underlying158 (by kernel_rfl)
 exact bodyPost_ret (v := .agg rows) (by simp [results, Tryz.results91, Act.put, asAddr, hl]) rfl ⟨rfl, (Below.refl _ _).alloc (Nat.le_refl _) _⟩
end Go.Proofs.YtjobmkodgodloaaGreatDoor.Hdr

namespace Go.Proofs.YtjobmkodgodloaaGreatDoor.Hdr
open Go.RowKit Go.Proofs Go.Proofs.YtjobmkodgodloaaGreatDoor.Byt Go.Proofs.YtjobmkodgodloaaGreatDoor.Str Go.Proofs.YtjobmkodgodloaaGreatDoor.Dec

theorem var1 (b : Nat) (w : World) : Calls Tryz.prog 114 #[.pointer (some ⟨b, 0, none⟩)] w fun e w' => e = .returned (.pointer (some ⟨b, 1, none⟩)) ∧ w = w' := by
 go_enter Tryz.func114, Tryz.ntmps114
 go_wp2_with fail
 go_ret
 exact ⟨rfl, rfl⟩
theorem var2 (b : Nat) (w : World) : Calls Tryz.prog 115 #[.pointer (some ⟨b, 0, none⟩)] w fun e w' => e = .returned (.pointer (some ⟨b, 2, none⟩)) ∧ w = w' := by
 go_enter Tryz.func115, Tryz.ntmps115
 go_wp2_with fail
 go_ret
 exact ⟨rfl, rfl⟩
theorem var3 (b : Nat) (w : World) : Calls Tryz.prog 116 #[.pointer (some ⟨b, 0, none⟩)] w fun e w' => e = .returned (.pointer (some ⟨b, 3, none⟩)) ∧ w = w' := by
 go_enter Tryz.func116, Tryz.ntmps116
 go_wp2_with fail
 go_ret
 exact ⟨rfl, rfl⟩
theorem var4 (b : Nat) (w : World) : Calls Tryz.prog 117 #[.pointer (some ⟨b, 0, none⟩)] w fun e w' => e = .returned (.pointer (some ⟨b, 4, none⟩)) ∧ w = w' := by
 go_enter Tryz.func117, Tryz.ntmps117
 go_wp2_with fail
 go_ret
 exact ⟨rfl, rfl⟩
theorem var5 (b : Nat) (w : World) : Calls Tryz.prog 118 #[.pointer (some ⟨b, 0, none⟩)] w fun e w' => e = .returned (.pointer (some ⟨b, 5, none⟩)) ∧ w = w' := by
 go_enter Tryz.func118, Tryz.ntmps118
 go_wp2_with fail
 go_ret
 exact ⟨rfl, rfl⟩

def numOf : Value → Nat | .int _ n => n.toNat | _ => 0

set_option maxHeartbeats 1000000 in
theorem rspaces_any (k : Nat) (w : World) (hk : k ≤ 1000) :
   Calls Tryz.prog 83 #[.int .i64 (k : Int)] w fun e w' => ∃ v', e = .returned v' ∧ Own w' w.heap.size v' k (List.replicate k 32) ∧ Below w.heap.size w w' := by
 go_enter Tryz.func83, Tryz.ntmps83
 go_wp2_with fail
 go_loopw [3, 4] (fun u i W => ∃ j : Nat, i = .int .i64 (j : Int) ∧ j ≤ k ∧ Own W w.heap.size u j (List.replicate j 32) ∧ Below w.heap.size w W) (fun _ i _ => k - numOf i)
 case atStart => exact ⟨0, rfl, by omega, Own.nil _ _, Below.refl _ _⟩
 case round =>
   obtain ⟨j, rfl, hj, hown, hbel⟩ := hrel
   by_cases hlt : j < k
   · go_wp2_with (at_builtin; refine wpList_push wr w.heap.size u3 j (List.replicate j 32) 32 32 rfl hown hbel.size (by omega) rfl (.tmp 10) (.tmp 11) rfl rfl rfl ?_; intro v1 w1 hown1 hb1)
     go_roundw
     case rel =>
       refine ⟨j + 1, by go_num, by omega, ?_, hbel.trans hb1⟩
       rw [← List.replicate_succ'] at hown1
       exact hown1
     case measure => simp [numOf]; omega
   · obtain rfl : j = k := by omega
     have Hown := hid hown
     clear hown
     go_wp2
     go_ret
     exact ⟨_, rfl, Hown.out, hbel⟩
end Go.Proofs.YtjobmkodgodloaaGreatDoor.Hdr

namespace Go.Proofs.YtjobmkodgodloaaGreatDoor.Hdr
open Go.RowKit Go.Proofs Go.Proofs.YtjobmkodgodloaaGreatDoor.Byt Go.Proofs.YtjobmkodgodloaaGreatDoor.Str Go.Proofs.YtjobmkodgodloaaGreatDoor.Dec

def num (t u g m z : Int) : Nat → Int | 0 => t | 1 => u | 2 => g | 3 => m | _ => z
def wd : Nat → Nat | 0 => 12 | 1 => 6 | 2 => 6 | 3 => 8 | _ => 10
def bs : Nat → Nat | 3 => 8 | _ => 10
def mo : Nat → Bool | 4 => false | _ => true
theorem bs_vb (k : Nat) : vb (bs k : Int) = true := by
 rw [vb_iff]; unfold bs; split <;> simp
theorem bs_2 (k : Nat) : 2 ≤ bs k ∧ bs k ≤ 10 := by unfold bs; split <;> omega
theorem wd_18 (k : Nat) : 1 ≤ wd k ∧ wd k ≤ 18 := by unfold wd; split <;> omega

def okF (tab : Bool) (k : Nat) (n : Int) : Bool := if (mo k && tab) = true then n == 0 else decide (0 ≤ n) && decide (nd (bs k) n.toNat ≤ wd k)
def fldF (tab : Bool) (k : Nat) (n : Int) : List UInt8 := if (mo k && tab) = true then List.replicate (wd k) 32 else field (bs k) n.toNat (wd k)
theorem fldF_length {tab : Bool} {k : Nat} {n : Int} (h : okF tab k n = true) : (fldF tab k n).length = wd k := by
 unfold okF at h
 unfold fldF
 split
 · simp
 · rename_i h2
   rw [if_neg h2, Bool.and_eq_true, decide_eq_true_eq, decide_eq_true_eq] at h
   exact field_length (bs_2 k).1 h.2

def pre (s : ByteArray) (f : Nat → Int) : Nat → List UInt8
 | 0 => by_ s ++ List.replicate (16 - s.size) 32
 | k + 1 => pre s f k ++ fldF (isTab s) k (f k)
def off : Nat → Nat | 0 => 16 | k + 1 => off k + wd k
def allOk (s : ByteArray) (f : Nat → Int) : Nat → Bool
 | 0 => true
 | k + 1 => allOk s f k && okF (isTab s) k (f k)
theorem pre_length {s : ByteArray} {f : Nat → Int} (hs : s.size ≤ 16) : ∀ k, allOk s f k = true → (pre s f k).length = off k
 | 0, _ => by simp [pre, off, by_length]; omega
 | k + 1, h => by
   simp only [allOk, Bool.and_eq_true] at h
   simp only [pre, off, List.length_append]
   rw [pre_length hs k h.1, fldF_length h.2]
def eerr (s : ByteArray) (f : Nat → Int) : Int := if nameOk s = true then (if allOk s f 5 = true then 0 else 9) else 6
def eout (s : ByteArray) (f : Nat → Int) : List UInt8 := if eerr s f = 0 then pre s f 5 ++ [96, 10] else []
theorem eerr_6 {s : ByteArray} {f : Nat → Int} (h : nameOk s = false) : eerr s f = 6 ∧ eout s f = [] := by
 have : eerr s f = 6 := by unfold eerr; rw [if_neg (by rw [h]; simp)]
 exact ⟨this, by unfold eout; rw [this]; rfl⟩
theorem eerr_9 {s : ByteArray} {f : Nat → Int} (h : nameOk s = true) (h2 : allOk s f 5 = false) : eerr s f = 9 ∧ eout s f = [] := by
 have : eerr s f = 9 := by unfold eerr; rw [if_pos h, if_neg (by rw [h2]; simp)]
 exact ⟨this, by unfold eout; rw [this]; rfl⟩
theorem eerr_0 {s : ByteArray} {f : Nat → Int} (h : nameOk s = true) (h2 : allOk s f 5 = true) : eerr s f = 0 ∧ eout s f = pre s f 5 ++ [96, 10] := by
 have : eerr s f = 0 := by unfold eerr; rw [if_pos h, if_pos h2]
 exact ⟨this, by unfold eout; rw [this]; rfl⟩
theorem nameOk_iff {s : ByteArray} : nameOk s = true ↔ 1 ≤ s.size ∧ s.size ≤ 16 ∧ bad (by_ s) = false ∧ Lib.hasSuffix (by_ s) [32] = false := by
 unfold nameOk
 simp
theorem eout_length (s : ByteArray) (f : Nat → Int) : (eout s f).length ≤ 60 := by
 by_cases h : nameOk s = true
 · cases h2 : allOk s f 5
   · rw [(eerr_9 h h2).2]; simp
   · rw [(eerr_0 h h2).2, List.length_append, pre_length (nameOk_iff.1 h).2.1 5 h2]; decide
 · rw [(eerr_6 (f := f) (by simpa using h)).2]; simp
def Encodes (s : ByteArray) (f : Nat → Int) (w : World) (e : Ending) (w' : World) : Prop :=
 ∃ v, e = .returned (.tuple #[v, .int .i64 (eerr s f)]) ∧ Own w' w.heap.size v (eout s f).length (eout s f) ∧ Below w.heap.size w w'
theorem Encodes.empty {s : ByteArray} {f : Nat → Int} {w w' : World} {k : Int} (h : eerr s f = k ∧ eout s f = []) (hb : Below w.heap.size w w') : Encodes s f w (.returned (.tuple #[.slice none 0 0, .int .i64 k])) w' := by
 refine ⟨_, by rw [h.1], ?_, hb⟩
 rw [h.2]; exact Own.nil _ _

def HAt (w : World) (B : Nat) (s : ByteArray) (t u g m z : Int) : Prop :=
 w.cell? ⟨B, 0, none⟩ = some (.string s) ∧ w.cell? ⟨B, 1, none⟩ = some (.int .i64 t) ∧ w.cell? ⟨B, 2, none⟩ = some (.int .i64 u) ∧ w.cell? ⟨B, 3, none⟩ = some (.int .i64 g) ∧
   w.cell? ⟨B, 4, none⟩ = some (.int .i64 m) ∧ w.cell? ⟨B, 5, none⟩ = some (.int .i64 z) ∧ B < w.heap.size
theorem HAt.below {w w' : World} {B K : Nat} {s : ByteArray} {t u g m z : Int} (h : HAt w B s t u g m z) (hb : Below K w w') (hB : B < K) : HAt w' B s t u g m z := by
 obtain ⟨h0, h1, h2, h3, h4, h5, h6⟩ := h
 refine ⟨?_, ?_, ?_, ?_, ?_, ?_, Nat.lt_of_lt_of_le h6 hb.size⟩ <;> (rw [hb.cell (by exact hB)]; assumption)
theorem HAt.new (w : World) (s : ByteArray) (t u g m z : Int) (ty : TypeId) : HAt (w.alloc (.cells #[.string s, .int .i64 t, .int .i64 u, .int .i64 g, .int .i64 m, .int .i64 z] ty)) w.heap.size s t u g m z := by
 refine ⟨?_, ?_, ?_, ?_, ?_, ?_, by simp⟩ <;> (rw [World.cell?_alloc_at _ _ _ _ rfl]; rfl)
theorem stays {w w' : World} {B K : Nat} (hb : Below K w w') (hB : B < K) : ∀ o, w'.cell? ⟨B, o, none⟩ = w.cell? ⟨B, o, none⟩ := fun o => hb.cell (p := ⟨B, o, none⟩) hB
theorem two_sub {n : Nat} (h : n ≤ 16) : (16 : Int) - (n : Int) = ((16 - n : Nat) : Int) := by omega
end Go.Proofs.YtjobmkodgodloaaGreatDoor.Hdr
