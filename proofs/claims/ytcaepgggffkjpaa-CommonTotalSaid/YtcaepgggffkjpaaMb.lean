/-
  append of a string's bytes onto a byte slice of the call's own.
  strings.IndexRune in the two bytes 10, 0, at a rune beyond ASCII: it is not there.
  strings.ContainsAny at the two bytes 10, 0: whether one of them is among the bytes of a string, whatever its bytes are.
  The small functions of header and of its reference: which names fit, spaces, the descriptions of the fields.
  The descriptions of the fields, and the functions in them.
  Spaces appended, spaces made, the variables of the fields, and which names fit by the reference.
  What header.Encode gives: the plain mathematics.
-/
import Derived.Test.YtcaepgggffkjpaaMa
import Derived.Lib.AppendStr
import Derived.Test.YtcaepgggffkjpaaShelf
import Derived.Laws.Runes
import Derived.Laws.RangeAny
import Derived.Deep.LoopGhost
import Derived.Lib.DecodeN
import Derived.Deep.WholeRow
import Derived.Deep.Cut
namespace Go.Proofs.Ytcaepgggffkjpaa.Byt
open Go.RowKit Go.Proofs

theorem enc_str (s : ByteArray) : Lib.strCells s = enc s.data.toList := rfl

end Go.Proofs.Ytcaepgggffkjpaa.Byt

namespace Go.Proofs.Ytcaepgggffkjpaa.Str
open Go.RowKit Go.Proofs Go.Proofs.Ytcaepgggffkjpaa.Byt

/-- A call that leaves the world alone, at a world that has drawn twice. -/
theorem still_twice {P : Program} {f : FuncId} {xs : Array Value} {W : World} {i j : Nat} {u : Value} (hc : Calls P f xs (W.drewN (i + j)) fun e V => e = .returned u ∧ V = W.drewN (i + j)) :
    Calls P f xs (W.drewN (i + j)) fun e V => e = .returned u ∧ ∃ k, V = W.drewN (i + k) := by
  refine hc.mono ?_
  rintro e V ⟨h1, h2⟩
  exact ⟨h1, j, h2⟩

theorem not_err {r : Int} (h : r ≠ 65533) : (r == 65533) = false := by simpa using h

end Go.Proofs.Ytcaepgggffkjpaa.Str

namespace Go.Proofs.Ytcaepgggffkjpaa.Str
open Go.RowKit Go.Proofs Go.Proofs.Ytcaepgggffkjpaa.Byt

theorem wide_tail {n b0 b1 b2 b3 : Nat} (h : 128 ≤ b0) : ∀ j, j < (Lib.decodeN n b0 b1 b2 b3).2 → j = 0 ∨ (j = 1 ∧ 128 ≤ b1) ∨ (j = 2 ∧ 128 ≤ b2) ∨ (j = 3 ∧ 128 ≤ b3) := by
  intro j
  unfold Lib.decodeN
  rw [if_neg (by omega)]
  repeat' split
  all_goals (intro hj; simp only at hj; omega)

theorem get_list (s : ByteArray) (i : Nat) (b : UInt8) (h : s.data.toList[i]? = some b) : s.get! i = b := by
  obtain ⟨⟨l⟩⟩ := s
  simp only at h
  obtain ⟨h1, h2⟩ := List.getElem?_eq_some_iff.1 h
  subst h2
  show (Array.mk l)[i]! = _
  simp [getElem!_pos, h1]

/-- The bytes of one rune beyond ASCII. -/
theorem high_tail (s : ByteArray) (pos : Nat) (h : 128 ≤ (s.get! pos).toNat) (j : Nat) (b : UInt8) (h1 : pos ≤ j) (h2 : j < pos + (Utf8.decode s pos).2) (hb : s.data.toList[j]? = some b) : 128 ≤ b.toNat := by
  rw [Lib.decode_at] at h2
  have hb' := get_list s j b hb
  obtain ⟨k, rfl⟩ : ∃ k, j = pos + k := ⟨j - pos, by omega⟩
  rcases wide_tail h k (Nat.lt_of_add_lt_add_left h2) with rfl | ⟨rfl, h3⟩ | ⟨rfl, h3⟩ | ⟨rfl, h3⟩
  · rw [← hb']; exact h
  all_goals rw [← hb']; exact h3

/-- A step of an iterator over a string that lies in some block. -/
theorem next_more {P : Program} (w : World) (g : Nat) (s : ByteArray) (pos : Nat) (ty : TypeId) (hg : w.heap[g]? = some (.stringIter s pos)) (h : pos < s.size) :
    (Instr.next (.pointer (some ⟨g, 0, none⟩)) true ty).run P w =
      .ok (.tuple #[.bool true, .int .i64 pos, .int .i32 (Utf8.decode s pos).1]) { w with heap := w.heap.setIfInBounds g (.stringIter s (pos + (Utf8.decode s pos).2)) } := by
  simp only [Instr.next, getObj, setObj, Sem.run_bind, Sem.run, hg, Result.andThen, h, if_true]
  simp [goInt]
theorem next_end {P : Program} (w : World) (g : Nat) (s : ByteArray) (pos : Nat) (ty : TypeId) (hg : w.heap[g]? = some (.stringIter s pos)) (h : ¬ pos < s.size) :
    (Instr.next (.pointer (some ⟨g, 0, none⟩)) true ty).run P w = .ok (.tuple #[.bool false]) w := by
  simp [Instr.next, getObj, Sem.run, hg, h]

/-- The two bytes that no name has. -/
def bad (l : List UInt8) : Bool := Lib.containsAny l [10, 0]

/-- At a round's head: the iterator, and what has been passed. -/
def IterAt (w : World) (s : ByteArray) (i : Nat) (wx : World) : Prop :=
  wx.heap[w.heap.size]? = some (.stringIter s i) ∧ Below w.heap.size w wx ∧ Lib.NoAny s.data.toList [10, 0] i

theorem IterAt.start (w : World) (s : ByteArray) : IterAt w s 0 (w.iter s 0) :=
  ⟨World.iter_heap w s 0, (Below.refl _ _).alloc (Nat.le_refl _) _, Lib.NoAny.zero _ _⟩

theorem not_in {b : UInt8} (h : 128 ≤ b.toNat) : ([10, 0] : List UInt8).contains b = false := by
  have h1 : b ≠ 10 := by rintro rfl; simp at h
  have h2 : b ≠ 0 := by rintro rfl; simp at h
  simp [h1, h2]

/-- The iterator moved on. -/
def moved (w : World) (wx : World) (s : ByteArray) (j : Nat) : World := { wx with heap := wx.heap.setIfInBounds w.heap.size (.stringIter s j) }
theorem moved_below {w wx : World} {s : ByteArray} {j : Nat} (h : Below w.heap.size w wx) : Below w.heap.size w (moved w wx s j) := by
  refine ⟨h.os, h.tape, h.output, by simpa [moved] using h.size, fun k hk => ?_⟩
  rw [← h.block k hk]
  simp only [moved]
  rw [Array.getElem?_setIfInBounds_ne (by omega)]
theorem moved_at {w wx : World} {s : ByteArray} {i j : Nat} (h : wx.heap[w.heap.size]? = some (.stringIter s i)) : (moved w wx s j).heap[w.heap.size]? = some (.stringIter s j) := by
  have := (Array.getElem?_eq_some_iff.1 h).1
  simp [moved, this]
theorem moved_size (w wx : World) (s : ByteArray) (j : Nat) : (moved w wx s j).heap.size = wx.heap.size := by simp [moved]

/-- What came behind the step of the iterator leaves it there. -/
theorem IterAt.step {w wx wy : World} {s : ByteArray} {i j : Nat} (h : IterAt w s i wx) (hb : Below (moved w wx s j).heap.size (moved w wx s j) wy) (hn : Lib.NoAny s.data.toList [10, 0] j) : IterAt w s j wy := by
  have hlt := (Array.getElem?_eq_some_iff.1 h.1).1
  refine ⟨?_, (moved_below h.2.1).trans (hb.mono ?_), hn⟩
  · rw [hb.block _ (by rw [moved_size]; exact hlt)]; exact moved_at h.1
  · rw [moved_size]; omega

end Go.Proofs.Ytcaepgggffkjpaa.Str

namespace Go.Proofs.Ytcaepgggffkjpaa.Hdr
open Go.RowKit Go.Proofs Go.Proofs.Ytcaepgggffkjpaa.Byt Go.Proofs.Ytcaepgggffkjpaa.Str Go.Proofs.Ytcaepgggffkjpaa.Dec

/-- The list of a string's bytes. -/
def by_ (s : ByteArray) : List UInt8 := s.data.toList
theorem by_length (s : ByteArray) : (by_ s).length = s.size := Array.length_toList (xs := s.data)

/-- A Name that fits. -/
def nameOk (s : ByteArray) : Bool := decide (1 ≤ s.size) && (decide (s.size ≤ 16) && (!bad (by_ s) && !Lib.hasSuffix (by_ s) [32]))

/-- The name of the table of long names. -/
def isTab (s : ByteArray) : Bool := s.toList == [47, 47]

end Go.Proofs.Ytcaepgggffkjpaa.Hdr

namespace Go.Proofs.Ytcaepgggffkjpaa.Hdr
open Go.RowKit Go.Proofs Go.Proofs.Ytcaepgggffkjpaa.Byt Go.Proofs.Ytcaepgggffkjpaa.Str Go.Proofs.Ytcaepgggffkjpaa.Dec

/-- A literal whose value is known. -/
theorem wpList_built (d : Option Nat) {ops : Array Oper} {rest : List Oper} {o : Oper} {a : Act} {Q : Exit → Act → World → Prop} {w : World} (_ : o.dst = d) (hgd : o.guard = none) (t : TypeId) (ps : Array (Nat × Operand)) (ho : o.op = .build t ps) (vs : Array (Nat × Value)) (v : Value) (hrun : (Instr.build t vs).run Try.prog w = .ok v w)
    (hvs : ps.map (fun x => (x.1, a.eval x.2)) = vs) (h : wpList Try.prog ops Q rest (a.put o.dst v) w) : wpList Try.prog ops Q (o :: rest) a w := by
  refine wpList_plain hgd fun K' hK' => ?_
  unfold Oper.wp execOp
  simp only [ho, hvs, Sem.run_bind, Sem.run_pure, hrun, Result.andThen_ok]
  exact hK' _ _ h

/-- A store whose world is known. -/
theorem wpList_stored {ops : Array Oper} {rest : List Oper} {o : Oper} {a : Act} {Q : Exit → Act → World → Prop} {w w' : World} (hd : o.dst = none) (hgd : o.guard = none) (t : TypeId) (p x : Operand) (ho : o.op = .store t p x) (vp vx : Value) (hp : a.eval p = vp) (hx : a.eval x = vx)
    (hrun : (Instr.storeAt t vp vx).run Try.prog w = .ok () w') (h : wpList Try.prog ops Q rest a w') : wpList Try.prog ops Q (o :: rest) a w := by
  refine wpList_plain hgd fun K' hK' => ?_
  unfold Oper.wp execOp
  simp only [ho, hp, hx, Sem.run_bind, Sem.run_pure, hrun, Result.andThen_ok]
  rw [Oper.upon_skip]
  have e : ∀ v, a.put o.dst v = a := fun v => by rw [hd]; rfl
  rw [e]
  exact hK' _ _ h

end Go.Proofs.Ytcaepgggffkjpaa.Hdr

namespace Go.Proofs.Ytcaepgggffkjpaa.Hdr
open Go.RowKit Go.Proofs Go.Proofs.Ytcaepgggffkjpaa.Byt Go.Proofs.Ytcaepgggffkjpaa.Str Go.Proofs.Ytcaepgggffkjpaa.Dec

def numOf : Value → Nat | .int _ n => n.toNat | _ => 0

end Go.Proofs.Ytcaepgggffkjpaa.Hdr

namespace Go.Proofs.Ytcaepgggffkjpaa.Hdr
open Go.RowKit Go.Proofs Go.Proofs.Ytcaepgggffkjpaa.Byt Go.Proofs.Ytcaepgggffkjpaa.Str Go.Proofs.Ytcaepgggffkjpaa.Dec

/-- The numbers of a header, in the order of their fields. -/
def num (t u g m z : Int) : Nat → Int | 0 => t | 1 => u | 2 => g | 3 => m | _ => z
def wd : Nat → Nat | 0 => 12 | 1 => 6 | 2 => 6 | 3 => 8 | _ => 10
def bs : Nat → Nat | 3 => 8 | _ => 10
def mo : Nat → Bool | 4 => false | _ => true
theorem bs_vb (k : Nat) : vb (bs k : Int) = true := by
  rw [vb_iff]; unfold bs; split <;> simp
theorem bs_2 (k : Nat) : 2 ≤ bs k ∧ bs k ≤ 10 := by unfold bs; split <;> omega
theorem wd_18 (k : Nat) : 1 ≤ wd k ∧ wd k ≤ 18 := by unfold wd; split <;> omega

/-- A number fits its field. -/
def okF (tab : Bool) (k : Nat) (n : Int) : Bool := if (mo k && tab) = true then n == 0 else decide (0 ≤ n) && decide (nd (bs k) n.toNat ≤ wd k)
/-- Its field. -/
def fldF (tab : Bool) (k : Nat) (n : Int) : List UInt8 := if (mo k && tab) = true then List.replicate (wd k) 32 else field (bs k) n.toNat (wd k)
theorem fldF_length {tab : Bool} {k : Nat} {n : Int} (h : okF tab k n = true) : (fldF tab k n).length = wd k := by
  unfold okF at h
  unfold fldF
  split
  · simp
  · rename_i h2
    rw [if_neg h2, Bool.and_eq_true, decide_eq_true_eq, decide_eq_true_eq] at h
    exact field_length (bs_2 k).1 h.2

/-- The encoding up to a field. -/
def pre (s : ByteArray) (f : Nat → Int) : Nat → List UInt8
  | 0 => by_ s ++ List.replicate (16 - s.size) 32
  | k + 1 => pre s f k ++ fldF (isTab s) k (f k)
/-- Where a field begins. -/
def off : Nat → Nat | 0 => 16 | k + 1 => off k + wd k
def allOk (s : ByteArray) (f : Nat → Int) : Nat → Bool
  | 0 => true
  | k + 1 => allOk s f k && okF (isTab s) k (f k)
theorem pre_length {s : ByteArray} {f : Nat → Int} (hs : s.size ≤ 16) : ∀ k, allOk s f k = true → (pre s f k).length = off k
  | 0, _ => by simp [pre, off, by_length]; omega
  | k + 1, h => by
    simp only [allOk, Bool.and_eq_true] at h
    simp only [pre, off, List.length_append]
    rw [pre_length hs k h.1, fldF_length h.2]
theorem allOk_false {s : ByteArray} {f : Nat → Int} {k : Nat} (h : okF (isTab s) k (f k) = false) : ∀ j, k < j → allOk s f j = false
  | 0, hj => by omega
  | j + 1, hj => by
    simp only [allOk]
    by_cases e : k = j
    · subst e; rw [h]; simp
    · rw [allOk_false h j (by omega)]; rfl

/-- The error number of Encode. -/
def eerr (s : ByteArray) (f : Nat → Int) : Int := if nameOk s = true then (if allOk s f 5 = true then 0 else 9) else 6
/-- The bytes of Encode. -/
def eout (s : ByteArray) (f : Nat → Int) : List UInt8 := if eerr s f = 0 then pre s f 5 ++ [96, 10] else []
theorem eerr_6 {s : ByteArray} {f : Nat → Int} (h : nameOk s = false) : eerr s f = 6 ∧ eout s f = [] := by
  have : eerr s f = 6 := by unfold eerr; rw [if_neg (by rw [h]; simp)]
  exact ⟨this, by unfold eout; rw [this]; rfl⟩
theorem eerr_9 {s : ByteArray} {f : Nat → Int} (h : nameOk s = true) (h2 : allOk s f 5 = false) : eerr s f = 9 ∧ eout s f = [] := by
  have : eerr s f = 9 := by unfold eerr; rw [if_pos h, if_neg (by rw [h2]; simp)]
  exact ⟨this, by unfold eout; rw [this]; rfl⟩
theorem eerr_0 {s : ByteArray} {f : Nat → Int} (h : nameOk s = true) (h2 : allOk s f 5 = true) : eerr s f = 0 ∧ eout s f = pre s f 5 ++ [96, 10] := by
  have : eerr s f = 0 := by unfold eerr; rw [if_pos h, if_pos h2]
  exact ⟨this, by unfold eout; rw [this]; rfl⟩
theorem nameOk_iff {s : ByteArray} : nameOk s = true ↔ 1 ≤ s.size ∧ s.size ≤ 16 ∧ bad (by_ s) = false ∧ Lib.hasSuffix (by_ s) [32] = false := by
  unfold nameOk
  simp
theorem eout_length (s : ByteArray) (f : Nat → Int) : (eout s f).length ≤ 60 := by
  by_cases h : nameOk s = true
  · cases h2 : allOk s f 5
    · rw [(eerr_9 h h2).2]; simp
    · rw [(eerr_0 h h2).2, List.length_append, pre_length (nameOk_iff.1 h).2.1 5 h2]; decide
  · rw [(eerr_6 (f := f) (by simpa using h)).2]; simp
/-- What Encode gives. -/
def Encodes (s : ByteArray) (f : Nat → Int) (w : World) (e : Ending) (w' : World) : Prop :=
  ∃ v, e = .returned (.tuple #[v, .int .i64 (eerr s f)]) ∧ Own w' w.heap.size v (eout s f).length (eout s f) ∧ Below w.heap.size w w'
theorem Encodes.empty {s : ByteArray} {f : Nat → Int} {w w' : World} {k : Int} (h : eerr s f = k ∧ eout s f = []) (hb : Below w.heap.size w w') : Encodes s f w (.returned (.tuple #[.slice none 0 0, .int .i64 k])) w' := by
  refine ⟨_, by rw [h.1], ?_, hb⟩
  rw [h.2]; exact Own.nil _ _

/-- The cells of a header in memory. -/
def HAt (w : World) (B : Nat) (s : ByteArray) (t u g m z : Int) : Prop :=
  w.cell? ⟨B, 0, none⟩ = some (.string s) ∧ w.cell? ⟨B, 1, none⟩ = some (.int .i64 t) ∧ w.cell? ⟨B, 2, none⟩ = some (.int .i64 u) ∧ w.cell? ⟨B, 3, none⟩ = some (.int .i64 g) ∧
    w.cell? ⟨B, 4, none⟩ = some (.int .i64 m) ∧ w.cell? ⟨B, 5, none⟩ = some (.int .i64 z) ∧ B < w.heap.size
theorem HAt.below {w w' : World} {B K : Nat} {s : ByteArray} {t u g m z : Int} (h : HAt w B s t u g m z) (hb : Below K w w') (hB : B < K) : HAt w' B s t u g m z := by
  obtain ⟨h0, h1, h2, h3, h4, h5, h6⟩ := h
  refine ⟨?_, ?_, ?_, ?_, ?_, ?_, Nat.lt_of_lt_of_le h6 hb.size⟩ <;> (rw [hb.cell (by exact hB)]; assumption)
theorem HAt.new (w : World) (s : ByteArray) (t u g m z : Int) (ty : TypeId) : HAt (w.alloc (.cells #[.string s, .int .i64 t, .int .i64 u, .int .i64 g, .int .i64 m, .int .i64 z] ty)) w.heap.size s t u g m z := by
  refine ⟨?_, ?_, ?_, ?_, ?_, ?_, by simp⟩ <;> (rw [World.cell?_alloc_at _ _ _ _ rfl]; rfl)
theorem stays {w w' : World} {B K : Nat} (hb : Below K w w') (hB : B < K) : ∀ o, w'.cell? ⟨B, o, none⟩ = w.cell? ⟨B, o, none⟩ := fun o => hb.cell (p := ⟨B, o, none⟩) hB
theorem two_sub {n : Nat} (h : n ≤ 16) : (16 : Int) - (n : Int) = ((16 - n : Nat) : Int) := by omega
end Go.Proofs.Ytcaepgggffkjpaa.Hdr
