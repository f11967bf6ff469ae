/-
  Objects and their encoding: mathematics, no program.
  objsym: sizes, alignments, symbols that are valid; the names so far.
-/
import Derived.Test.YtbcjbembhajgcaaDoorZOa
import Derived.Test.YtbcjbembhajgcaaDoorZShelf
import Derived.Deep.Cut
import Derived.Deep.CutRange
import Derived.Maps.OwnOps
import Derived.Maps.Views
namespace Go.Proofs.YtbcjbembhajgcaaDoor.Obj
open Go.RowKit Go.Proofs

/-- A symbol. -/
structure Sy where
  name : ByteArray
  bind : Int
  size : Int
  align : Int
def Sy.val (x : Sy) : Value := .agg #[.string x.name, .int .i64 x.bind, .int .i64 x.size, .int .i64 x.align]
def pows : List Int := [1, 2, 4, 8, 16, 32, 64, 128, 256, 512, 1024, 2048, 4096, 8192, 16384, 32768, 65536]
def pow2 (n : Int) : Bool := pows.contains n
def sizeOk (n : Int) : Bool := decide (0 ≤ n) && decide (n ≤ 4294967295)
def nameOk (s : ByteArray) : Bool := decide (s.size ≠ 0) && (decide (s.size ≤ 255) && !(s.data.toList.contains 0))
def bindOk (b z a : Int) : Bool :=
  if b = 1 ∨ b = 2 then sizeOk z && decide (a = 0) else if b = 3 then sizeOk z && pow2 a else if b = 4 ∨ b = 5 then decide (z = 0) && decide (a = 0) else false
def symOk (x : Sy) : Bool := nameOk x.name && bindOk x.bind x.size x.align
def has (l : List Sy) (s : ByteArray) : Bool := l.any fun x => decide (x.name = s)
/-- The symbols may stand behind those that were seen. -/
def goodL : List Sy → List Sy → Bool
  | _, [] => true
  | seen, x :: r => !has seen x.name && symOk x && goodL (seen ++ [x]) r
def validO (l : List Sy) : Bool := decide (l.length ≤ 65536) && goodL [] l

theorem pow2_range {n : Int} (h : pow2 n = true) : 1 ≤ n ∧ n ≤ 65536 := by
  unfold pow2 pows at h
  simp only [List.contains_eq_mem, List.mem_cons, List.not_mem_nil, or_false, decide_eq_true_eq] at h
  omega
theorem bindOk_range {b z a : Int} (h : bindOk b z a = true) : 1 ≤ b ∧ b ≤ 5 ∧ 0 ≤ z ∧ z ≤ 4294967295 ∧ 0 ≤ a ∧ a ≤ 65536 := by
  unfold bindOk sizeOk at h
  split at h
  · simp at h; omega
  · split at h
    · simp at h
      have := pow2_range h.2
      omega
    · split at h
      · simp at h; omega
      · cases h
/-! ### the encoding -/
def w4 (n : Nat) : List UInt8 := [UInt8.ofNat (n / 16777216), UInt8.ofNat (n / 65536), UInt8.ofNat (n / 256), UInt8.ofNat n]
def n4 (l : List UInt8) : Nat := (l.take 4).foldl (fun n c => n * 256 + c.toNat) 0
def kS (l : List UInt8) : Nat := (l.getD 9 0).toNat
def str (l : List UInt8) : ByteArray := ⟨l.toArray⟩
def cutS (l : List UInt8) : Prop := l.length < 10 ∨ l.length < 10 + kS l
instance (l : List UInt8) : Decidable (cutS l) := by unfold cutS; exact inferInstance
theorem str_of (s : ByteArray) : str s.data.toList = s := rfl
theorem len_list (s : ByteArray) : s.data.toList.length = s.size := rfl

end Go.Proofs.YtbcjbembhajgcaaDoor.Obj

namespace Go.Proofs.YtbcjbembhajgcaaDoor.Obj
open Go.RowKit Go.Proofs Go.Proofs.YtbcjbembhajgcaaDoor.Byt

/-! ### powers of two -/
/-- Block b is a map that holds true at the names of the symbols, and nothing else. -/
def Nms (w : World) (b n : Nat) (xs : List Sy) : Prop :=
  ∃ D : DataW Unit, w.ownsMap Tryd.prog 9 (plainElem Tryd.prog 4) b n D ∧ ∀ s : ByteArray, D.atKey (.string s.data.toList) (.lit (.bool false)) = .lit (.bool (has xs s))
theorem Nms.start (w : World) : Nms (w.alloc (.map #[] 0)) w.heap.size 0 [] :=
  ⟨_, World.ownsMap_made w _ _ _, fun s => by simp [DataW.atKey, has]⟩
theorem Nms.kept {w w' : World} {b n : Nat} {xs : List Sy} (h : Nms w b n xs) {row : Option Nat} (hg : w.grownBy w' row) (hne : some b ≠ row) : Nms w' b n xs := by
  obtain ⟨D, h1, h2⟩ := h
  exact ⟨D, h1.kept hg hne, h2⟩
theorem Nms.alloc {w : World} {b n : Nat} {xs : List Sy} (h : Nms w b n xs) (o : Obj) : Nms (w.alloc o) b n xs := by
  obtain ⟨D, h1, h2⟩ := h
  exact ⟨D, h1.alloc o, h2⟩
theorem Nms.below {w w' : World} {b n : Nat} {xs : List Sy} (h : Nms w b n xs) (hb : Below w.heap.size w w') : Nms w' b n xs :=
  h.kept (row := none) ⟨hb.os, hb.tape, hb.output, hb.size, fun k hk _ => hb.block k hk⟩ (by simp)
end Go.Proofs.YtbcjbembhajgcaaDoor.Obj
