/-
  What header.Encode gives: the plain mathematics.
-/
import Derived.Test.YtfhdgbpkhcnanaaDoorHdc
namespace Go.Proofs.YtfhdgbpkhcnanaaDoor.Hdr
open Go.RowKit Go.Proofs Go.Proofs.YtfhdgbpkhcnanaaDoor.Byt Go.Proofs.YtfhdgbpkhcnanaaDoor.Str Go.Proofs.YtfhdgbpkhcnanaaDoor.Dec

/-- The numbers of a header, in the order of their fields. -/
def num (t u g m z : Int) : Nat → Int | 0 => t | 1 => u | 2 => g | 3 => m | _ => z
def wd : Nat → Nat | 0 => 12 | 1 => 6 | 2 => 6 | 3 => 8 | _ => 10
def bs : Nat → Nat | 3 => 8 | _ => 10
def mo : Nat → Bool | 4 => false | _ => true
theorem bs_vb (k : Nat) : vb (bs k : Int) = true := by
  rw [vb_iff]; unfold bs; split <;> simp
theorem bs_2 (k : Nat) : 2 ≤ bs k ∧ bs k ≤ 10 := by unfold bs; split <;> omega
theorem wd_18 (k : Nat) : 1 ≤ wd k ∧ wd k ≤ 18 := by unfold wd; split <;> omega

/-- A number fits its field. -/
def okF (tab : Bool) (k : Nat) (n : Int) : Bool := if (mo k && tab) = true then n == 0 else decide (0 ≤ n) && decide (nd (bs k) n.toNat ≤ wd k)
/-- Its field. -/
def fldF (tab : Bool) (k : Nat) (n : Int) : List UInt8 := if (mo k && tab) = true then List.replicate (wd k) 32 else field (bs k) n.toNat (wd k)
theorem fldF_length {tab : Bool} {k : Nat} {n : Int} (h : okF tab k n = true) : (fldF tab k n).length = wd k := by
  unfold okF at h
  unfold fldF
  split
  · simp
  · rename_i h2
    rw [if_neg h2, Bool.and_eq_true, decide_eq_true_eq, decide_eq_true_eq] at h
    exact field_length (bs_2 k).1 h.2

/-- The encoding up to a field. -/
def pre (s : ByteArray) (f : Nat → Int) : Nat → List UInt8
  | 0 => by_ s ++ List.replicate (16 - s.size) 32
  | k + 1 => pre s f k ++ fldF (isTab s) k (f k)
/-- Where a field begins. -/
def off : Nat → Nat | 0 => 16 | k + 1 => off k + wd k
def allOk (s : ByteArray) (f : Nat → Int) : Nat → Bool
  | 0 => true
  | k + 1 => allOk s f k && okF (isTab s) k (f k)
theorem pre_length {s : ByteArray} {f : Nat → Int} (hs : s.size ≤ 16) : ∀ k, allOk s f k = true → (pre s f k).length = off k
  | 0, _ => by simp [pre, off, by_length]; omega
  | k + 1, h => by
    simp only [allOk, Bool.and_eq_true] at h
    simp only [pre, off, List.length_append]
    rw [pre_length hs k h.1, fldF_length h.2]
theorem allOk_false {s : ByteArray} {f : Nat → Int} {k : Nat} (h : okF (isTab s) k (f k) = false) : ∀ j, k < j → allOk s f j = false
  | 0, hj => by omega
  | j + 1, hj => by
    simp only [allOk]
    by_cases e : k = j
    · subst e; rw [h]; simp
    · rw [allOk_false h j (by omega)]; rfl

/-- The error number of Encode. -/
def eerr (s : ByteArray) (f : Nat → Int) : Int := if nameOk s = true then (if allOk s f 5 = true then 0 else 9) else 6
/-- The bytes of Encode. -/
def eout (s : ByteArray) (f : Nat → Int) : List UInt8 := if eerr s f = 0 then pre s f 5 ++ [96, 10] else []
theorem eerr_6 {s : ByteArray} {f : Nat → Int} (h : nameOk s = false) : eerr s f = 6 ∧ eout s f = [] := by
  have : eerr s f = 6 := by unfold eerr; rw [if_neg (by rw [h]; simp)]
  exact ⟨this, by unfold eout; rw [this]; rfl⟩
theorem eerr_9 {s : ByteArray} {f : Nat → Int} (h : nameOk s = true) (h2 : allOk s f 5 = false) : eerr s f = 9 ∧ eout s f = [] := by
  have : eerr s f = 9 := by unfold eerr; rw [if_pos h, if_neg (by rw [h2]; simp)]
  exact ⟨this, by unfold eout; rw [this]; rfl⟩
theorem eerr_0 {s : ByteArray} {f : Nat → Int} (h : nameOk s = true) (h2 : allOk s f 5 = true) : eerr s f = 0 ∧ eout s f = pre s f 5 ++ [96, 10] := by
  have : eerr s f = 0 := by unfold eerr; rw [if_pos h, if_pos h2]
  exact ⟨this, by unfold eout; rw [this]; rfl⟩
theorem nameOk_iff {s : ByteArray} : nameOk s = true ↔ 1 ≤ s.size ∧ s.size ≤ 16 ∧ bad (by_ s) = false ∧ Lib.hasSuffix (by_ s) [32] = false := by
  unfold nameOk
  simp
theorem eout_length (s : ByteArray) (f : Nat → Int) : (eout s f).length ≤ 60 := by
  by_cases h : nameOk s = true
  · cases h2 : allOk s f 5
    · rw [(eerr_9 h h2).2]; simp
    · rw [(eerr_0 h h2).2, List.length_append, pre_length (nameOk_iff.1 h).2.1 5 h2]; decide
  · rw [(eerr_6 (f := f) (by simpa using h)).2]; simp
/-- What Encode gives. -/
def Encodes (s : ByteArray) (f : Nat → Int) (w : World) (e : Ending) (w' : World) : Prop :=
  ∃ v, e = .returned (.tuple #[v, .int .i64 (eerr s f)]) ∧ Own w' w.heap.size v (eout s f).length (eout s f) ∧ Below w.heap.size w w'
theorem Encodes.empty {s : ByteArray} {f : Nat → Int} {w w' : World} {k : Int} (h : eerr s f = k ∧ eout s f = []) (hb : Below w.heap.size w w') : Encodes s f w (.returned (.tuple #[.slice none 0 0, .int .i64 k])) w' := by
  refine ⟨_, by rw [h.1], ?_, hb⟩
  rw [h.2]; exact Own.nil _ _

/-- The cells of a header in memory. -/
def HAt (w : World) (B : Nat) (s : ByteArray) (t u g m z : Int) : Prop :=
  w.cell? ⟨B, 0, none⟩ = some (.string s) ∧ w.cell? ⟨B, 1, none⟩ = some (.int .i64 t) ∧ w.cell? ⟨B, 2, none⟩ = some (.int .i64 u) ∧ w.cell? ⟨B, 3, none⟩ = some (.int .i64 g) ∧
    w.cell? ⟨B, 4, none⟩ = some (.int .i64 m) ∧ w.cell? ⟨B, 5, none⟩ = some (.int .i64 z) ∧ B < w.heap.size
theorem HAt.below {w w' : World} {B K : Nat} {s : ByteArray} {t u g m z : Int} (h : HAt w B s t u g m z) (hb : Below K w w') (hB : B < K) : HAt w' B s t u g m z := by
  obtain ⟨h0, h1, h2, h3, h4, h5, h6⟩ := h
  refine ⟨?_, ?_, ?_, ?_, ?_, ?_, Nat.lt_of_lt_of_le h6 hb.size⟩ <;> (rw [hb.cell (by exact hB)]; assumption)
theorem HAt.new (w : World) (s : ByteArray) (t u g m z : Int) (ty : TypeId) : HAt (w.alloc (.cells #[.string s, .int .i64 t, .int .i64 u, .int .i64 g, .int .i64 m, .int .i64 z] ty)) w.heap.size s t u g m z := by
  refine ⟨?_, ?_, ?_, ?_, ?_, ?_, by simp⟩ <;> (rw [World.cell?_alloc_at _ _ _ _ rfl]; rfl)
theorem stays {w w' : World} {B K : Nat} (hb : Below K w w') (hB : B < K) : ∀ o, w'.cell? ⟨B, o, none⟩ = w.cell? ⟨B, o, none⟩ := fun o => hb.cell (p := ⟨B, o, none⟩) hB
theorem two_sub {n : Nat} (h : n ≤ 16) : (16 : Int) - (n : Int) = ((16 - n : Nat) : Int) := by omega
end Go.Proofs.YtfhdgbpkhcnanaaDoor.Hdr
