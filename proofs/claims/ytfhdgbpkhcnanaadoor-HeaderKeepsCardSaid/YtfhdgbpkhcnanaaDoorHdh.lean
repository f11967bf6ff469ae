/-
  What header.Decode gives: the plain mathematics.
-/
import Derived.Test.YtfhdgbpkhcnanaaDoorHdd
import Derived.Lib.TrimByte
namespace Go.Proofs.YtfhdgbpkhcnanaaDoor.Hdr
open Go.RowKit Go.Proofs Go.Proofs.YtfhdgbpkhcnanaaDoor.Byt Go.Proofs.YtfhdgbpkhcnanaaDoor.Str Go.Proofs.YtfhdgbpkhcnanaaDoor.Dec

/-- The bytes of a field. -/
def part (l : List UInt8) (k : Nat) : List UInt8 := (l.drop (off k)).take (wd k)
/-- A field read. -/
def rdF (tab : Bool) (k : Nat) (x : List UInt8) : Option Nat := if (mo k && tab) = true then (if spaces x = true then some 0 else none) else parse (bs k) x
/-- The name field without trailing spaces. -/
def nm (l : List UInt8) : ByteArray := ⟨(Lib.trimRightB (l.take 16) 32).toArray⟩
theorem by_nm (l : List UInt8) : by_ (nm l) = Lib.trimRightB (l.take 16) 32 := rfl
theorem nm_size (l : List UInt8) : (nm l).size ≤ 16 := by
  rw [← by_length, by_nm]
  unfold Lib.trimRightB
  rw [List.length_reverse]
  have h1 := (List.dropWhile_sublist (· == (32 : UInt8)) (l := (l.take 16).reverse)).length_le
  rw [List.length_reverse, List.length_take] at h1
  omega

/-- The fields up to one are well formed. -/
def allRd (l : List UInt8) : Nat → Bool
  | 0 => true
  | k + 1 => allRd l k && (rdF (isTab (nm l)) k (part l k)).isSome
theorem allRd_false {l : List UInt8} {k : Nat} (h : rdF (isTab (nm l)) k (part l k) = none) : ∀ j, k < j → allRd l j = false
  | 0, hj => by omega
  | j + 1, hj => by
    simp only [allRd]
    by_cases e : k = j
    · subst e; rw [h]; simp
    · rw [allRd_false h j (by omega)]; rfl
/-- The error number of Decode. -/
def derr (l : List UInt8) : Int :=
  if l.length < 60 then 2 else if (l.drop 58).take 2 ≠ [96, 10] then 4 else if nameOk (nm l) = false then 6 else if allRd l 5 = false then 3 else 0
/-- The name and the numbers of Decode. -/
def dname (l : List UInt8) : ByteArray := if derr l = 0 then nm l else ⟨#[]⟩
def dnum (l : List UInt8) (k : Nat) : Int := if derr l = 0 then (((rdF (isTab (nm l)) k (part l k)).getD 0 : Nat) : Int) else 0

theorem derr_2 {l : List UInt8} (h : l.length < 60) : derr l = 2 := if_pos h
theorem derr_4 {l : List UInt8} (h : 60 ≤ l.length) (h2 : (l.drop 58).take 2 ≠ [96, 10]) : derr l = 4 := by
  unfold derr; rw [if_neg (by omega), if_pos h2]
theorem derr_6 {l : List UInt8} (h : 60 ≤ l.length) (h2 : (l.drop 58).take 2 = [96, 10]) (h3 : nameOk (nm l) = false) : derr l = 6 := by
  unfold derr; rw [if_neg (by omega), if_neg (by simp [h2]), if_pos h3]
theorem derr_3 {l : List UInt8} (h : 60 ≤ l.length) (h2 : (l.drop 58).take 2 = [96, 10]) (h3 : nameOk (nm l) = true) (h4 : allRd l 5 = false) : derr l = 3 := by
  unfold derr; rw [if_neg (by omega), if_neg (by simp [h2]), if_neg (by simp [h3]), if_pos h4]
theorem derr_0 {l : List UInt8} (h : 60 ≤ l.length) (h2 : (l.drop 58).take 2 = [96, 10]) (h3 : nameOk (nm l) = true) (h4 : allRd l 5 = true) : derr l = 0 := by
  unfold derr; rw [if_neg (by omega), if_neg (by simp [h2]), if_neg (by simp [h3]), if_neg (by simp [h4])]

/-- What Decode gives. -/
def Decodes (l : List UInt8) (w : World) (e : Ending) (w' : World) : Prop :=
  e = .returned (.tuple #[.agg #[.string (dname l), .int .i64 (dnum l 0), .int .i64 (dnum l 1), .int .i64 (dnum l 2), .int .i64 (dnum l 3), .int .i64 (dnum l 4)], .int .i64 (derr l)]) ∧ Below w.heap.size w w'
theorem Decodes.bad {l : List UInt8} {w w' : World} {k : Int} (h : derr l = k) (hk : k ≠ 0) (hb : Below w.heap.size w w') :
    Decodes l w (.returned (.tuple #[.agg #[.string ⟨#[]⟩, .int .i64 0, .int .i64 0, .int .i64 0, .int .i64 0, .int .i64 0], .int .i64 k])) w' := by
  have h0 : ¬ derr l = 0 := by rw [h]; exact hk
  have h1 : dname l = ⟨#[]⟩ := if_neg h0
  have h2 : ∀ k, dnum l k = 0 := fun k => if_neg h0
  refine ⟨?_, hb⟩
  rw [h1, h2, h2, h2, h2, h2, h]
theorem Decodes.good {l : List UInt8} {w w' : World} (h : derr l = 0) (hb : Below w.heap.size w w') :
    Decodes l w (.returned (.tuple #[.agg #[.string (nm l), .int .i64 (((rdF (isTab (nm l)) 0 (part l 0)).getD 0 : Nat) : Int), .int .i64 (((rdF (isTab (nm l)) 1 (part l 1)).getD 0 : Nat) : Int), .int .i64 (((rdF (isTab (nm l)) 2 (part l 2)).getD 0 : Nat) : Int),
      .int .i64 (((rdF (isTab (nm l)) 3 (part l 3)).getD 0 : Nat) : Int), .int .i64 (((rdF (isTab (nm l)) 4 (part l 4)).getD 0 : Nat) : Int)], .int .i64 0])) w' := by
  have h1 : dname l = nm l := if_pos h
  have h2 : ∀ k, dnum l k = (((rdF (isTab (nm l)) k (part l k)).getD 0 : Nat) : Int) := fun k => if_pos h
  refine ⟨?_, hb⟩
  rw [h1, h2, h2, h2, h2, h2, h]

/-- A byte that stands in a slice that is long enough: where the slice lies. -/
theorem Rd_where {w : World} {K n : Nat} {A : Option Addr} {l : List UInt8} (h : Rd w K A n l) (hn : 0 < n) : ∃ b o, A = some ⟨b, o, none⟩ ∧ b < K := by
  obtain ⟨b, o, e, hb, _⟩ := h.2 0 (by have := h.1; omega)
  exact ⟨b, o, e, hb⟩
end Go.Proofs.YtfhdgbpkhcnanaaDoor.Hdr
