/-
  What header.Decode gives: the plain mathematics. header.Decode: the errors before the fields. header.Decode: what a round needs, and what is in memory. Encoding and decoding undo each other: the plain mathematics.
-/
import Derived.Test.YtpedngfmjhpojaaGreatDoorZMb
import Derived.Lib.TrimByte
import Derived.Laws.EntriesVeiled
import Derived.Deep.LoopGhost
namespace Go.Proofs.YtpedngfmjhpojaaGreatDoor.Hdr
open Go.RowKit Go.Proofs Go.Proofs.YtpedngfmjhpojaaGreatDoor.Byt Go.Proofs.YtpedngfmjhpojaaGreatDoor.Str Go.Proofs.YtpedngfmjhpojaaGreatDoor.Dec

/-- The bytes of a field. -/
def part (l : List UInt8) (k : Nat) : List UInt8 := (l.drop (off k)).take (wd k)
/-- A field read. -/
def rdF (tab : Bool) (k : Nat) (x : List UInt8) : Option Nat := if (mo k && tab) = true then (if spaces x = true then some 0 else none) else parse (bs k) x
/-- The name field without trailing spaces. -/
def nm (l : List UInt8) : ByteArray := ⟨(Lib.trimRightB (l.take 16) 32).toArray⟩
theorem by_nm (l : List UInt8) : by_ (nm l) = Lib.trimRightB (l.take 16) 32 := rfl
theorem nm_size (l : List UInt8) : (nm l).size ≤ 16 := by
  rw [← by_length, by_nm]
  unfold Lib.trimRightB
  rw [List.length_reverse]
  have h1 := (List.dropWhile_sublist (· == (32 : UInt8)) (l := (l.take 16).reverse)).length_le
  rw [List.length_reverse, List.length_take] at h1
  omega

/-- The fields up to one are well formed. -/
def allRd (l : List UInt8) : Nat → Bool
  | 0 => true
  | k + 1 => allRd l k && (rdF (isTab (nm l)) k (part l k)).isSome
/-- The error number of Decode. -/
def derr (l : List UInt8) : Int :=
  if l.length < 60 then 2 else if (l.drop 58).take 2 ≠ [96, 10] then 4 else if nameOk (nm l) = false then 6 else if allRd l 5 = false then 3 else 0
/-- The name and the numbers of Decode. -/
def dname (l : List UInt8) : ByteArray := if derr l = 0 then nm l else ⟨#[]⟩
def dnum (l : List UInt8) (k : Nat) : Int := if derr l = 0 then (((rdF (isTab (nm l)) k (part l k)).getD 0 : Nat) : Int) else 0

theorem derr_0 {l : List UInt8} (h : 60 ≤ l.length) (h2 : (l.drop 58).take 2 = [96, 10]) (h3 : nameOk (nm l) = true) (h4 : allRd l 5 = true) : derr l = 0 := by
  unfold derr; rw [if_neg (by omega), if_neg (by simp [h2]), if_neg (by simp [h3]), if_neg (by simp [h4])]

/-- A byte that stands in a slice that is long enough: where the slice lies. -/
theorem Rd_where {w : World} {K n : Nat} {A : Option Addr} {l : List UInt8} (h : Rd w K A n l) (hn : 0 < n) : ∃ b o, A = some ⟨b, o, none⟩ ∧ b < K := by
  obtain ⟨b, o, e, hb, _⟩ := h.2 0 (by have := h.1; omega)
  exact ⟨b, o, e, hb⟩
end Go.Proofs.YtpedngfmjhpojaaGreatDoor.Hdr

namespace Go.Proofs.YtpedngfmjhpojaaGreatDoor.Hdr
open Go.RowKit Go.Proofs Go.Proofs.YtpedngfmjhpojaaGreatDoor.Byt Go.Proofs.YtpedngfmjhpojaaGreatDoor.Str Go.Proofs.YtpedngfmjhpojaaGreatDoor.Dec

theorem staysf {w w' : World} {B K : Nat} (hb : Below K w w') (hB : B < K) : ∀ o, w'.frozen? ⟨B, o, none⟩ = w.frozen? ⟨B, o, none⟩ := fun o => hb.frozen (p := ⟨B, o, none⟩) hB

end Go.Proofs.YtpedngfmjhpojaaGreatDoor.Hdr

namespace Go.Proofs.YtpedngfmjhpojaaGreatDoor.Hdr
open Go.RowKit Go.Proofs Go.Proofs.YtpedngfmjhpojaaGreatDoor.Byt Go.Proofs.YtpedngfmjhpojaaGreatDoor.Str Go.Proofs.YtpedngfmjhpojaaGreatDoor.Dec

theorem allRd_next {l : List UInt8} {k x : Nat} (h : allRd l k = true) (h2 : rdF (isTab (nm l)) k (part l k) = some x) : allRd l (k + 1) = true := by
  simp only [allRd, h, h2]; rfl
end Go.Proofs.YtpedngfmjhpojaaGreatDoor.Hdr

namespace Go.Proofs.YtpedngfmjhpojaaGreatDoor.Hdr
open Go.RowKit Go.Proofs Go.Proofs.YtpedngfmjhpojaaGreatDoor.Byt Go.Proofs.YtpedngfmjhpojaaGreatDoor.Str Go.Proofs.YtpedngfmjhpojaaGreatDoor.Dec

theorem suffix_32 (xs : List UInt8) (c : UInt8) : Lib.hasSuffix (xs ++ [c]) [32] = (32 == c) := by
  unfold Lib.hasSuffix List.isSuffixOf
  simp [List.isPrefixOf]
/-- Trailing spaces taken away. -/
theorem trim_pad {xs : List UInt8} (h : Lib.hasSuffix xs [32] = false) (k : Nat) : Lib.trimRightB (xs ++ List.replicate k 32) 32 = xs := by
  unfold Lib.trimRightB
  rw [List.reverse_append, List.reverse_replicate]
  have h1 : (List.replicate k (32 : UInt8) ++ xs.reverse).dropWhile (· == 32) = xs.reverse.dropWhile (· == 32) := by
    induction k with
    | zero => rfl
    | succ k ih => simp [List.replicate_succ]
  rw [h1]
  rcases List.eq_nil_or_concat xs with rfl | ⟨ys, c, rfl⟩
  · rfl
  · rw [List.concat_eq_append, suffix_32] at h
    have hc : (c == 32) = false := by
      rw [beq_eq_false_iff_ne] at h ⊢
      exact fun e => h e.symm
    simp [hc]
theorem by_inj {s s' : ByteArray} (h : by_ s = by_ s') : s = s' := by
  obtain ⟨⟨a⟩⟩ := s
  obtain ⟨⟨b⟩⟩ := s'
  simp only [by_] at h
  rw [h]

theorem pre_split (s : ByteArray) (f : Nat → Int) (k : Nat) : ∀ j, k < j → ∃ t, pre s f j = pre s f k ++ (fldF (isTab s) k (f k) ++ t)
  | 0, h => by omega
  | j + 1, h => by
    by_cases e : k = j
    · subst e; exact ⟨[], by simp [pre]⟩
    · obtain ⟨t, ht⟩ := pre_split s f k j (by omega)
      exact ⟨t ++ fldF (isTab s) j (f j), by simp [pre, ht]⟩
theorem allOk_at {s : ByteArray} {f : Nat → Int} {k : Nat} : ∀ j, k < j → allOk s f j = true → allOk s f k = true ∧ okF (isTab s) k (f k) = true
  | 0, h, _ => by omega
  | j + 1, h, ha => by
    simp only [allOk, Bool.and_eq_true] at ha
    by_cases e : k = j
    · subst e; exact ha
    · exact allOk_at j (by omega) ha.1

theorem rdF_fldF {tab : Bool} {k : Nat} {n : Int} (h : okF tab k n = true) : rdF tab k (fldF tab k n) = some n.toNat ∧ ((n.toNat : Nat) : Int) = n := by
  unfold okF at h
  unfold rdF fldF
  split
  · rename_i ht
    rw [if_pos ht, beq_iff_eq] at h
    subst h
    rw [if_pos (by simp [spaces])]
    exact ⟨rfl, rfl⟩
  · rename_i ht
    rw [if_neg ht, Bool.and_eq_true, decide_eq_true_eq, decide_eq_true_eq] at h
    exact ⟨parse_field (bs_2 k).1 (bs_2 k).2 _ _, by omega⟩

theorem part_pre {s : ByteArray} {f : Nat → Int} {k : Nat} (hs : s.size ≤ 16) (hk : k < 5) (h : allOk s f 5 = true) (r : List UInt8) : part (pre s f 5 ++ r) k = fldF (isTab s) k (f k) := by
  obtain ⟨t, ht⟩ := pre_split s f k 5 hk
  obtain ⟨h1, h2⟩ := allOk_at 5 hk h
  unfold part
  rw [ht, List.append_assoc, List.append_assoc, List.drop_left' (pre_length hs k h1), List.take_left' (fldF_length h2)]
theorem nm_pre {s : ByteArray} {f : Nat → Int} (hn : nameOk s = true) (r : List UInt8) : nm (pre s f 5 ++ r) = s := by
  obtain ⟨_, hs, _, hx⟩ := nameOk_iff.1 hn
  apply by_inj
  rw [by_nm]
  have e : (pre s f 5 ++ r).take 16 = by_ s ++ List.replicate (16 - s.size) 32 := by
    have e2 : pre s f 5 = pre s f 0 ++ (fldF (isTab s) 0 (f 0) ++ (fldF (isTab s) 1 (f 1) ++ (fldF (isTab s) 2 (f 2) ++ (fldF (isTab s) 3 (f 3) ++ fldF (isTab s) 4 (f 4))))) := by simp [pre]
    rw [e2, List.append_assoc]
    exact List.take_left' (pre_length hs 0 rfl)
  rw [e, trim_pad hx]

/-- What was encoded is decoded. -/
theorem dec_enc {s : ByteArray} {f : Nat → Int} (hn : nameOk s = true) (h : allOk s f 5 = true) (r : List UInt8) :
    derr (pre s f 5 ++ [96, 10] ++ r) = 0 ∧ dname (pre s f 5 ++ [96, 10] ++ r) = s ∧ ∀ k, k < 5 → dnum (pre s f 5 ++ [96, 10] ++ r) k = f k := by
  have hs := (nameOk_iff.1 hn).2.1
  have hl : (pre s f 5).length = 58 := pre_length hs 5 h
  rw [List.append_assoc]
  have hnm : nm (pre s f 5 ++ ([96, 10] ++ r)) = s := nm_pre hn _
  have hrd : ∀ k, k < 5 → rdF (isTab s) k (part (pre s f 5 ++ ([96, 10] ++ r)) k) = some (f k).toNat ∧ (((f k).toNat : Nat) : Int) = f k := fun k hk => by
    rw [part_pre hs hk h]; exact rdF_fldF (allOk_at 5 hk h).2
  have hall : ∀ j, j ≤ 5 → allRd (pre s f 5 ++ ([96, 10] ++ r)) j = true := by
    intro j
    induction j with
    | zero => intro _; rfl
    | succ j ih => intro hj; exact allRd_next (ih (by omega)) (by rw [hnm]; exact (hrd j (by omega)).1)
  have h0 : derr (pre s f 5 ++ ([96, 10] ++ r)) = 0 := by
    refine derr_0 ?_ ?_ (by rw [hnm]; exact hn) (hall 5 (by omega))
    · simp [hl]; omega
    · rw [List.drop_left' hl]; rfl
  refine ⟨h0, ?_, fun k hk => ?_⟩
  · unfold dname; rw [if_pos h0, hnm]
  · unfold dnum; rw [if_pos h0, hnm, (hrd k hk).1]
    exact (hrd k hk).2

end Go.Proofs.YtpedngfmjhpojaaGreatDoor.Hdr
