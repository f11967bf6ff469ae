/-
  Encoding and decoding undo each other: the plain mathematics.
-/
import Derived.Test.YtfhdgbpkhcnanaaDoorHdj
namespace Go.Proofs.YtfhdgbpkhcnanaaDoor.Hdr
open Go.RowKit Go.Proofs Go.Proofs.YtfhdgbpkhcnanaaDoor.Byt Go.Proofs.YtfhdgbpkhcnanaaDoor.Str Go.Proofs.YtfhdgbpkhcnanaaDoor.Dec

theorem suffix_32 (xs : List UInt8) (c : UInt8) : Lib.hasSuffix (xs ++ [c]) [32] = (32 == c) := by
  unfold Lib.hasSuffix List.isSuffixOf
  simp [List.isPrefixOf]
theorem suffix_nil : Lib.hasSuffix [] [32] = false := rfl

/-- Trailing spaces taken away. -/
theorem trim_pad {xs : List UInt8} (h : Lib.hasSuffix xs [32] = false) (k : Nat) : Lib.trimRightB (xs ++ List.replicate k 32) 32 = xs := by
  unfold Lib.trimRightB
  rw [List.reverse_append, List.reverse_replicate]
  have h1 : (List.replicate k (32 : UInt8) ++ xs.reverse).dropWhile (· == 32) = xs.reverse.dropWhile (· == 32) := by
    induction k with
    | zero => rfl
    | succ k ih => simp [List.replicate_succ]
  rw [h1]
  rcases List.eq_nil_or_concat xs with rfl | ⟨ys, c, rfl⟩
  · rfl
  · rw [List.concat_eq_append, suffix_32] at h
    have hc : (c == 32) = false := by
      rw [beq_eq_false_iff_ne] at h ⊢
      exact fun e => h e.symm
    simp [hc]
/-- What is taken away is spaces. -/
theorem trim_split (xs : List UInt8) : ∃ k, xs = Lib.trimRightB xs 32 ++ List.replicate k 32 := by
  refine by_snoc (P := fun xs => ∃ k, xs = Lib.trimRightB xs 32 ++ List.replicate k 32) ⟨0, rfl⟩ (fun l c ih => ?_) xs
  by_cases hc : c = 32
  · subst hc
    obtain ⟨k, hk⟩ := ih
    have e : Lib.trimRightB (l ++ [32]) 32 = Lib.trimRightB l 32 := by unfold Lib.trimRightB; simp
    refine ⟨k + 1, ?_⟩
    rw [e, List.replicate_succ', ← List.append_assoc, ← hk]
  · refine ⟨0, ?_⟩
    have e : Lib.trimRightB (l ++ [c]) 32 = l ++ [c] := by unfold Lib.trimRightB; simp [hc]
    rw [e]; simp
theorem by_inj {s s' : ByteArray} (h : by_ s = by_ s') : s = s' := by
  obtain ⟨⟨a⟩⟩ := s
  obtain ⟨⟨b⟩⟩ := s'
  simp only [by_] at h
  rw [h]

theorem off_mono (k j : Nat) (h : k ≤ j) : off k ≤ off j := by
  induction j with
  | zero => obtain rfl : k = 0 := by omega
            exact Nat.le_refl _
  | succ j ih =>
    by_cases e : k = j + 1
    · subst e; exact Nat.le_refl _
    · have := ih (by omega)
      show _ ≤ off j + wd j
      omega
theorem pre_split (s : ByteArray) (f : Nat → Int) (k : Nat) : ∀ j, k < j → ∃ t, pre s f j = pre s f k ++ (fldF (isTab s) k (f k) ++ t)
  | 0, h => by omega
  | j + 1, h => by
    by_cases e : k = j
    · subst e; exact ⟨[], by simp [pre]⟩
    · obtain ⟨t, ht⟩ := pre_split s f k j (by omega)
      exact ⟨t ++ fldF (isTab s) j (f j), by simp [pre, ht]⟩
theorem allOk_at {s : ByteArray} {f : Nat → Int} {k : Nat} : ∀ j, k < j → allOk s f j = true → allOk s f k = true ∧ okF (isTab s) k (f k) = true
  | 0, h, _ => by omega
  | j + 1, h, ha => by
    simp only [allOk, Bool.and_eq_true] at ha
    by_cases e : k = j
    · subst e; exact ha
    · exact allOk_at j (by omega) ha.1

theorem rdF_fldF {tab : Bool} {k : Nat} {n : Int} (h : okF tab k n = true) : rdF tab k (fldF tab k n) = some n.toNat ∧ ((n.toNat : Nat) : Int) = n := by
  unfold okF at h
  unfold rdF fldF
  split
  · rename_i ht
    rw [if_pos ht, beq_iff_eq] at h
    subst h
    rw [if_pos (by simp [spaces])]
    exact ⟨rfl, rfl⟩
  · rename_i ht
    rw [if_neg ht, Bool.and_eq_true, decide_eq_true_eq, decide_eq_true_eq] at h
    exact ⟨parse_field (bs_2 k).1 (bs_2 k).2 _ _, by omega⟩

theorem part_pre {s : ByteArray} {f : Nat → Int} {k : Nat} (hs : s.size ≤ 16) (hk : k < 5) (h : allOk s f 5 = true) (r : List UInt8) : part (pre s f 5 ++ r) k = fldF (isTab s) k (f k) := by
  obtain ⟨t, ht⟩ := pre_split s f k 5 hk
  obtain ⟨h1, h2⟩ := allOk_at 5 hk h
  unfold part
  rw [ht, List.append_assoc, List.append_assoc, List.drop_left' (pre_length hs k h1), List.take_left' (fldF_length h2)]
theorem nm_pre {s : ByteArray} {f : Nat → Int} (hn : nameOk s = true) (r : List UInt8) : nm (pre s f 5 ++ r) = s := by
  obtain ⟨_, hs, _, hx⟩ := nameOk_iff.1 hn
  apply by_inj
  rw [by_nm]
  have e : (pre s f 5 ++ r).take 16 = by_ s ++ List.replicate (16 - s.size) 32 := by
    have e2 : pre s f 5 = pre s f 0 ++ (fldF (isTab s) 0 (f 0) ++ (fldF (isTab s) 1 (f 1) ++ (fldF (isTab s) 2 (f 2) ++ (fldF (isTab s) 3 (f 3) ++ fldF (isTab s) 4 (f 4))))) := by simp [pre]
    rw [e2, List.append_assoc]
    exact List.take_left' (pre_length hs 0 rfl)
  rw [e, trim_pad hx]

/-- What was encoded is decoded. -/
theorem dec_enc {s : ByteArray} {f : Nat → Int} (hn : nameOk s = true) (h : allOk s f 5 = true) (r : List UInt8) :
    derr (pre s f 5 ++ [96, 10] ++ r) = 0 ∧ dname (pre s f 5 ++ [96, 10] ++ r) = s ∧ ∀ k, k < 5 → dnum (pre s f 5 ++ [96, 10] ++ r) k = f k := by
  have hs := (nameOk_iff.1 hn).2.1
  have hl : (pre s f 5).length = 58 := pre_length hs 5 h
  rw [List.append_assoc]
  have hnm : nm (pre s f 5 ++ ([96, 10] ++ r)) = s := nm_pre hn _
  have hrd : ∀ k, k < 5 → rdF (isTab s) k (part (pre s f 5 ++ ([96, 10] ++ r)) k) = some (f k).toNat ∧ (((f k).toNat : Nat) : Int) = f k := fun k hk => by
    rw [part_pre hs hk h]; exact rdF_fldF (allOk_at 5 hk h).2
  have hall : ∀ j, j ≤ 5 → allRd (pre s f 5 ++ ([96, 10] ++ r)) j = true := by
    intro j
    induction j with
    | zero => intro _; rfl
    | succ j ih => intro hj; exact allRd_next (ih (by omega)) (by rw [hnm]; exact (hrd j (by omega)).1)
  have h0 : derr (pre s f 5 ++ ([96, 10] ++ r)) = 0 := by
    refine derr_0 ?_ ?_ (by rw [hnm]; exact hn) (hall 5 (by omega))
    · simp [hl]; omega
    · rw [List.drop_left' hl]; rfl
  refine ⟨h0, ?_, fun k hk => ?_⟩
  · unfold dname; rw [if_pos h0, hnm]
  · unfold dnum; rw [if_pos h0, hnm, (hrd k hk).1]
    exact (hrd k hk).2

theorem fldF_rdF {tab : Bool} {k x : Nat} {p : List UInt8} (hl : p.length = wd k) (h : rdF tab k p = some x) : okF tab k (x : Int) = true ∧ fldF tab k (x : Int) = p := by
  unfold rdF at h
  unfold okF fldF
  split at h
  · rename_i ht
    rw [if_pos ht, if_pos ht]
    split at h
    · rename_i hsp
      injection h with h
      subst h
      refine ⟨rfl, ?_⟩
      unfold spaces at hsp
      refine (List.eq_replicate_iff.2 ⟨hl, fun b hb => ?_⟩).symm
      have := List.all_eq_true.1 hsp b hb
      simpa using this
    · cases h
  · rename_i ht
    rw [if_neg ht, if_neg ht, Int.toNat_natCast]
    obtain ⟨h1, h2⟩ := (parse_iff (bs_2 k).1 (bs_2 k).2).1 h
    rw [hl] at h1 h2
    refine ⟨by simp [h1], ?_⟩
    unfold field
    exact h2.symm
theorem allRd_at {l : List UInt8} {k : Nat} : ∀ j, k < j → allRd l j = true → ∃ x, rdF (isTab (nm l)) k (part l k) = some x
  | 0, h, _ => by omega
  | j + 1, h, ha => by
    simp only [allRd, Bool.and_eq_true] at ha
    by_cases e : k = j
    · subst e; exact Option.isSome_iff_exists.1 ha.2
    · exact allRd_at j (by omega) ha.1

theorem derr_ok {l : List UInt8} (h : derr l = 0) : 60 ≤ l.length ∧ (l.drop 58).take 2 = [96, 10] ∧ nameOk (nm l) = true ∧ allRd l 5 = true := by
  unfold derr at h
  split at h
  · omega
  · split at h
    · omega
    · split at h
      · omega
      · split at h
        · omega
        · rename_i h1 h2 h3 h4
          exact ⟨by omega, by simpa using h2, by simpa using h3, by simpa using h4⟩

/-- What was decoded is encoded as the bytes that were read. -/
theorem enc_dec {l : List UInt8} (h : derr l = 0) (f : Nat → Int) (hf : ∀ k, k < 5 → f k = dnum l k) : eerr (nm l) f = 0 ∧ eout (nm l) f = l.take 60 := by
  obtain ⟨hl, hm, hn, hr⟩ := derr_ok h
  have hk : ∀ k, k < 5 → okF (isTab (nm l)) k (f k) = true ∧ fldF (isTab (nm l)) k (f k) = part l k := by
    intro k hk
    obtain ⟨x, hx⟩ := allRd_at 5 hk hr
    have e : f k = (x : Int) := by rw [hf k hk]; unfold dnum; rw [if_pos h, hx]; rfl
    rw [e]
    exact fldF_rdF (part_length hl k hk) hx
  have hp : ∀ j, j ≤ 5 → allOk (nm l) f j = true ∧ pre (nm l) f j = l.take (off j) := by
    intro j
    induction j with
    | zero =>
      intro _
      refine ⟨rfl, ?_⟩
      show by_ (nm l) ++ List.replicate (16 - (nm l).size) 32 = l.take 16
      obtain ⟨q, hq⟩ := trim_split (l.take 16)
      rw [← by_nm] at hq
      have hlen := congrArg List.length hq
      rw [List.length_append, List.length_replicate, List.length_take, by_length] at hlen
      have e : 16 - (nm l).size = q := by omega
      rw [e]
      exact hq.symm
    | succ j ih =>
      intro hj
      obtain ⟨h1, h2⟩ := ih (by omega)
      obtain ⟨h3, h4⟩ := hk j (by omega)
      refine ⟨by simp only [allOk, h1, h3]; rfl, ?_⟩
      simp only [pre, off]
      rw [h2, h4, List.take_add]
      rfl
  obtain ⟨h5, h6⟩ := hp 5 (Nat.le_refl _)
  obtain ⟨e1, e2⟩ := eerr_0 hn h5
  refine ⟨e1, ?_⟩
  rw [e2, h6, ← hm]
  exact (List.take_add (l := l) (i := 58) (j := 2)).symm
end Go.Proofs.YtfhdgbpkhcnanaaDoor.Hdr
