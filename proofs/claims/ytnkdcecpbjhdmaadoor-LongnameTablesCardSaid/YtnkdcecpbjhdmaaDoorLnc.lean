/-
  longname: the offset in a field; whether a name begins there.
-/
import Derived.Test.YtnkdcecpbjhdmaaDoorLnb
namespace Go.Proofs.YtnkdcecpbjhdmaaDoor.Lnm
open Go.RowKit Go.Proofs Go.Proofs.YtnkdcecpbjhdmaaDoor.Byt Go.Proofs.YtnkdcecpbjhdmaaDoor.Str3 Go.Proofs.YtnkdcecpbjhdmaaDoor.Dec

/-- Whether an entry begins at k. -/
def beg (l : List UInt8) (k : Nat) : Bool := decide (k < l.length) && (k == 0 || l[k - 1]? == some 10)

set_option maxHeartbeats 1000000 in
theorem begins_any (K : Nat) (A : Option Addr) (n c : Nat) (l : List UInt8) (k : Nat) (w : World) (hr : Rd w K A n l) (_ : n ≤ c) (hk : k < 9223372036854775808) :
    Calls Tryd.prog 33 #[.slice A n c, .int .i64 (k : Int)] w fun e w' => e = .returned (.bool (beg l k)) ∧ w = w' := by
  have hl := hr.1
  by_cases h1 : k < n
  · by_cases h0 : k = 0
    · subst h0
      have Hr : Hid (beg l 0 = true) := hid (by unfold beg; simp; omega)
      clear hl
      go_enter Tryd.func33, Tryd.ntmps33
      go_wp2_with fail
      go_ret
      exact ⟨ret_bool Hr.out.symm, rfl⟩
    · obtain ⟨j, rfl⟩ : ∃ j, k = j + 1 := ⟨k - 1, by omega⟩
      obtain ⟨b, o, rfl, hb, hcell⟩ := hr.2 j (by omega)
      have hsub : ((j + 1 : Nat) : Int) - 1 = (j : Int) := by omega
      have hz : (((j + 1 : Nat) : Int) == 0) = false := by rw [beq_eq_false_iff_ne]; omega
      obtain ⟨x, hx⟩ : ∃ x : UInt8, l[j]'(by omega) = x := ⟨_, rfl⟩
      have Hr : Hid (beg l (j + 1) = (x == 10)) := hid (by
        unfold beg
        rw [show j + 1 - 1 = j from rfl, List.getElem?_eq_getElem (by omega : j < l.length), hx]
        simp; omega)
      rw [hx] at hcell
      clear hx
      by_cases hx : x = 10
      · have hq : ((x.toNat : Int) == 10) = true := u8_eq hx
        have Hr' : Hid (beg l (j + 1) = true) := hid (by rw [Hr.out, hx]; rfl)
        clear hx Hr hl
        go_enter Tryd.func33, Tryd.ntmps33
        go_wp2_with fail
        go_ret
        exact ⟨ret_bool Hr'.out.symm, rfl⟩
      · have hq : ((x.toNat : Int) == 10) = false := u8_ne hx
        have Hr' : Hid (beg l (j + 1) = false) := hid (by rw [Hr.out]; simpa using hx)
        clear hx Hr hl
        go_enter Tryd.func33, Tryd.ntmps33
        go_wp2_with fail
        go_ret
        exact ⟨ret_bool Hr'.out.symm, rfl⟩
  · have Hr : Hid (beg l k = false) := hid (by unfold beg; simp; omega)
    clear hl
    go_enter Tryd.func33, Tryd.ntmps33
    go_wp2_with fail
    go_ret
    exact ⟨ret_bool Hr.out.symm, rfl⟩

/-- The offset in a field. -/
def poff : List UInt8 → Option Nat
  | 47 :: d => if d.length ≤ 15 then (match parse 10 d with | some n => if nd 10 n = d.length then some n else none | none => none) else none
  | _ => none
theorem poff_some {l : List UInt8} {k : Nat} (h : poff l = some k) : l = 47 :: tx 10 k ∧ (tx 10 k).length ≤ 15 := by
  unfold poff at h
  split at h
  · rename_i d
    split at h
    · rename_i hd
      split at h
      · rename_i n hp
        split at h
        · rename_i hn
          injection h with h
          subst h
          have h1 := (parse_some (B := 10) (by omega) (by omega) hp).2
          rw [hn, Nat.sub_self, List.replicate_zero, List.append_nil] at h1
          rw [← h1]
          exact ⟨rfl, hd⟩
        · cases h
      · cases h
    · cases h
  · cases h
theorem poff_tx {k : Nat} (h : (tx 10 k).length ≤ 15) : poff (47 :: tx 10 k) = some k := by
  unfold poff
  have h1 := parse_tx (B := 10) (by omega) (by omega) k 0
  rw [List.replicate_zero, List.append_nil] at h1
  have h2 := tx_length (B := 10) (by omega) k
  rw [h2] at h
  simp only [h2, h, if_true, h1]

theorem cutp_yes (d : List UInt8) (w : World) : Calls Tryd.prog 41 #[.string (str (47 :: d)), .string ⟨#[47]⟩] w fun e w' => e = .returned (.tuple #[.string (str d), .bool true]) ∧ w = w' :=
  (Tryd.strings_CutPrefix _ _ w).mono fun e w' ⟨he, hw⟩ => ⟨by
    rw [he]
    have h1 : (str (47 :: d)).data.toList = 47 :: d := bts_str _
    have h2 : (ByteArray.mk #[47]).data.toList = [47] := rfl
    have h3 : Lib.hasPrefix (47 :: d) [47] = true := by unfold Lib.hasPrefix; simp
    unfold Lib.trimPrefix
    rw [h1, h2, h3]
    rfl, hw.symm⟩
theorem cutp_no (s : ByteArray) (h : Lib.hasPrefix (bts s) [47] = false) (w : World) : Calls Tryd.prog 41 #[.string s, .string ⟨#[47]⟩] w fun e w' => e = .returned (.tuple #[.string s, .bool false]) ∧ w = w' :=
  (Tryd.strings_CutPrefix _ _ w).mono fun e w' ⟨he, hw⟩ => ⟨by
    rw [he]
    have h2 : (ByteArray.mk #[47]).data.toList = [47] := rfl
    have h1 : s.data.toList = bts s := rfl
    unfold Lib.trimPrefix
    rw [h1, h2, h]
    show Ending.returned (.tuple #[.string (str (bts s)), .bool false]) = _
    rw [str_bts], hw.symm⟩

/-- What Poff gives. -/
def pk (o : Option Nat) : Int := match o with | some k => (k : Int) | none => 0

theorem perr_10 (d : List UInt8) (h : d.length ≤ 15) : (∃ n, parse 10 d = some n ∧ perr d 10 = 0 ∧ pval d 10 = (n : Int) ∧ n < 1000000000000000000) ∨ (parse 10 d = none ∧ perr d 10 ≠ 0) := by
  by_cases h0 : d.length = 0
  · right
    have : d = [] := List.eq_nil_of_length_eq_zero h0
    subst this
    exact ⟨by decide +kernel, by decide +kernel⟩
  · have hv : vb 10 = true ∧ vw (d.length : Int) = true := ⟨rfl, vw_iff.2 (by omega)⟩
    rcases hp : parse 10 d with _ | n
    · right
      exact ⟨rfl, by rw [(perr_3 hv hp).1]; decide⟩
    · left
      refine ⟨n, rfl, (perr_0 hv hp).1, (perr_0 hv hp).2, ?_⟩
      have h1 := lt_pow (B := 10) (by omega) n
      have h2 := (parse_some (B := 10) (by omega) (by omega) hp).1
      have h3 : 10 ^ nd 10 n ≤ 10 ^ 18 := Nat.pow_le_pow_right (by omega) (by omega)
      omega

set_option maxHeartbeats 1000000 in
theorem poff_any (s : ByteArray) (w : World) (hs : s.size ≤ 140737488355328) :
    Calls Tryd.prog 32 #[.string s] w fun e w' => e = .returned (.tuple #[.int .i64 (pk (poff (bts s))), .bool (poff (bts s)).isSome]) ∧ Below w.heap.size w w' := by
  by_cases hp : Lib.hasPrefix (bts s) [47] = true
  · obtain ⟨d, hd⟩ : ∃ d, bts s = 47 :: d := by
      unfold Lib.hasPrefix at hp
      obtain ⟨t, ht⟩ := List.isPrefixOf_iff_prefix.1 hp
      exact ⟨t, ht.symm⟩
    obtain rfl : s = str (47 :: d) := by rw [← hd, str_bts]
    rw [str_size] at hs
    have hs' : d.length ≤ 140737488355328 := by simp at hs; omega
    have hsz : (str d).size = d.length := str_size d
    have Hsz := hid hsz
    rw [bts_str]
    clear hp hd hs hsz
    by_cases h15 : d.length ≤ 15
    · have hb15 : ¬ (15 < (str d).size) := by rw [Hsz.out]; omega
      have hb15z : ¬ ((15 : Int) < ((str d).size : Int)) := by omega
      rcases perr_10 d h15 with ⟨n, p1, p2, p3, p4⟩ | ⟨p1, p2⟩
      · have hg : Hid (dgs (n : Int) 10 = (nd 10 n : Int)) := hid (by unfold dgs; rw [if_pos ⟨by omega, rfl⟩]; rfl)
        by_cases hn : nd 10 n = d.length
        · have Hr : Hid (poff (47 :: d) = some n) := hid (by unfold poff; simp only [h15, if_true, p1, hn])
          have hne : ((nd 10 n : Int) != ((str d).size : Int)) = false := by rw [Hsz.out, hn]; simp
          have HP := hid (And.intro p2 p3)
          clear p1 p2 p3 hn
          go_enter Tryd.func32, Tryd.ntmps32
          go_wp2_with fail
          refine (cutp_yes d _).mono ?_
          rintro e w1 ⟨rfl, rfl⟩
          go_wp2_with (refine wpList_bytes _ d (by omega) w.heap.size (Nat.le_refl _) rfl _ rfl rfl ?_; intro v1 w1 hown1 hb1)
          obtain ⟨A, c, rfl, hr, hc, _⟩ := hown1.reads
          go_wp2_with fail
          refine (parse_any _ A _ c d 10 _ hr hc).mono ?_
          rintro e w2 ⟨rfl, rfl⟩
          rw [HP.out.1, HP.out.2]
          go_wp2_with fail
          refine (digits_any (n : Int) 10 (by omega) _).mono ?_
          rintro e w2 ⟨rfl, rfl⟩
          rw [hg.out]
          go_wp2_with fail
          go_ret2
          exact ⟨by rw [Hr.out]; rfl, hb1⟩
        · have Hr : Hid (poff (47 :: d) = none) := hid (by unfold poff; simp only [h15, if_true, p1, hn, if_false])
          have hne : ((nd 10 n : Int) != ((str d).size : Int)) = true := by rw [Hsz.out]; simp; omega
          have HP := hid (And.intro p2 p3)
          clear p1 p2 p3 hn
          go_enter Tryd.func32, Tryd.ntmps32
          go_wp2_with fail
          refine (cutp_yes d _).mono ?_
          rintro e w1 ⟨rfl, rfl⟩
          go_wp2_with (refine wpList_bytes _ d (by omega) w.heap.size (Nat.le_refl _) rfl _ rfl rfl ?_; intro v1 w1 hown1 hb1)
          obtain ⟨A, c, rfl, hr, hc, _⟩ := hown1.reads
          go_wp2_with fail
          refine (parse_any _ A _ c d 10 _ hr hc).mono ?_
          rintro e w2 ⟨rfl, rfl⟩
          rw [HP.out.1, HP.out.2]
          go_wp2_with fail
          refine (digits_any (n : Int) 10 (by omega) _).mono ?_
          rintro e w2 ⟨rfl, rfl⟩
          rw [hg.out]
          go_wp2_with fail
          go_ret2
          exact ⟨by rw [Hr.out]; rfl, hb1⟩
      · have Hr : Hid (poff (47 :: d) = none) := hid (by unfold poff; simp only [h15, if_true, p1])
        have hne : (perr d 10 != 0) = true := by simpa using p2
        clear p1 p2
        go_enter Tryd.func32, Tryd.ntmps32
        go_wp2_with fail
        refine (cutp_yes d _).mono ?_
        rintro e w1 ⟨rfl, rfl⟩
        go_wp2_with (refine wpList_bytes _ d (by omega) w.heap.size (Nat.le_refl _) rfl _ rfl rfl ?_; intro v1 w1 hown1 hb1)
        obtain ⟨A, c, rfl, hr, hc, _⟩ := hown1.reads
        go_wp2_with fail
        refine (parse_any _ A _ c d 10 _ hr hc).mono ?_
        rintro e w2 ⟨rfl, rfl⟩
        go_wp2_with fail
        go_ret2
        exact ⟨by rw [Hr.out]; rfl, hb1⟩
    · have Hr : Hid (poff (47 :: d) = none) := hid (by unfold poff; simp only [h15, if_false])
      have hb15 : 15 < (str d).size := by rw [Hsz.out]; omega
      have hb15z : ((15 : Int) < ((str d).size : Int)) := by omega
      go_enter Tryd.func32, Tryd.ntmps32
      go_wp2_with fail
      refine (cutp_yes d _).mono ?_
      rintro e w1 ⟨rfl, rfl⟩
      go_wp2_with fail
      go_ret2
      exact ⟨by rw [Hr.out]; rfl, Below.refl _ _⟩
  · have hp' : Lib.hasPrefix (bts s) [47] = false := by simpa using hp
    have Hr : Hid (poff (bts s) = none) := hid (by
      unfold poff
      split
      · rename_i d e
        rw [e] at hp'
        unfold Lib.hasPrefix at hp'
        simp at hp'
      · rfl)
    clear hp
    go_enter Tryd.func32, Tryd.ntmps32
    go_wp2_with fail
    refine (cutp_no s hp' _).mono ?_
    rintro e w1 ⟨rfl, rfl⟩
    go_wp2_with fail
    go_ret2
    exact ⟨by rw [Hr.out]; rfl, Below.refl _ _⟩
end Go.Proofs.YtnkdcecpbjhdmaaDoor.Lnm
