/-
  Format, Parse and Digits in the forms that callers want.
-/
import Derived.Test.YtnkdcecpbjhdmaaDoorDech
namespace Go.Proofs.YtnkdcecpbjhdmaaDoor.Dec
open Go.RowKit Go.Proofs Go.Proofs.YtnkdcecpbjhdmaaDoor.Byt

/-- Parse of a field. -/
theorem parse_fit (n b wd : Nat) (hb : vb (b : Int) = true) (hw : 1 ≤ wd ∧ wd ≤ 18) (h2 : nd b n ≤ wd) (K : Nat) (A : Option Addr) (c : Nat) (w : World) (hr : Rd w K A wd (field b n wd)) (hc : wd ≤ c) :
    Calls Tryd.prog 42 #[.slice A wd c, .int .i64 (b : Int)] w fun e w' => e = .returned (.tuple #[.int .i64 (n : Int), .int .i64 0]) ∧ w = w' := by
  have hb2 : 2 ≤ b := by have := vb_iff.1 hb; omega
  have hb3 : b ≤ 10 := by have := vb_iff.1 hb; omega
  have h0 := perr_0 (l := field b n wd) (b := b) ⟨hb, by rw [field_length hb2 h2]; exact vw_iff.2 (by omega)⟩ (n := n) (by rw [Int.toNat_natCast]; exact parse_field hb2 hb3 _ _)
  refine (parse_any K A wd c (field b n wd) b w hr hc).mono fun e w' ⟨he, hw'⟩ => ⟨?_, hw'⟩
  rw [he, h0.1, h0.2]

theorem digits_any (n b : Int) (hn : n < 9223372036854775808) (w : World) : Calls Tryd.prog 43 #[.int .i64 n, .int .i64 b] w fun e w' => e = .returned (.int .i64 (dgs n b)) ∧ w = w' := by
  by_cases h : 0 ≤ n ∧ vb b = true
  · obtain ⟨b', rfl⟩ := Int.eq_ofNat_of_zero_le (a := b) (by have := vb_iff.1 h.2; omega)
    obtain ⟨n', rfl⟩ := Int.eq_ofNat_of_zero_le h.1
    refine (digits_some n' b' h.2 (by omega) w).mono fun e w' ⟨he, hw⟩ => ⟨?_, hw⟩
    rw [he]
    unfold dgs
    rw [if_pos h, Int.toNat_natCast, Int.toNat_natCast]
  · refine (digits_none n b h w).mono fun e w' ⟨he, hw⟩ => ⟨?_, hw⟩
    rw [he]
    unfold dgs
    rw [if_neg h]
theorem fout_small (a b wd : Int) : (fout a b wd).length ≤ 140737488355328 := by
  unfold fout
  split
  · rename_i h
    unfold ferr at h
    split at h
    · rename_i hv
      split at h
      · rename_i h2
        have := vw_iff.1 hv.2
        rw [field_length (by have := vb_iff.1 hv.1; omega) (by omega)]
        omega
      · omega
    · omega
  · simp

end Go.Proofs.YtnkdcecpbjhdmaaDoor.Dec
